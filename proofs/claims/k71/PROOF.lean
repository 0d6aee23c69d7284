import PyProof.Rows.All
import Wide.All
import OpenK.AllK
import Wide.FinOn
import Lean
import PyProof.EqAt
import PyProof.EqKinds
import PyProof.TupleCall
import PyProof.StrBlockL
import PyProof.EnumMake
import PyProof.CollectIter
import PyProof.JoinWalk
import PyProof.StrOps
import PyProof.StrLawsIdx
import PyProof.StrLawsIn
import PyProof.ListRange
import PyProof.Rows.Range3
import PyProof.Rows.SumAny
import KE.KIntText
import KE.LcSums
import PyProof.LongRange
import PyProof.StrOps2
import PyProof.FitsBits
import PyProof.NeKinds
import PyProof.ConsumeWalk
import PyProof.Rows.ZipGen
import PyProof.Draws
import PyProof.Rows.SeqMore
import PyProof.Rows.SortRev
import PyProof.Rows.SortWalk
import PyProof.Rows.CallKwBuiltin
import PyProof.Rows.MinMaxN
import PyProof.Rows.SortRuns
import KE.KLam
import KE.KSortKey
import KE.KRevIter
import PySem.Challenge.RW_heddle_k71_whole_layers_repeated
set_option Elab.async false
set_option linter.all false
set_option maxRecDepth 100000
/-! THE HAND LAYER, for ints, bools, texts, own classes, LISTS and tuples (index, slices, in, append, pop ..), calls, loops. Paste it whole ahead of your own text; what your proof does not reach may be deleted. -/
namespace L2
open PySem PySem.Spec PyProof.Rows

/-- a key: an int or a str -/
abbrev Key := Sum Int Str
def keyIs : Key → Value → Bool
  | .inl k, v => Value.isInt k v
  | .inr x, v => Value.isStrOf x v
def keyH (w : World) : Key → Int
  | .inl k => hashInt k
  | .inr x => hashStr w x
theorem keyIs_shape : ∀ {k : Key} {v : Value}, keyIs k v = true → (∃ i t, k = Sum.inl i ∧ v = Value.int i t) ∨ (∃ x t, k = Sum.inr x ∧ v = Value.str x t)
  | .inl i, v, h => by
    obtain ⟨t, e⟩ := Value.isInt_shape (k := i) (v := v) h
    exact .inl ⟨i, t, rfl, e⟩
  | .inr x, v, h => by
    obtain ⟨t, e⟩ := Value.isStrOf_shape (x := x) (v := v) h
    exact .inr ⟨x, t, rfl, e⟩
theorem key_ll (a b : Int) : decide ((Sum.inl a : Key) = Sum.inl b) = (a == b) := by
  by_cases e : a = b
  · subst e; simp
  · have h : ¬ (Sum.inl a : Key) = Sum.inl b := fun q => e (Sum.inl.inj q)
    rw [decide_eq_false h]
    exact (beq_eq_false_iff_ne.mpr e).symm
theorem key_rr (a b : Str) : decide ((Sum.inr a : Key) = Sum.inr b) = decide (a = b) := by
  by_cases e : a = b
  · subst e; simp
  · have h : ¬ (Sum.inr a : Key) = Sum.inr b := fun q => e (Sum.inr.inj q)
    rw [decide_eq_false h, decide_eq_false e]
theorem key_lr (a : Int) (b : Str) : decide ((Sum.inl a : Key) = Sum.inr b) = false := decide_eq_false (fun q => nomatch q)
theorem key_rl (a : Str) (b : Int) : decide ((Sum.inr a : Key) = Sum.inl b) = false := decide_eq_false (fun q => nomatch q)

def mixKind (prog : Program) (w : World) : PySem.KeyKind prog w Key where
  is := keyIs
  hash := keyH w
  inj := fun v a b ha hb => by
    rcases keyIs_shape ha with ⟨i, t, rfl, rfl⟩ | ⟨x, t, rfl, rfl⟩
    · rcases keyIs_shape hb with ⟨j, u, rfl, e⟩ | ⟨y, u, rfl, e⟩
      · injection e with e1 _; rw [e1]
      · exact nomatch e
    · rcases keyIs_shape hb with ⟨j, u, rfl, e⟩ | ⟨y, u, rfl, e⟩
      · exact nomatch e
      · injection e with e1 _; rw [e1]
  byValue := fun k v h => by
    rcases keyIs_shape h with ⟨i, t, rfl, rfl⟩ | ⟨x, t, rfl, rfl⟩ <;> rfl
  pyHash := fun hv h => by
    rcases keyIs_shape hv with ⟨i, t, rfl, rfl⟩ | ⟨x, t, rfl, rfl⟩
    · exact wpAny_pyHash_int h
    · exact wpAny_pyHash_str h
  eqBool := fun hu hv h => by
    rcases keyIs_shape hu with ⟨i, t, rfl, rfl⟩ | ⟨x, t, rfl, rfl⟩
    · rcases keyIs_shape hv with ⟨j, u, rfl, rfl⟩ | ⟨y, u, rfl, rfl⟩
      · rw [key_ll] at h; exact wpAny_eqBool_int h
      · rw [key_lr] at h; exact SeqAt.EqAt.int_str i t y u _ _ _ _ h
    · rcases keyIs_shape hv with ⟨j, u, rfl, rfl⟩ | ⟨y, u, rfl, rfl⟩
      · rw [key_rl] at h; exact SeqAt.EqAt.str_int x t j u _ _ _ _ h
      · rw [key_rr] at h; exact wpAny_eqBool_str h
  «strs» := fun k x t v h => by
    rcases keyIs_shape h with ⟨i, u, rfl, e⟩ | ⟨y, u, rfl, e⟩
    · exact nomatch e
    · injection e with e1 _
      subst e1
      cases v <;> rfl

end L2

namespace L2
open PySem PySem.Spec PyProof.Rows

/-- a value, without the heap -/
inductive V where
  | non | bl (b : Bool) | int (i : Int) | str (x : Str) | byt (b : Array UInt8) | flt (b : UInt64) | ref (a : Addr) | ty (n : String)
  deriving DecidableEq

def RelV : V → Value → Prop
  | .non, u => u = Value.none
  | .bl b, u => u = Value.bool b
  | .int i, u => ∃ t, u = Value.int i t
  | .str x, u => ∃ t, u = Value.str x t
  | .byt b, u => ∃ t, u = Value.bytes b t
  | .flt b, u => ∃ t, u = Value.float b t
  | .ref a, u => u = Value.ref a
  | .ty n, u => u = Value.type n

abbrev Vals : List V → List Value → Prop := Paired RelV
theorem Vals.length {xs : List V} {us : List Value} (r : Vals xs us) : xs.length = us.length := Paired.length r
theorem Vals.get : ∀ {xs : List V} {us : List Value} {i : Nat} {x : V}, Vals xs us → xs[i]? = some x → ∃ u, us[i]? = some u ∧ RelV x u
  | _, _, _, _, .nil, e => by simp at e
  | _, _, 0, _, .cons r _, e => by simp at e; subst e; exact ⟨_, rfl, r⟩
  | _, _, i + 1, x, .cons _ t, e => by
    obtain ⟨u, h1, h2⟩ := Vals.get (i := i) (x := x) t (by simpa using e)
    exact ⟨u, by simpa using h1, h2⟩
theorem Vals.set {x : V} {u : Value} (r : RelV x u) : ∀ {xs : List V} {us : List Value} (i : Nat), Vals xs us → Vals (xs.set i x) (us.set i u)
  | _, _, _, .nil => .nil
  | _, _, 0, .cons _ t => .cons r t
  | _, _, i + 1, .cons q t => .cons q (Vals.set r i t)
theorem Vals.append : ∀ {xs ys : List V} {us ws : List Value}, Vals xs us → Vals ys ws → Vals (xs ++ ys) (us ++ ws)
  | _, _, _, _, .nil, s => s
  | _, _, _, _, .cons r t, s => .cons r (Vals.append t s)
theorem Vals.take : ∀ {xs : List V} {us : List Value} (n : Nat), Vals xs us → Vals (xs.take n) (us.take n)
  | _, _, 0, _ => .nil
  | _, _, _ + 1, .nil => .nil
  | _, _, n + 1, .cons r t => .cons r (Vals.take n t)
theorem Vals.drop : ∀ {xs : List V} {us : List Value} (n : Nat), Vals xs us → Vals (xs.drop n) (us.drop n)
  | _, _, 0, r => r
  | _, _, _ + 1, .nil => .nil
  | _, _, n + 1, .cons _ t => Vals.drop n t
def RelO : Option V → Option Value → Prop
  | some v, some u => RelV v u
  | none, none => True
  | _, _ => False
def KV {κ : Type} : List (κ × V) → List (κ × Value) → Prop := Paired fun (p : κ × V) (q : κ × Value) => p.1 = q.1 ∧ RelV p.2 q.2

/-- a key of a dict (00_mix): an int or a text -/
def kV : Key → V
  | .inl i => .int i
  | .inr x => .str x

/-- what stands at a tracked address -/
inductive HO where
  /-- a list -/
  | lst (xs : List V)
  /-- a tuple (never changes) -/
  | tup (xs : List V)
  /-- a dict whose keys are ints and texts; one whose keys are tuples of ints and texts (the empty one is both) -/
  | dK (kvs : List (Key × V)) | dT (kvs : List (List Key × V))
  /-- a set of ints: its members, its size -/
  | set (S : Int → Bool) (n : Nat)
  /-- an instance of the class at C, its dict at dx, its attributes -/
  | ins (C dx : Addr) (fs : List (Str × V))
  /-- the dict of the instance at x -/
  | own (x : Addr)
  /-- the dict of an exception -/
  | xd (fs : List (Str × V))
  /-- a bound method, f of x -/
  | met (f x : Addr)
  /-- a range object lo, lo + 1, .. below hi -/
  | rng (lo hi : Int)
  /-- a thing that is known to the object (the script; a dict while a loop walks it): read, never written while it is so -/
  | frz (o : Obj) (u : HO)
  /-- a code object's table -/
  | tbl (ps : Array Value)
  /-- any other thing, by what is true of its one object (a def of one's own: SetO a S n := HO.ext fun h => ..) -/
  | ext (φ : Heap → Prop)

abbrev Hp := Addr → Option HO
def upd (H : Hp) (a : Addr) (o : HO) : Hp := fun b => if b = a then some o else H b
theorem upd_same {H : Hp} {a : Addr} {o : HO} : upd H a o a = some o := by unfold upd; rw [if_pos rfl]
theorem upd_ne {H : Hp} {a b : Addr} {o : HO} (h : b ≠ a) : upd H a o b = H b := by unfold upd; rw [if_neg h]
theorem upd_upd {H : Hp} {a : Addr} {o u : HO} : upd (upd H a o) a u = upd H a u := by
  funext b; unfold upd; split <;> rfl
theorem ne_of_none {H : Hp} {a b : Addr} {o : HO} (h : H a = some o) (h' : H b = none) : a ≠ b := by
  intro e; subst e; rw [h] at h'; cases h'

section
variable (P : Program) (w : World)
def ObjOk (H : Hp) (h : Heap) (a : Addr) : HO → Prop
  | .lst xs => xs.length ≤ sizeLine ∧ ∃ (its : List Value) (n : Nat), Vals xs its ∧ h.get? a = some { cls := .type "list", data := .seq its.toArray n }
  | .tup xs => xs.length ≤ sizeLine ∧ ∃ its : List Value, Vals xs its ∧ IsTup h a its.toArray
  | .dK kvs => kvs.length ≤ sizeLine ∧ (a == sysModules) = false ∧ ∃ vs, KV kvs vs ∧ h.DictOf (mixKind P w) a vs
  | .dT kvs => kvs.length ≤ sizeLine ∧ (a == sysModules) = false ∧ ∃ xs : List (List Key × Addr × Value),
      Paired (fun (p : List Key × V) (q : List Key × Addr × Value) => p.1 = q.1 ∧ H q.2.1 = some (.tup (p.1.map kV)) ∧ RelV p.2 q.2.2) kvs xs ∧
      ∃ o es ep, h.get? a = some o ∧ o.ExactDict ∧ o.data = .dict es ep ∧ es.toList = xs.map (entryOfKey (tupleKind (mixKind P w))) ∧ (xs.map (·.1)).Nodup
  | .set S n => h.SetOf (intKind P w) a S n
  | .ins C dx fs => H dx = some (.own a) ∧ fs.length ≤ 1000 ∧ dx ≠ a ∧ h.get? a = some (PySem.W.instObj C dx) ∧
      ∃ mA, h.Ns1 dx mA ∧ (∀ f, RelO (fs.lookup f) (mA f)) ∧ PySem.Within mA (fs.map (·.1))
  | .own _ => ∃ o, h.get? a = some o
  | .xd fs => ∃ mA, h.Ns1 a mA ∧ ∀ f, RelO (fs.lookup f) (mA f)
  | .rng lo hi => ∃ t u v, h.get? a = some { cls := .type "range", data := .fields #[.int lo t, .int hi u, .int 1 v] }
  | .frz o u => h.get? a = some o ∧ ObjOk H h a u
  | .tbl ps => h.get? a = some { cls := .none, data := .fields ps }
  | .met f x => h.get? a = some (PySem.W.methodObj (.ref f) (.ref x))
  | .ext φ => φ h ∧ (∃ o, h.get? a = some o) ∧ ∀ h1 h2 : Heap, φ h1 → (∀ o, h1.get? a = some o → h2.get? a = some o) → φ h2
/-- the abstract heap is held -/
def HOk (H : Hp) (h : Heap) : Prop := ∀ a o, H a = some o → ObjOk P w H h a o
end

section
variable {P : Program} {w : World} {H H' : Hp} {h h' : Heap} {a : Addr} {o : HO}
theorem ObjOk.lt (x : ObjOk P w H h a o) : a < h.objs.size := by
  cases o with
  | lst xs => obtain ⟨_, _, _, _, e⟩ := x; exact Heap.lt_size e
  | tup xs => obtain ⟨_, _, _, p⟩ := x; exact p.lt
  | dK kvs => obtain ⟨_, _, _, _, o, _, _, e, _⟩ := x; exact Heap.lt_size e
  | dT kvs => obtain ⟨_, _, _, _, o, _, _, e, _⟩ := x; exact Heap.lt_size e
  | set S n => obtain ⟨o, _, _, _, e, _⟩ := x; exact Heap.lt_size e
  | ins C dx fs => obtain ⟨_, _, _, e, _⟩ := x; exact Heap.lt_size e
  | own y => obtain ⟨_, e⟩ := x; exact Heap.lt_size e
  | xd fs => obtain ⟨_, ⟨_, _, _, e, _⟩, _⟩ := x; exact Heap.lt_size e
  | rng lo hi => obtain ⟨_, _, _, e⟩ := x; exact Heap.lt_size e
  | frz ob u => obtain ⟨e, _⟩ := x; exact Heap.lt_size e
  | tbl ps => exact Heap.lt_size (show h.get? a = some _ from x)
  | met f y => exact Heap.lt_size (show h.get? a = some _ from x)
  | ext φ => obtain ⟨_, ⟨_, e⟩, _⟩ := x; exact Heap.lt_size e
theorem Paired.mapP {α β : Type} {F G : α → β → Prop} : ∀ {l₁ : List α} {l₂ : List β}, Paired F l₁ l₂ → (∀ a b, F a b → G a b) → Paired G l₁ l₂
  | _, _, .nil, _ => .nil
  | _, _, .cons r t, f => .cons (f _ _ r) (Paired.mapP t f)
/-- what an object's description leans on: its own object, its own dict, the tuples -/
theorem ObjOk.stay (x : ObjOk P w H h a o) (k : ∀ b u, (b = a ∨ H b = some (.own a)) → h.get? b = some u → h'.get? b = some u)
    (ho : ∀ b, H b = some (.own a) → H' b = some (.own a)) (ht : ∀ b xs, H b = some (.tup xs) → H' b = some (.tup xs)) : ObjOk P w H' h' a o := by
  induction o with
  | lst xs => obtain ⟨z, its, n, r, e⟩ := x; exact ⟨z, its, n, r, k _ _ (.inl rfl) e⟩
  | tup xs => obtain ⟨z, its, r, ob, e, c⟩ := x; exact ⟨z, its, r, ob, k _ _ (.inl rfl) e, c⟩
  | dK kvs => obtain ⟨z, y, vs, r, ob, es, ep, e, c⟩ := x; exact ⟨z, y, vs, r, ob, es, ep, k _ _ (.inl rfl) e, c⟩
  | dT kvs =>
    obtain ⟨z, y, xs, r, ob, es, ep, e, c⟩ := x
    exact ⟨z, y, xs, Paired.mapP r fun p q z => ⟨z.1, ht _ _ z.2.1, z.2.2⟩, ob, es, ep, k _ _ (.inl rfl) e, c⟩
  | set S n => obtain ⟨ob, es, ep, t, e, c⟩ := x; exact ⟨ob, es, ep, t, k _ _ (.inl rfl) e, c⟩
  | ins C dx fs =>
    obtain ⟨d, z, ne, e, mA, ⟨od, es, ep, e2, c⟩, r⟩ := x
    exact ⟨ho _ d, z, ne, k _ _ (.inl rfl) e, mA, ⟨od, es, ep, k _ _ (.inr d) e2, c⟩, r⟩
  | own y => obtain ⟨ob, e⟩ := x; exact ⟨ob, k _ _ (.inl rfl) e⟩
  | xd fs => obtain ⟨mA, ⟨od, es, ep, e, c⟩, r⟩ := x; exact ⟨mA, ⟨od, es, ep, k _ _ (.inl rfl) e, c⟩, r⟩
  | rng lo hi => obtain ⟨t, u, v, e⟩ := x; exact ⟨t, u, v, k _ _ (.inl rfl) e⟩
  | frz ob u ih => obtain ⟨e, q⟩ := x; exact ⟨k _ _ (.inl rfl) e, ih q⟩
  | tbl ps =>
    have e : h.get? a = some { cls := .none, data := .fields ps } := x
    show h'.get? a = some { cls := .none, data := .fields ps }
    exact k a _ (.inl rfl) e
  | met f y =>
    have e : h.get? a = some (PySem.W.methodObj (.ref f) (.ref y)) := x
    show h'.get? a = some (PySem.W.methodObj (.ref f) (.ref y))
    exact k a _ (.inl rfl) e
  | ext φ => obtain ⟨p, ⟨o, e⟩, st⟩ := x; exact ⟨st _ _ p fun o q => k _ _ (.inl rfl) q, ⟨o, k _ _ (.inl rfl) e⟩, st⟩
theorem HOk.lt (x : HOk P w H h) (e : H a = some o) : a < h.objs.size := (x a o e).lt
theorem HOk.fresh (x : HOk P w H h) (e : h.objs.size ≤ a) : H a = none := by
  cases q : H a with
  | none => rfl
  | some u => exact absurd (Nat.lt_of_lt_of_le (x.lt q) e) (Nat.lt_irrefl _)
/-- every object of the heap is kept -/
theorem HOk.kept (x : HOk P w H h) (k : ∀ b u, h.get? b = some u → h'.get? b = some u) : HOk P w H h' := fun a o e =>
  (x a o e).stay (fun b u _ q => k b u q) (fun _ q => q) fun _ _ q => q
/-- a new object is laid and tracked -/
theorem HOk.laid (x : HOk P w H h) (k : ∀ b u, h.get? b = some u → h'.get? b = some u) (hp : h.objs.size ≤ a) (new : ObjOk P w (upd H a o) h' a o) : HOk P w (upd H a o) h' := fun b u e => by
  have hn := x.fresh hp
  by_cases hb : b = a
  · subst hb; rw [upd_same] at e; cases e; exact new
  · rw [upd_ne hb] at e
    exact (x b u e).stay (fun c v _ q => k c v q) (fun c q => by rw [upd_ne (ne_of_none q hn)]; exact q) fun c xs q => by rw [upd_ne (ne_of_none q hn)]; exact q
end

/-- what may be read as u: it is u, or a known u -/
def Rd (H : Hp) (a : Addr) (u : HO) : Prop := H a = some u ∨ ∃ o, H a = some (.frz o u)
theorem Rd.ok {P : Program} {w : World} {H : Hp} {h : Heap} {a : Addr} {u : HO} (r : Rd H a u) (x : HOk P w H h) : ObjOk P w H h a u := by
  rcases r with r | ⟨o, r⟩
  · exact x a u r
  · obtain ⟨_, q⟩ := x a _ r
    exact q
/-- what may be written -/
def Mut : Option HO → Prop
  | some (.lst _) => True
  | some (.dK _) => True
  | some (.dT _) => True
  | some (.set _ _) => True
  | some (.ins _ _ _) => True
  | some (.ext _) => True
  | _ => False
section
variable {P : Program} {w : World} {H : Hp} {h h' : Heap} {x e : Addr} {o' : HO}
/-- the object at e is changed: x itself, or the dict of the instance x -/
theorem HOk.write (ok : HOk P w H h) (mu : Mut (H x)) (he : e = x ∨ H e = some (.own x)) (k : ∀ b u, b ≠ e → h.get? b = some u → h'.get? b = some u) (heo : ∃ u, h'.get? e = some u)
    (new : ObjOk P w (upd H x o') h' x o') : HOk P w (upd H x o') h' := fun b u q => by
  have nown : ∀ c y, H c = some (.own y) → c ≠ x := fun c y r z => by subst z; rw [r] at mu; exact mu
  have ntup : ∀ c xs, H c = some (.tup xs) → c ≠ x := fun c xs r z => by subst z; rw [r] at mu; exact mu
  by_cases hb : b = x
  · subst hb; rw [upd_same] at q; cases q; exact new
  · rw [upd_ne hb] at q
    by_cases hbe : b = e
    · have q' : H b = some (.own x) := by
        rcases he with z | z
        · exact absurd (hbe.trans z) hb
        · rw [hbe]; exact z
      rw [q] at q'; cases q'
      obtain ⟨v, hv⟩ := heo
      exact ⟨v, by rw [hbe]; exact hv⟩
    · refine (ok b u q).stay (fun c v hc r => k c v ?_ r) (fun c r => by rw [upd_ne (nown c b r)]; exact r) fun c xs r => by rw [upd_ne (ntup c xs r)]; exact r
      rcases hc with rfl | hc
      · exact hbe
      · rintro rfl
        rcases he with z | z
        · exact nown c b hc z
        · rw [hc] at z; cases z; exact hb rfl
end

/-! ### kept unless tracked; of the frames at fs (the callers') the slots may change (an exception that passes writes there); of the records at ex (iterators) nothing is said -/
structure Un (fs ex : List Addr) (H H' : Hp) (h h' : Heap) : Prop where
  keep : ∀ b o, h.get? b = some o → H b = none → b ∉ fs → b ∉ ex → h'.get? b = some o
  slot : ∀ b o, h.get? b = some o → H b = none → b ∈ fs → b ∉ ex → ∃ sl, h'.get? b = some { o with slots := sl }
  free : ∀ b o, h.get? b = some o → H b = none → b ∉ ex → H' b = none
  there : ∀ b o, h.get? b = some o → b ∉ ex → ∃ o', h'.get? b = some o'
  tups : ∀ b xs, H b = some (.tup xs) → H' b = some (.tup xs)
  frzs : ∀ b o u, H b = some (.frz o u) → H' b = some (.frz o u)
  tbls : ∀ b ps, H b = some (.tbl ps) → ∃ more, H' b = some (.tbl (ps ++ more))
section
variable {fs fs' ex ex' : List Addr} {H H1 H2 : Hp} {h h1 h2 h' : Heap} {a x e : Addr} {o : HO}
theorem Un.any (u : Un fs ex H H1 h h1) {b : Addr} {ob : Obj} (q : h.get? b = some ob) (n : H b = none) (hx : b ∉ ex) : ∃ sl, h1.get? b = some { ob with slots := sl } := by
  by_cases hb : b ∈ fs
  · exact u.slot b ob q n hb hx
  · exact ⟨ob.slots, u.keep b ob q n hb hx⟩
theorem Un.kept (k : ∀ b u, h.get? b = some u → h'.get? b = some u) : Un fs ex H H h h' :=
  ⟨fun b ob q _ _ _ => k b ob q, fun b ob q _ _ _ => ⟨ob.slots, k b ob q⟩, fun _ _ _ n _ => n, fun b ob q _ => ⟨ob, k b ob q⟩, fun _ _ q => q, fun _ _ _ q => q, fun _ ps q => ⟨#[], by rw [q]; simp⟩⟩
theorem Un.refl : Un fs ex H H h h := Un.kept fun _ _ q => q
theorem Un.laid (k : ∀ b u, h.get? b = some u → h'.get? b = some u) (hp : h.objs.size ≤ a) (hn : H a = none) : Un fs ex H (upd H a o) h h' where
  keep := fun b u q _ _ _ => k b u q
  slot := fun b u q _ _ _ => ⟨u.slots, k b u q⟩
  free := fun b u q n _ => by rw [upd_ne (Nat.ne_of_lt (Nat.lt_of_lt_of_le (Heap.lt_size q) hp))]; exact n
  there := fun b u q _ => ⟨u, k b u q⟩
  tups := fun b xs q => by rw [upd_ne (ne_of_none q hn)]; exact q
  frzs := fun b u xs q => by rw [upd_ne (ne_of_none q hn)]; exact q
  tbls := fun b ps q => ⟨#[], by rw [upd_ne (ne_of_none q hn), q]; simp⟩
theorem Un.write (mu : Mut (H x)) (he : e = x ∨ H e = some (.own x)) (k : ∀ b u, b ≠ e → h.get? b = some u → h'.get? b = some u) (heo : ∃ u, h'.get? e = some u) : Un fs ex H (upd H x o) h h' := by
  have hx : ∀ b, H b = none → b ≠ x := fun b n z => by subst z; rw [n] at mu; exact mu
  have hb : ∀ b, H b = none → b ≠ e := fun b n z => by
    subst z
    rcases he with r | r
    · exact hx b n r
    · rw [n] at r; cases r
  have hm : ∀ b u, H b = some u → ¬ Mut (some u) → b ≠ x := fun b u q nm z => by subst z; rw [q] at mu; exact nm mu
  refine ⟨fun b u q n _ _ => k b u (hb b n) q, fun b u q n _ _ => ⟨u.slots, k b u (hb b n) q⟩, fun b u q n _ => by rw [upd_ne (hx b n)]; exact n, fun b u q _ => ?_,
    fun b xs q => by rw [upd_ne (hm b _ q fun z => z)]; exact q, fun b u xs q => by rw [upd_ne (hm b _ q fun z => z)]; exact q, fun b ps q => ⟨#[], by rw [upd_ne (hm b _ q fun z => z), q]; simp⟩⟩
  by_cases hbe : b = e
  · subst hbe; exact heo
  · exact ⟨u, k b u hbe q⟩
end

/-! ### the heap without what is tracked -/
def trk (h : Heap) (H : Hp) : List Addr := (List.range h.objs.size).filter fun a => (H a).isSome
def hidT (h : Heap) (H : Hp) : Heap := PySem.W.hideAll h (trk h H)
theorem hidT_size (h : Heap) (H : Hp) : (hidT h H).objs.size = h.objs.size := PySem.W.hideAll_size _ _
theorem hidT_get {h : Heap} {H : Hp} {b : Addr} {o : Obj} (e : h.get? b = some o) (n : H b = none) : (hidT h H).get? b = some o :=
  PySem.W.hideAll_get _ e fun hm => by
    have q : (H b).isSome = true := (List.mem_filter.mp hm).2
    rw [n] at q; simp at q
theorem of_hidT {h : Heap} {H : Hp} {b : Addr} {o : Obj} (e : (hidT h H).get? b = some o) : h.get? b = some o ∧ H b = none := by
  have e' : h.get? b = some o := PySem.W.of_hideAll (trk h H) e
  refine ⟨e', ?_⟩
  cases q : H b with
  | none => rfl
  | some x =>
    have hm : b ∈ trk h H := List.mem_filter.mpr ⟨List.mem_range.mpr (Heap.lt_size e'), by simp [q]⟩
    have z : (hidT h H).get? b = none := PySem.W.hideAll_none (trk h H) hm
    rw [z] at e; cases e

/-! ### OpenK's ledger, filled with every new object but one -/
def allNews (g h : Heap) (L : Addr) : List (Addr × Obj) := (List.range h.objs.size).filterMap fun a => if a = L ∨ (g.get? a).isSome = true then none else (h.get? a).map fun o => (a, o)
def rest (g h : Heap) (L d : Addr) : List (Addr × Obj) := (allNews g h L).filter fun p => decide (p.1 ≠ d)
end L2

namespace L2
open PySem PySem.Spec PyProof.Rows

/-- the module's facts, over the base: the heap at the law's entry without what is tracked there -/
structure Mod (K : PySem.W.Frag) (mg : Str → Option Value) (base : Heap) : Prop where
  kin : K.In base
  glob : base.Ns mainGlobals mg
  blt : ∃ mb, base.Ns builtinsNs mb ∧ ∀ x : Str, x ≠ "__name__" → mb x = bootBuiltins x
  nolimit : base.NoLimit

/-- the context: a def's body (or a comprehension's block) running. base: fixed through the whole law; s₀, H₀: the entry; outer: the frames whose slots others may change (a def's callers); stack: all frames that run;
   ex: iterators that were made ahead of the entry and are walked here (a comprehension's); fn: the names whose cells were made at the entry (a def: all; a comprehension's block: its own); calm: not within an except suite; pn: pins that every state bears; xe: what is wanted of an exception that leaves the code -/
structure Cx where
  prog : Program
  w : World
  K : PySem.W.Frag
  mg : Str → Option Value
  base : Heap
  A : Around
  N : List Str
  s₀ : Shared
  H₀ : Hp
  env : Env
  outer : List Env
  stack : List Env
  ex : List Addr
  fn : Str → Bool
  calm : Bool
  pn : List (Addr × Obj)
  xe : Value → Shared → Prop
/-- the callers' frames -/
def frs (l : List Env) : List Addr := l.filterMap (·.frame)
abbrev Cx.fs (X : Cx) : List Addr := frs X.outer

def Vis (sc : Scope) (x : Str) : Prop := sc.names.lookup x = some .local ∨ sc.names.lookup x = some .cell ∨ sc.names.lookup x = some .free
def Loc (sc : Scope) (x : Str) : Prop := sc.names.lookup x = some .local ∨ sc.names.lookup x = some .cell
def Look (env : Env) (h : Heap) (m : Str → Option Value) (x : Str) (u : Value) : Prop :=
  (env.kindOf x = some .local ∧ m x = some u) ∨ ((env.kindOf x = some .cell ∨ env.kindOf x = some .free) ∧ ∃ c, env.cells.lookup x = some c ∧ h.IsCell c (some u))

structure Cx.Ok (X : Cx) : Prop where
  mod : Mod X.K X.mg X.base
  kind : X.env.scope.kind = .function
  glob : X.env.globals = mainGlobals
  blt : X.env.builtins = builtinsNs
  above : X.s₀.heap.objs.size ≤ X.env.locals
  inj : ∀ x y c, X.env.cells.lookup x = some c → X.env.cells.lookup y = some c → x = y
  has : ∀ x, (X.env.kindOf x = some .cell ∨ X.env.kindOf x = some .free) → ∃ c, X.env.cells.lookup x = some c
  cab : ∀ x c, X.fn x = true → X.env.cells.lookup x = some c → X.s₀.heap.objs.size ≤ c
  hd : X.calm = true → X.A.handled = none
  frames : X.A.frames = some X.stack
  stk : X.stack = X.outer ∨ (X.stack = X.env :: X.outer ∧ X.env.frame = some X.env.locals)
  exf : ∀ b ∈ X.ex, b ≠ X.env.locals ∧ ∀ x c, X.env.cells.lookup x = some c → c ≠ b
  bs : ∀ b o, X.base.get? b = some o → X.s₀.heap.get? b = some o ∧ X.H₀ b = none
  bsz : X.base.objs.size ≤ X.s₀.heap.objs.size
  noex : ∀ b o, X.base.get? b = some o → b ∉ X.ex
  exfs : ∀ b ∈ X.ex, b ∉ X.fs
  funs : X.s₀.heap.FunFrames X.base X.outer
  frf : ∀ b ∈ X.fs, X.H₀ b = none

structure Inv (X : Cx) (pins : List (Addr × Obj)) (σ : List (Option V)) (H : Hp) (s : Shared) : Prop where
  ok : X.Ok
  os : s.os = X.s₀.os
  bare : AllBare s.gens
  base : Un X.fs X.ex X.H₀ H X.s₀.heap s.heap
  loc : ∃ m, s.heap.Ns X.env.locals m ∧ ∀ (i : Nat) (x : Str) (v : V), X.N[i]? = some x → σ[i]? = some (some v) → Vis X.env.scope x → ∃ u, RelV v u ∧ Look X.env s.heap m x u
  cell : ∀ x c, X.env.cells.lookup x = some c → ∃ v, s.heap.IsCell c v
  free : H X.env.locals = none
  freeC : ∀ x c, X.env.cells.lookup x = some c → H c = none
  pin : ∀ p ∈ X.pn ++ pins, s.heap.get? p.1 = some p.2 ∧ H p.1 = none ∧ p.1 ≠ X.env.locals ∧ p.1 ∉ X.fs ∧ ∀ v, p.2.data ≠ .cell v
  hok : HOk X.prog X.w H s.heap
  len : σ.length = X.N.length

section
variable {X : Cx} {pins : List (Addr × Obj)} {σ : List (Option V)} {H H' : Hp} {s : Shared} {h' : Heap}

theorem Cx.Ok.nofr (ok : X.Ok) {b : Addr} {o : Obj} (e : X.base.get? b = some o) : b ∉ X.fs := fun hb => by
  have := (ok.funs.mem hb).1
  rw [e] at this; cases this
theorem Inv.bs (I : Inv X pins σ H s) : ∀ b o, X.base.get? b = some o → s.heap.get? b = some o ∧ H b = none := fun b o e =>
  ⟨I.base.keep b o (I.ok.bs b o e).1 (I.ok.bs b o e).2 (I.ok.nofr e) (I.ok.noex b o e), I.base.free b o (I.ok.bs b o e).1 (I.ok.bs b o e).2 (I.ok.noex b o e)⟩
theorem Inv.bk (I : Inv X pins σ H s) : ∀ b o, X.base.get? b = some o → s.heap.get? b = some o := fun b o e => (I.bs b o e).1
theorem Inv.mod (I : Inv X pins σ H s) : Mod X.K X.mg X.base := I.ok.mod
theorem Inv.kIn (I : Inv X pins σ H s) : X.K.In s.heap := I.ok.mod.kin.keeps I.bk
theorem Inv.nolimit (I : Inv X pins σ H s) : s.heap.NoLimit := I.ok.mod.nolimit.keeps I.bk
theorem Inv.lt (I : Inv X pins σ H s) : X.env.locals < s.heap.objs.size := let ⟨_, hn, _⟩ := I.loc; hn.lt
theorem Inv.sz (I : Inv X pins σ H s) : X.s₀.heap.objs.size ≤ s.heap.objs.size := Nat.le_trans I.ok.above (Nat.le_of_lt I.lt)
theorem Inv.nofs (I : Inv X pins σ H s) {a : Addr} (h : s.heap.objs.size ≤ a) : a ∉ X.fs := fun hb => by
  obtain ⟨_, o, ho, _⟩ := I.ok.funs.mem hb
  exact absurd (Nat.lt_of_lt_of_le (Heap.lt_size ho) (Nat.le_trans I.sz h)) (Nat.lt_irrefl _)
theorem Inv.cne (I : Inv X pins σ H s) : ∀ x c, X.env.cells.lookup x = some c → c ≠ X.env.locals := fun x c e z => by
  obtain ⟨v, o, ho, hd⟩ := I.cell x c e
  obtain ⟨m, ⟨o', es, ep, ho', hd', _⟩, _⟩ := I.loc
  rw [z, ho'] at ho; cases ho; rw [hd'] at hd; cases hd
theorem Inv.funs (I : Inv X pins σ H s) : s.heap.FunFrames X.base X.outer := by
  have all : ∀ (l : List Env), (∀ b ∈ frs l, b ∈ X.fs) → X.s₀.heap.FunFrames X.base l → s.heap.FunFrames X.base l := by
    intro l
    induction l with
    | nil => intro _ _; trivial
    | cons env r ih =>
      intro hs hl
      obtain ⟨hk, ⟨L, o, hf, hn, ho, hd⟩, hr⟩ := hl
      have hL : L ∈ X.fs := hs L (by unfold frs; rw [List.filterMap_cons, hf]; exact List.mem_cons_self)
      obtain ⟨sl, e⟩ := I.base.slot L o ho (I.ok.frf L hL) hL fun z => I.ok.exfs L z hL
      exact ⟨hk, ⟨L, _, hf, hn, e, hd⟩, ih (fun b hb => hs b (by unfold frs; rw [List.filterMap_cons, hf]; exact List.mem_cons_of_mem _ hb)) hr⟩
  exact all X.outer (fun _ hb => hb) I.ok.funs

/-- the frames that run, for a call -/
theorem Inv.stack (I : Inv X pins σ H s) : s.heap.FunFrames X.base X.stack := by
  rcases I.ok.stk with e | ⟨e, hf⟩
  · rw [e]; exact I.funs
  · rw [e]
    obtain ⟨m, hn, _⟩ := I.loc
    refine .cons (by rw [I.ok.kind]; decide) hf hn ?_ I.funs
    exact Heap.get?_none_of_le (Nat.le_trans I.ok.bsz I.ok.above)
theorem Inv.stkSub (I : Inv X pins σ H s) : ∀ b ∈ frs X.stack, b ∈ X.env.locals :: X.fs := fun b hb => by
  rcases I.ok.stk with e | ⟨e, hf⟩
  · rw [e] at hb; exact List.mem_cons_of_mem _ hb
  · rw [e] at hb
    unfold frs at hb
    rw [List.filterMap_cons, hf] at hb
    exact hb
theorem Inv.stkFree (I : Inv X pins σ H s) : ∀ b ∈ frs X.stack, H b = none := fun b hb => by
  rcases List.mem_cons.mp (I.stkSub b hb) with e | hb
  · rw [e]; exact I.free
  · obtain ⟨_, o, ho, _⟩ := I.ok.funs.mem hb
    exact I.base.free b o ho (I.ok.frf b hb) fun z => I.ok.exfs b z hb

/-- THE STEP: the untracked objects but the frame and the records at ch are kept (the callers' frames up to slots), the frame's map is kept, the new abstract heap is held -/
theorem Inv.step {g' : Array GenState} {t' : Nat} {d' : Drawn} {ch : List Addr} (I : Inv X pins σ H s)
    (hch : ∀ b ∈ ch, (b ∈ X.ex ∨ X.s₀.heap.objs.size ≤ b) ∧ b ≠ X.env.locals ∧ (∀ x c, X.env.cells.lookup x = some c → c ≠ b) ∧ ∀ p ∈ X.pn ++ pins, p.1 ≠ b)
    (keep : ∀ b o, b ≠ X.env.locals → b ∉ X.fs → b ∉ ch → s.heap.get? b = some o → H b = none → h'.get? b = some o)
    (slot : ∀ b o, b ≠ X.env.locals → b ∈ X.fs → b ∉ ch → s.heap.get? b = some o → H b = none → ∃ sl, h'.get? b = some { o with slots := sl }) (free : ∀ b o, b ∉ ch → s.heap.get? b = some o → H b = none → H' b = none)
    (there : ∀ b o, b ∉ ch → s.heap.get? b = some o → ∃ o', h'.get? b = some o')
    (tups : ∀ b xs, H b = some (.tup xs) → H' b = some (.tup xs)) (frzs : ∀ b o u, H b = some (.frz o u) → H' b = some (.frz o u)) (tbls : ∀ b ps, H b = some (.tbl ps) → ∃ more, H' b = some (.tbl (ps ++ more)))
    (ns : ∀ m, s.heap.Ns X.env.locals m → h'.Ns X.env.locals m) (hok : HOk X.prog X.w H' h') (hg : AllBare g') :
    Inv X pins σ H' { s with heap := h', gens := g', drawn := d', toks := t' } := by
  have neL : ∀ b o, X.s₀.heap.get? b = some o → b ≠ X.env.locals := fun b o e => Nat.ne_of_lt (Nat.lt_of_lt_of_le (Heap.lt_size e) I.ok.above)
  have neC : ∀ b o, X.s₀.heap.get? b = some o → b ∉ X.ex → b ∉ ch := fun b o e hx hb => by
    rcases (hch b hb).1 with z | z
    · exact hx z
    · exact absurd (Nat.lt_of_lt_of_le (Heap.lt_size e) z) (Nat.lt_irrefl _)
  have cellK : ∀ x c, X.env.cells.lookup x = some c → ∀ v, s.heap.IsCell c v → h'.IsCell c v := fun x c e v ⟨o, ho, hd⟩ => by
    have nch : c ∉ ch := fun z => (hch c z).2.2.1 x c e rfl
    by_cases hc : c ∈ X.fs
    · obtain ⟨sl, q⟩ := slot c o (I.cne x c e) hc nch ho (I.freeC x c e)
      exact ⟨_, q, hd⟩
    · exact ⟨o, keep c o (I.cne x c e) hc nch ho (I.freeC x c e), hd⟩
  refine ⟨I.ok, I.os, hg, ⟨fun b o e n hb hx => ?_, fun b o e n hb hx => ?_, fun b o e n hx => ?_, fun b o e hx => ?_, fun b xs e => tups b xs (I.base.tups b xs e), fun b o xs e => frzs b o xs (I.base.frzs b o xs e), fun b ps e => ?_⟩, ?_, fun x c e => ?_, ?_, fun x c e => ?_, fun p hp => ?_, hok, I.len⟩
  · exact keep b o (neL b o e) hb (neC b o e hx) (I.base.keep b o e n hb hx) (I.base.free b o e n hx)
  · obtain ⟨sl, e1⟩ := I.base.slot b o e n hb hx
    obtain ⟨sl', e2⟩ := slot b _ (neL b o e) hb (neC b o e hx) e1 (I.base.free b o e n hx)
    exact ⟨sl', e2⟩
  · obtain ⟨o', e1⟩ := I.base.there b o e hx
    exact free b o' (neC b o e hx) e1 (I.base.free b o e n hx)
  · obtain ⟨o', e1⟩ := I.base.there b o e hx
    exact there b o' (neC b o e hx) e1
  · obtain ⟨m1, e1⟩ := I.base.tbls b ps e
    obtain ⟨m2, e2⟩ := tbls b _ e1
    exact ⟨m1 ++ m2, by rw [e2, Array.append_assoc]⟩
  · obtain ⟨m, hn, hl⟩ := I.loc
    refine ⟨m, ns m hn, fun i x v e1 e2 e3 => ?_⟩
    obtain ⟨u, r, l⟩ := hl i x v e1 e2 e3
    refine ⟨u, r, ?_⟩
    rcases l with l | ⟨k, c, e, z⟩
    · exact .inl l
    · exact .inr ⟨k, c, e, cellK x c e _ z⟩
  · obtain ⟨v, z⟩ := I.cell x c e
    exact ⟨v, cellK x c e v z⟩
  · obtain ⟨m, ⟨o, _, _, ho, _⟩, _⟩ := I.loc
    exact free _ o (fun z => (hch _ z).2.1 rfl) ho I.free
  · obtain ⟨v, o, ho, hd⟩ := I.cell x c e
    exact free c o (fun z => (hch c z).2.2.1 x c e rfl) ho (I.freeC x c e)
  · obtain ⟨e, n, ne, nf, d⟩ := I.pin p hp
    have nch : p.1 ∉ ch := fun z => (hch p.1 z).2.2.2 p hp rfl
    exact ⟨keep p.1 p.2 ne nf nch e n, free p.1 p.2 nch e n, ne, nf, d⟩
/-- .. where the frame's own object is kept too -/
theorem Inv.un {t' : Nat} (I : Inv X pins σ H s) (u : Un X.fs [] H H' s.heap h') (hok : HOk X.prog X.w H' h') : Inv X pins σ H' { s with heap := h', toks := t' } := by
  obtain ⟨m, ⟨o, es, ep, ho, r⟩, _⟩ := id I.loc
  obtain ⟨sl, hL⟩ := u.any ho I.free (by simp)
  exact I.step (g' := s.gens) (d' := s.drawn) (ch := []) (fun _ z => nomatch z) (fun b o _ hb _ e n => u.keep b o e n hb (by simp)) (fun b o _ hb _ e n => u.slot b o e n hb (by simp)) (fun b o _ e n => u.free b o e n (by simp)) (fun b o _ e => u.there b o e (by simp)) u.tups u.frzs u.tbls (fun m' hm => by
    obtain ⟨o', es', ep', ho', r'⟩ := hm
    rw [ho] at ho'; cases ho'
    exact ⟨_, es', ep', hL, r'⟩) hok I.bare
/-- behind a call (or a comprehension's block): the slots of this frame may have changed too, the records at ch may have turned -/
theorem Inv.call {g' : Array GenState} {t' : Nat} {d' : Drawn} {ch : List Addr} (I : Inv X pins σ H s) (u : Un (frs X.stack) ch H H' s.heap h') (hok : HOk X.prog X.w H' h') (hg : AllBare g')
    (hch : ∀ b ∈ ch, (b ∈ X.ex ∨ X.s₀.heap.objs.size ≤ b) ∧ b ≠ X.env.locals ∧ (∀ x c, X.env.cells.lookup x = some c → c ≠ b) ∧ ∀ p ∈ X.pn ++ pins, p.1 ≠ b) :
    Inv X pins σ H' { s with heap := h', gens := g', drawn := d', toks := t' } := by
  obtain ⟨m, ⟨o, es, ep, ho, r⟩, _⟩ := id I.loc
  obtain ⟨sl, hL⟩ := u.any ho I.free fun z => (hch _ z).2.1 rfl
  exact I.step (ch := ch) hch (fun b o hL hb hc e n => u.keep b o e n (fun z => (List.mem_cons.mp (I.stkSub b z)).elim hL hb) hc) (fun b o _ _ hc e n => u.any e n hc) (fun b o hc e n => u.free b o e n hc) (fun b o hc e => u.there b o e hc) u.tups u.frzs u.tbls (fun m' hm => by
    obtain ⟨o', es', ep', ho', r'⟩ := hm
    rw [ho] at ho'; cases ho'
    exact ⟨_, es', ep', hL, r'⟩) hok hg
/-- an untracked record of ours (an iterator) has turned -/
theorem Inv.turned {t' : Nat} {it : Addr} (I : Inv X pins σ H s) (k : ∀ b o, b ≠ it → s.heap.get? b = some o → h'.get? b = some o) (hn : H it = none) (hL : it ≠ X.env.locals)
    (h1 : it ∈ X.ex ∨ X.s₀.heap.objs.size ≤ it) (h2 : ∀ x c, X.env.cells.lookup x = some c → c ≠ it) (h3 : ∀ p ∈ X.pn ++ pins, p.1 ≠ it) : Inv X pins σ H { s with heap := h', toks := t' } := by
  have nit : ∀ b u, H b = some u → b ≠ it := fun b u e z => by rw [z, hn] at e; cases e
  refine I.step (g' := s.gens) (d' := s.drawn) (ch := [it]) (fun b hb => ?_) (fun b o _ _ hc e _ => k b o (fun z => hc (by simp [z])) e) (fun b o _ _ hc e _ => ⟨o.slots, k b o (fun z => hc (by simp [z])) e⟩) (fun _ _ _ _ n => n)
    (fun b o hc e => ⟨o, k b o (fun z => hc (by simp [z])) e⟩) (fun _ _ e => e) (fun _ _ _ e => e) (fun b ps e => ⟨#[], by rw [e]; simp⟩) (fun m hm => ?_) (fun b u e => ?_) I.bare
  · have e : b = it := by simpa using hb
    subst e
    exact ⟨h1, hL, h2, h3⟩
  · obtain ⟨o, es, ep, ho, r⟩ := hm
    exact ⟨o, es, ep, k _ o (Ne.symm hL) ho, r⟩
  · refine (I.hok b u e).stay (fun c v hc q => k c v ?_ q) (fun _ q => q) fun _ _ q => q
    rcases hc with z | z
    · rw [z]; exact nit b u e
    · exact nit c _ z
theorem Inv.tok (I : Inv X pins σ H s) (t : Nat) : Inv X pins σ H { s with toks := t } := I.un (h' := s.heap) (t' := t) Un.refl I.hok
/-- all objects kept -/
theorem Inv.kept {t' : Nat} (I : Inv X pins σ H s) (k : ∀ b u, s.heap.get? b = some u → h'.get? b = some u) : Inv X pins σ H { s with heap := h', toks := t' } := I.un (Un.kept k) (I.hok.kept k)
/-- a new object laid and tracked -/
theorem Inv.laid {a : Addr} {o : HO} {t' : Nat} (I : Inv X pins σ H s) (k : ∀ b u, s.heap.get? b = some u → h'.get? b = some u) (hp : s.heap.objs.size ≤ a) (new : ObjOk X.prog X.w (upd H a o) h' a o) :
    Inv X pins σ (upd H a o) { s with heap := h', toks := t' } := I.un (Un.laid k hp (I.hok.fresh hp)) (I.hok.laid k hp new)
/-- an object written -/
theorem Inv.write {x e : Addr} {o : HO} {t' : Nat} (I : Inv X pins σ H s) (mu : Mut (H x)) (he : e = x ∨ H e = some (.own x)) (k : ∀ b u, b ≠ e → s.heap.get? b = some u → h'.get? b = some u) (heo : ∃ u, h'.get? e = some u)
    (new : ObjOk X.prog X.w (upd H x o) h' x o) : Inv X pins σ (upd H x o) { s with heap := h', toks := t' } := I.un (Un.write mu he k heo) (I.hok.write mu he k heo new)
theorem Inv.pins_of {pins' : List (Addr × Obj)} (I : Inv X pins σ H s) (h : ∀ p ∈ pins', s.heap.get? p.1 = some p.2 ∧ H p.1 = none ∧ p.1 ≠ X.env.locals ∧ p.1 ∉ X.fs ∧ ∀ v, p.2.data ≠ .cell v) : Inv X pins' σ H s :=
  ⟨I.ok, I.os, I.bare, I.base, I.loc, I.cell, I.free, I.freeC, fun p hp => (List.mem_append.mp hp).elim (fun z => I.pin p (List.mem_append_left _ z)) (h p), I.hok, I.len⟩

theorem nodup_ix {N : List Str} (hN : N.Nodup) {i j : Nat} {x : Str} (a : N[i]? = some x) (b : N[j]? = some x) : i = j := by
  obtain ⟨h1, e1⟩ := List.getElem?_eq_some_iff.mp a
  obtain ⟨h2, e2⟩ := List.getElem?_eq_some_iff.mp b
  exact (List.getElem_inj hN).mp (e1.trans e2.symm)

/-- a name is stored; what changed -/
theorem store_ok2 {M : Model} {A : Around} {E : Value → Shared → Prop} {i : Nat} {x : Str} {v : V} {u : Value} {Q : Unit → Shared → Prop} (I : Inv X pins σ H s) (hN : X.N.Nodup) (hi : X.N[i]? = some x) (hx : Loc X.env.scope x) (r : RelV v u)
    (h : ∀ s', Inv X pins (σ.set i (some v)) H s' → (∃ a, Heap.SameBut a s.heap s'.heap ∧ (a = X.env.locals ∨ X.env.cells.lookup x = some a)) → Q () s') (hf : X.fn x = true ∨ X.env.scope.names.lookup x = some .local := by first | exact .inl rfl | exact .inr rfl | assumption) : wpAny M A (storeName X.env x u) Q E s := by
  obtain ⟨m, hn, hl⟩ := id I.loc
  have hcls : (X.env.scope.kind == .class || (X.env.scope.kind == .module && X.env.locals != X.env.globals)) = false := by rw [I.ok.kind]; rfl
  have hiσ : i < σ.length := by rw [I.len]; exact (List.getElem?_eq_some_iff.mp hi).1
  have cne := I.cne
  have tracked : ∀ {a : Addr} {h' : Heap}, (∃ o, s.heap.get? a = some o ∧ H a = none) → Heap.SameBut a s.heap h' → HOk X.prog X.w H h' := fun {a h'} ha hs b ob e => by
    obtain ⟨_, _, hfree⟩ := ha
    refine (I.hok b ob e).stay (fun c w' hc q => (hs.2 c ?_).trans q) (fun _ q => q) fun _ _ q => q
    rintro rfl
    rcases hc with rfl | hc
    · rw [hfree] at e; cases e
    · rw [hfree] at hc; cases hc
  rcases hx with hk | hk
  · refine wpAny_storeName_local hk hn (fun h' hn' hs => ?_) hcls
    obtain ⟨oL, _, _, hoL, _⟩ := id hn
    refine h _ ⟨I.ok, I.os, I.bare, ⟨fun b o e n hb hx => ?_, fun b o e n hb hx => ?_, I.base.free, fun b o e hx => ?_, I.base.tups, I.base.frzs, I.base.tbls⟩, ⟨_, hn', fun j y v' e1 e2 e3 => ?_⟩, fun y c e => ?_, I.free, I.freeC, fun p hp => ?_, tracked ⟨oL, hoL, I.free⟩ hs, by simpa using I.len⟩ ⟨_, hs, .inl rfl⟩
    · exact (hs.2 b (Nat.ne_of_lt (Nat.lt_of_lt_of_le (Heap.lt_size e) I.ok.above))).trans (I.base.keep b o e n hb hx)
    · obtain ⟨sl, e1⟩ := I.base.slot b o e n hb hx
      exact ⟨sl, (hs.2 b (Nat.ne_of_lt (Nat.lt_of_lt_of_le (Heap.lt_size e) I.ok.above))).trans e1⟩
    · obtain ⟨o', e1⟩ := I.base.there b o e hx
      exact ⟨o', (hs.2 b (Nat.ne_of_lt (Nat.lt_of_lt_of_le (Heap.lt_size e) I.ok.above))).trans e1⟩
    · by_cases hj : j = i
      · subst hj
        rw [hi] at e1; cases e1
        rw [List.getElem?_set_self hiσ] at e2
        cases e2
        exact ⟨u, r, .inl ⟨hk, by simp⟩⟩
      · rw [List.getElem?_set_ne (Ne.symm hj)] at e2
        obtain ⟨u', r', q⟩ := hl j y v' e1 e2 e3
        refine ⟨u', r', ?_⟩
        rcases q with ⟨k, e⟩ | ⟨k, c, e, z⟩
        · refine .inl ⟨k, ?_⟩
          have : y ≠ x := fun e => hj (nodup_ix hN e1 (e ▸ hi))
          simp [this, e]
        · exact .inr ⟨k, c, e, z.sameBut hs (cne y c e)⟩
    · obtain ⟨w', z⟩ := I.cell y c e
      exact ⟨w', z.sameBut hs (cne y c e)⟩
    · obtain ⟨e, n, ne, nf, d⟩ := I.pin p hp
      exact ⟨(hs.2 p.1 ne).trans e, n, ne, nf, d⟩
  · have hfn : X.fn x = true := by
      rcases hf with z | z
      · exact z
      · rw [z] at hk; cases hk
    obtain ⟨c, hc⟩ := I.ok.has x (.inl hk)
    obtain ⟨w', z⟩ := I.cell x c hc
    refine wpAny_storeName_cell I.ok.kind hk hc z (fun h' hc' hs => ?_)
    obtain ⟨oc, hoc, hocd⟩ := id z
    refine h { s with heap := h' } ⟨I.ok, I.os, I.bare, ⟨fun b o e n hb hx => ?_, fun b o e n hb hx => ?_, I.base.free, fun b o e hx => ?_, I.base.tups, I.base.frzs, I.base.tbls⟩, ⟨m, hn.sameBut hs (Ne.symm (cne x c hc)), fun j y v' e1 e2 e3 => ?_⟩, fun y c' e => ?_, I.free, I.freeC, fun p hp => ?_, tracked ⟨oc, hoc, I.freeC x c hc⟩ hs, by simpa using I.len⟩ ⟨c, hs, .inr hc⟩
    · exact (hs.2 b (Nat.ne_of_lt (Nat.lt_of_lt_of_le (Heap.lt_size e) (I.ok.cab x c hfn hc)))).trans (I.base.keep b o e n hb hx)
    · obtain ⟨sl, e1⟩ := I.base.slot b o e n hb hx
      exact ⟨sl, (hs.2 b (Nat.ne_of_lt (Nat.lt_of_lt_of_le (Heap.lt_size e) (I.ok.cab x c hfn hc)))).trans e1⟩
    · obtain ⟨o', e1⟩ := I.base.there b o e hx
      exact ⟨o', (hs.2 b (Nat.ne_of_lt (Nat.lt_of_lt_of_le (Heap.lt_size e) (I.ok.cab x c hfn hc)))).trans e1⟩
    · by_cases hj : j = i
      · subst hj
        rw [hi] at e1; cases e1
        rw [List.getElem?_set_self hiσ] at e2
        cases e2
        exact ⟨u, r, .inr ⟨.inl hk, c, hc, hc'⟩⟩
      · rw [List.getElem?_set_ne (Ne.symm hj)] at e2
        obtain ⟨u', r', q⟩ := hl j y v' e1 e2 e3
        refine ⟨u', r', ?_⟩
        rcases q with q | ⟨k, c', e, z'⟩
        · exact .inl q
        · refine .inr ⟨k, c', e, z'.sameBut hs ?_⟩
          rintro rfl
          exact hj (nodup_ix hN e1 (I.ok.inj _ _ _ e hc ▸ hi))
    · by_cases hcc : c' = c
      · subst hcc; exact ⟨_, hc'⟩
      · obtain ⟨w2, z2⟩ := I.cell y c' e
        exact ⟨w2, z2.sameBut hs hcc⟩
    · obtain ⟨e, n, ne, nf, d⟩ := I.pin p hp
      refine ⟨(hs.2 p.1 ?_).trans e, n, ne, nf, d⟩
      intro q
      rw [q, hoc] at e
      have q' : oc = p.2 := Option.some.inj e
      exact d w' (by rw [← q']; exact hocd)
theorem store_ok {M : Model} {A : Around} {E : Value → Shared → Prop} {i : Nat} {x : Str} {v : V} {u : Value} {Q : Unit → Shared → Prop} (I : Inv X pins σ H s) (hN : X.N.Nodup) (hi : X.N[i]? = some x) (hx : Loc X.env.scope x) (r : RelV v u)
    (h : ∀ s', Inv X pins (σ.set i (some v)) H s' → Q () s') (hf : X.fn x = true ∨ X.env.scope.names.lookup x = some .local := by first | exact .inl rfl | exact .inr rfl | assumption) : wpAny M A (storeName X.env x u) Q E s :=
  store_ok2 I hN hi hx r (fun s' I' _ => h s' I') hf
/-- behind a call or a block, the state as it is -/
theorem Inv.call' {s' : Shared} {ch : List Addr} (I : Inv X pins σ H s) (ho : s'.os = s.os) (u : Un (frs X.stack) ch H H' s.heap s'.heap) (hok : HOk X.prog X.w H' s'.heap) (hg : AllBare s'.gens)
    (hch : ∀ b ∈ ch, (b ∈ X.ex ∨ X.s₀.heap.objs.size ≤ b) ∧ b ≠ X.env.locals ∧ (∀ x c, X.env.cells.lookup x = some c → c ≠ b) ∧ ∀ p ∈ X.pn ++ pins, p.1 ≠ b) : Inv X pins σ H' s' := by
  obtain ⟨h', g', d', t', o'⟩ := s'
  have e : o' = s.os := ho
  subst e
  exact I.call (g' := g') (t' := t') (d' := d') u hok hg hch
end

/-! ### the judgements -/
/-- an exception: its class, its own dict's address (where it has one), the abstract heap behind it -/
abbrev XK := Value → Option Addr → Hp → Prop
abbrev St := List (Option V)
abbrev VK := V → Hp → Prop
/-- an expression's reading; a test's; an argument list's -/
abbrev TE := St → Hp → VK → Prop
abbrev TT := St → Hp → (Bool → Hp → Prop) → Prop
abbrev TA := St → Hp → (List V → Hp → Prop) → Prop
/-- what is wanted behind a statement -/
structure Ends where
  nx : St → Hp → Prop
  rt : VK
  bk : St → Hp → Prop := fun _ _ => False
  ct : St → Hp → Prop := fun _ _ => False
abbrev TS := Ends → St → Hp → Prop

def EP (X : Cx) (pins : List (Addr × Obj)) (σ : St) (Q : VK) (u : Value) (s' : Shared) : Prop := ∃ v H', Inv X pins σ H' s' ∧ RelV v u ∧ Q v H'
def TP (X : Cx) (pins : List (Addr × Obj)) (σ : St) (Q : Bool → Hp → Prop) (b : Bool) (s' : Shared) : Prop := ∃ H', Inv X pins σ H' s' ∧ Q b H'
def AP (X : Cx) (pins : List (Addr × Obj)) (σ : St) (Q : List V → Hp → Prop) (us : List Value) (s' : Shared) : Prop := ∃ vs H', Inv X pins σ H' s' ∧ Vals vs us ∧ Q vs H'
def SP (X : Cx) (pins : List (Addr × Obj)) (D : Ends) (f : Flow) (s' : Shared) : Prop :=
  match f with
  | .next => ∃ σ' H', Inv X pins σ' H' s' ∧ D.nx σ' H'
  | .brk => ∃ σ' H', Inv X pins σ' H' s' ∧ D.bk σ' H'
  | .cont => ∃ σ' H', Inv X pins σ' H' s' ∧ D.ct σ' H'
  | .ret u => ∃ v σ' H', Inv X pins σ' H' s' ∧ RelV v u ∧ D.rt v H'

def PE (X : Cx) (e : Expr) (t : TE) : Prop :=
  ∀ (pins : List (Addr × Obj)) (s : Shared) (σ : St) (H : Hp) (Q : VK), Inv X pins σ H s → t σ H Q → wpAny (model X.prog X.w) X.A (eval e X.env) (EP X pins σ Q) X.xe s
def PT (X : Cx) (e : Expr) (t : TT) : Prop :=
  ∀ (pins : List (Addr × Obj)) (s : Shared) (σ : St) (H : Hp) (Q : Bool → Hp → Prop), Inv X pins σ H s → t σ H Q → wpAny (model X.prog X.w) X.A (isTrue e X.env (eval e X.env)) (TP X pins σ Q) X.xe s
/-- a test whatever its 'whole' is (and, or) -/
def PW (X : Cx) (e : Expr) (t : TT) : Prop :=
  ∀ (whole : Sem Value) (pins : List (Addr × Obj)) (s : Shared) (σ : St) (H : Hp) (Q : Bool → Hp → Prop), Inv X pins σ H s → t σ H Q → wpAny (model X.prog X.w) X.A (isTrue e X.env whole) (TP X pins σ Q) X.xe s
theorem PW.pt {X : Cx} {e : Expr} {t : TT} (h : PW X e t) : PT X e t := h _
/-- an argument list (no star), from the left -/
def PA (X : Cx) (es : List Expr) (t : TA) : Prop :=
  ∀ (pos : Pos) (pins : List (Addr × Obj)) (s : Shared) (σ : St) (H : Hp) (Q : List V → Hp → Prop), Inv X pins σ H s → t σ H Q → wpAny (model X.prog X.w) X.A (spliced (backTo pos (starEach es X.env))) (AP X pins σ Q) X.xe s
def PS (X : Cx) (st : Stmt) (t : TS) : Prop :=
  ∀ (pins : List (Addr × Obj)) (s : Shared) (σ : St) (H : Hp) (D : Ends), Inv X pins σ H s → t D σ H → wpAny (model X.prog X.w) X.A (exec st X.env) (SP X pins D) X.xe s
def PSs (X : Cx) (st : List Stmt) (t : TS) : Prop :=
  ∀ (pins : List (Addr × Obj)) (s : Shared) (σ : St) (H : Hp) (D : Ends), Inv X pins σ H s → t D σ H → wpAny (model X.prog X.w) X.A (execs st X.env) (SP X pins D) X.xe s
/-- weaken the end -/
theorem thn {α : Type} {t : Sem α} {Q Q' : α → Shared → Prop} {M : Model} {A : Around} {E : Value → Shared → Prop} {s : Shared} (h : wpAny M A t Q E s) (hQ : ∀ a s, Q a s → Q' a s) : wpAny M A t Q' E s := wpAny_mono h hQ fun _ _ x => x
end L2

namespace L2
open PySem PySem.Spec PyProof.Rows
section
variable {X : Cx}

/-! ### names and constants -/
def tVar (i : Nat) : TE := fun σ H Q => ∃ v, σ[i]? = some (some v) ∧ Q v H
def tC (v : V) : TE := fun _ H Q => Q v H
theorem pe_var {i : Nat} {x : Str} {pos : Pos} (hN : X.N[i]? = some x) (hv : Vis X.env.scope x) (hd : (x == ("__debug__" : Str)) = false := by decide) (hcd : (x == ("__classdict__" : Str)) = false := by decide) : PE X (.Name x pos) (tVar i) := by
  intro pins s σ H Q I h
  obtain ⟨v, e, h⟩ := h
  obtain ⟨m, hn, hl⟩ := I.loc
  obtain ⟨u, r, l⟩ := hl i x v hN e hv
  have fin : EP X pins σ Q u s := ⟨v, H, I, r, h⟩
  rcases l with ⟨hk, hm⟩ | ⟨hk, c, hc, hcell⟩
  · exact wpAny_Name (wpAny_loadName_local I.ok.kind hk hn hm fin) hd
  · rcases hk with hk | hk
    · exact wpAny_Name (wpAny_loadName_cell I.ok.kind hk hc hcell fin) hd
    · exact wpAny_Name (wpAny_loadName_free I.ok.kind hk hc hcell fin hcd) hd
theorem pe_int {i j pos} : PE X (.Constant (.int i) j pos) (tC (.int i)) := fun _ _ _ H _ I h => wpAny_Constant_int ⟨.int i, H, I.tok _, ⟨_, rfl⟩, h⟩
theorem pe_bl {b j pos} : PE X (.Constant (.bool b) j pos) (tC (.bl b)) := fun _ _ _ H _ I h => Constant_bool ⟨.bl b, H, I, rfl, h⟩
theorem pe_str {x j pos} : PE X (.Constant (.str x) j pos) (tC (.str x)) := fun _ _ _ H _ I h => Calls.Constant_str ⟨.str x, H, I.tok _, ⟨_, rfl⟩, h⟩

/-- a global name of the def -/
def Gl (X : Cx) (x : Str) : Prop := X.env.kindOf x = some .globalImplicit
theorem ld_glob {E : Value → Shared → Prop} {pins : List (Addr × Obj)} {s : Shared} {σ : St} {H : Hp} {x : Str} {u : Value} {pos : Pos} {Q : Value → Shared → Prop} (I : Inv X pins σ H s) (hg : Gl X x) (hm : X.mg x = some u) (h : Q u s)
    (hd : (x == ("__debug__" : Str)) = false := by decide) : wpAny (model X.prog X.w) X.A (eval (.Name x pos) X.env) Q E s :=
  Calls.Name_function_global I.ok.kind hg (Calls.loadGlobal_global (by rw [I.ok.glob]; exact I.mod.glob.keeps I.bk) hm h) hd
theorem ld_blt {E : Value → Shared → Prop} {pins : List (Addr × Obj)} {s : Shared} {σ : St} {H : Hp} {x : Str} {u : Value} {pos : Pos} {Q : Value → Shared → Prop} (I : Inv X pins σ H s) (hg : Gl X x) (hm : X.mg x = none) (hv : bootBuiltins x = some u) (h : Q u s)
    (hn : x ≠ "__name__" := by decide) (hd : (x == ("__debug__" : Str)) = false := by decide) : wpAny (model X.prog X.w) X.A (eval (.Name x pos) X.env) Q E s := by
  obtain ⟨mb, h1, h2⟩ := I.mod.blt
  exact Calls.Name_function_global I.ok.kind hg (Calls.loadGlobal_builtin (by rw [I.ok.glob]; exact I.mod.glob.keeps I.bk) hm (by rw [I.ok.blt]; exact h1.keeps I.bk) ((h2 x hn).trans hv) h) hd
/-- a module's constant, a class, a function, as a value -/
theorem pe_glob {x : Str} {v : V} {u : Value} {pos : Pos} (hg : Gl X x) (hm : X.mg x = some u) (r : RelV v u) (hd : (x == ("__debug__" : Str)) = false := by decide) : PE X (.Name x pos) (tC v) :=
  fun _ _ _ H _ I h => ld_glob I hg hm ⟨v, H, I, r, h⟩ hd
theorem pe_bltn {x : Str} {v : V} {u : Value} {pos : Pos} (hg : Gl X x) (hm : X.mg x = none) (hv : bootBuiltins x = some u) (r : RelV v u) (hn : x ≠ "__name__" := by decide) (hd : (x == ("__debug__" : Str)) = false := by decide) : PE X (.Name x pos) (tC v) :=
  fun _ _ _ H _ I h => ld_blt I hg hm hv ⟨v, H, I, r, h⟩ hn hd

/-! ### arithmetic -/
/-- two ints -/
def t2I (ta tb : TE) (k : Int → Int → Hp → Prop) : St → Hp → Prop := fun σ H => ta σ H fun x H1 => tb σ H1 fun y H2 => ∃ i j, x = .int i ∧ y = .int j ∧ k i j H2
def tAdd (ta tb : TE) : TE := fun σ H Q => t2I ta tb (fun i j H2 => Q (.int (i + j)) H2) σ H
def tSub (ta tb : TE) : TE := fun σ H Q => t2I ta tb (fun i j H2 => Q (.int (i - j)) H2) σ H
/-- the left factor below 2^64 -/
def tMul (ta tb : TE) : TE := fun σ H Q => t2I ta tb (fun i j H2 => (-(2 ^ 64) < i ∧ i < 2 ^ 64) ∧ Q (.int (i * j)) H2) σ H
variable {a b : Expr} {ta tb : TE} {pos : Pos}
/-! ### comparisons -/
def PC (X : Cx) (op : CmpOp) (a b : Expr) (t : TE) : Prop :=
  ∀ (pins : List (Addr × Obj)) (s : Shared) (σ : St) (H : Hp) (Q : VK), Inv X pins σ H s → t σ H Q →
    wpAny (model X.prog X.w) X.A (eval a X.env) (fun v s₁ => wpAny (model X.prog X.w) X.A (eval b X.env) (fun u s₂ => wpAny (model X.prog X.w) X.A (compareOp op v u) (EP X pins σ Q) X.xe s₂) X.xe s₁) X.xe s
def tCmp (p : Int → Int → Bool) (ta tb : TE) : TE := fun σ H Q => t2I ta tb (fun i j H2 => Q (.bl (p i j)) H2) σ H
abbrev tLt : TE → TE → TE := tCmp fun i j => decide (i < j)
abbrev tLe : TE → TE → TE := tCmp fun i j => decide (i ≤ j)
abbrev tGt : TE → TE → TE := tCmp fun i j => decide (j < i)
abbrev tGe : TE → TE → TE := tCmp fun i j => decide (j ≤ i)
abbrev tEqI : TE → TE → TE := tCmp fun i j => decide (i = j)
abbrev tNeI : TE → TE → TE := tCmp fun i j => !decide (i = j)
/-- is None -/
def tIsN (ta : TE) : TE := fun σ H Q => ta σ H fun x H1 => Q (.bl (decide (x = .non))) H1
def tNotN (ta : TE) : TE := fun σ H Q => ta σ H fun x H1 => Q (.bl (!decide (x = .non))) H1
/-- a comparison as a value, as a test -/
def tB (t : TE) : TT := fun σ H Q => t σ H fun x H1 => ∃ c, x = .bl c ∧ Q c H1
/-- an expression whose value is a bool, as a test -/
theorem pt_val {e : Expr} {t : TE} (h : PE X e t) (he : ∀ whole, isTrue e X.env whole = (do let v ← whole; standAt e.pos; holding [v] (truthy v)) := by intro _; rfl) : PT X e (tB t) := by
  intro pins s σ H Q I hw
  refine isTrue_plain (thn (h pins s σ H _ I hw) fun v s1 ⟨x, H1, I1, r1, q1⟩ => ?_) (he _)
  obtain ⟨d, rfl, q⟩ := q1
  cases r1
  exact wpAny_truthy_bool ⟨H1, I1, q⟩

/-! ### and, or, not -/
variable {tA tB' : TT} {rest : List Expr}
def tAnd (t u : TT) : TT := fun σ H Q => t σ H fun c H1 => if c = true then u σ H1 Q else Q false H1
def tOr (t u : TT) : TT := fun σ H Q => t σ H fun c H1 => if c = true then Q true H1 else u σ H1 Q
def tNot (t : TT) : TT := fun σ H Q => t σ H fun c H1 => Q (!c) H1
theorem pw_and1 (ha : PT X a tA) : PW X (.BoolOp .And [a] pos) tA := by
  intro wh pins s σ H Q I h
  refine isTrue_and (thn (ha pins s σ H Q I h) fun c s1 e => ?_)
  cases c with
  | true => exact isTrue_and_nil e
  | false => exact e
theorem pw_or1 (ha : PT X a tA) : PW X (.BoolOp .Or [a] pos) tA := by
  intro wh pins s σ H Q I h
  refine isTrue_or (thn (ha pins s σ H Q I h) fun c s1 e => ?_)
  cases c with
  | false => exact isTrue_or_nil e
  | true => exact e
theorem pw_and (ha : PT X a tA) (hb : PW X (.BoolOp .And (b :: rest) pos) tB') : PW X (.BoolOp .And (a :: b :: rest) pos) (tAnd tA tB') := by
  intro wh pins s σ H Q I h
  refine isTrue_and (thn (ha pins s σ H _ I h) fun c s1 ⟨H1, I1, q1⟩ => ?_)
  cases c with
  | true => exact hb wh pins s1 σ H1 Q I1 q1
  | false => exact ⟨H1, I1, q1⟩
theorem pw_or (ha : PT X a tA) (hb : PW X (.BoolOp .Or (b :: rest) pos) tB') : PW X (.BoolOp .Or (a :: b :: rest) pos) (tOr tA tB') := by
  intro wh pins s σ H Q I h
  refine isTrue_or (thn (ha pins s σ H _ I h) fun c s1 ⟨H1, I1, q1⟩ => ?_)
  cases c with
  | true => exact ⟨H1, I1, q1⟩
  | false => exact hb wh pins s1 σ H1 Q I1 q1
theorem pt_not (ha : PT X a tA) : PT X (.UnaryOp .Not a pos) (tNot tA) := by
  intro pins s σ H Q I h
  exact isTrue_not (ha pins s σ H (fun c H1 => Q (!c) H1) I h)
/-- .. as values (bools) -/
def tAndV (ta tb : TE) : TE := fun σ H Q => ta σ H fun x H1 => ∃ c, x = .bl c ∧ if c = true then tb σ H1 Q else Q (.bl false) H1
def tOrV (ta tb : TE) : TE := fun σ H Q => ta σ H fun x H1 => ∃ c, x = .bl c ∧ if c = true then Q (.bl true) H1 else tb σ H1 Q
def tNotV (ta : TE) : TE := fun σ H Q => ta σ H fun x H1 => ∃ c, x = .bl c ∧ Q (.bl (!c)) H1
theorem pe_one {op} {t : TE} (h : PE X a t) : PE X (.BoolOp op [a] pos) t := fun pins s σ H Q I hw => BoolOp_one (h pins s σ H Q I hw)
theorem pe_and (ha : PE X a ta) (hb : PE X (.BoolOp .And (b :: rest) pos) tb) : PE X (.BoolOp .And (a :: b :: rest) pos) (tAndV ta tb) := by
  intro pins s σ H Q I h
  refine BoolOp_and (thn (ha pins s σ H _ I h) fun v s1 ⟨x, H1, I1, r1, q1⟩ => ?_)
  obtain ⟨c, rfl, q1⟩ := q1
  cases r1
  refine wpAny_truthy_bool ?_
  cases c with
  | true => exact hb pins s1 σ H1 Q I1 q1
  | false => exact ⟨.bl false, H1, I1, rfl, q1⟩
theorem pe_not (ha : PE X a ta) : PE X (.UnaryOp .Not a pos) (tNotV ta) := by
  intro pins s σ H Q I h
  refine UnaryOp_ (thn (ha pins s σ H _ I h) fun v s1 ⟨x, H1, I1, r1, q1⟩ => ?_)
  obtain ⟨c, rfl, q1⟩ := q1
  cases r1
  exact not_of (wpAny_truthy_bool ⟨.bl (!c), H1, I1, rfl, q1⟩)
/-- a if t else b -/
def tIf (t : TT) (ta tb : TE) : TE := fun σ H Q => t σ H fun c H1 => if c = true then ta σ H1 Q else tb σ H1 Q
end
end L2

namespace L2
open PySem PySem.Spec PyProof.Rows

/-! ### a list, a tuple that is read: tracked, frozen, or an object of the module -/
def SqL (K : PySem.W.Frag) (H : Hp) (a : Addr) (xs : List V) : Prop :=
  Rd H a (.lst xs) ∨
    ∃ (o : Obj) (its : Array Value) (n : Nat), K.lookup a = some o ∧ o.cls = .type "list" ∧ o.dict = none ∧ o.data = .seq its n ∧ its.size ≤ sizeLine ∧ Vals xs its.toList
def SqT (K : PySem.W.Frag) (H : Hp) (a : Addr) (xs : List V) : Prop :=
  Rd H a (.tup xs) ∨
    ∃ (o : Obj) (its : Array Value) (n : Nat), K.lookup a = some o ∧ o.cls = .type "tuple" ∧ o.data = .seq its n ∧ its.size ≤ sizeLine ∧ Vals xs its.toList
def absV : Value → Option V
  | .none => some .non
  | .bool b => some (.bl b)
  | .int i _ => some (.int i)
  | .str x _ => some (.str x)
  | .bytes b _ => some (.byt b)
  | .float b _ => some (.flt b)
  | .ref a => some (.ref a)
  | .type n => some (.ty n)
  | _ => none
theorem RelV.abs {x : V} {u : Value} (r : RelV x u) : absV u = some x := by
  cases x with
  | non => cases r; rfl
  | bl _ => cases r; rfl
  | int _ => obtain ⟨t, rfl⟩ := r; rfl
  | str _ => obtain ⟨t, rfl⟩ := r; rfl
  | byt _ => obtain ⟨t, rfl⟩ := r; rfl
  | flt _ => obtain ⟨t, rfl⟩ := r; rfl
  | ref _ => cases r; rfl
  | ty _ => cases r; rfl
theorem RelV.inj {x y : V} {u : Value} (r : RelV x u) (q : RelV y u) : x = y := Option.some.inj (r.abs.symm.trans q.abs)
theorem Vals.inj : ∀ {xs ys : List V} {us : List Value}, Vals xs us → Vals ys us → xs = ys
  | _, _, _, .nil, .nil => rfl
  | _, _, _, .cons r t, .cons r' t' => by rw [r.inj r', Vals.inj t t']
section
variable {X : Cx} {pins : List (Addr × Obj)} {σ : St} {H : Hp} {s : Shared} {a : Addr} {xs ys : List V}
theorem SqL.of {K : PySem.W.Frag} (h : H a = some (.lst xs)) : SqL K H a xs := .inl (.inl h)
theorem SqT.of {K : PySem.W.Frag} (h : H a = some (.tup xs)) : SqT K H a xs := .inl (.inl h)
theorem Inv.list (I : Inv X pins σ H s) (h : SqL X.K H a xs) : ∃ its : List Value, Vals xs its ∧ PlainL s.heap a its.toArray ∧ xs.length ≤ sizeLine := by
  rcases h with h | ⟨o, its, n, hk, hc, hd, hs, hz, r⟩
  · obtain ⟨z, its, n, r, e⟩ := h.ok I.hok
    exact ⟨its, r, ⟨_, n, e, rfl, rfl, rfl⟩, z⟩
  · refine ⟨its.toList, r, ⟨o, n, I.kIn a o hk, hc, hd, by simpa using hs⟩, ?_⟩
    have e := r.length
    simp only [Array.length_toList] at e
    omega
theorem Inv.tuple (I : Inv X pins σ H s) (h : SqT X.K H a xs) : ∃ its : List Value, Vals xs its ∧ IsTup s.heap a its.toArray ∧ xs.length ≤ sizeLine := by
  rcases h with h | ⟨o, its, n, hk, hc, hs, hz, r⟩
  · obtain ⟨z, its, r, p⟩ := h.ok I.hok
    exact ⟨its, r, p, z⟩
  · refine ⟨its.toList, r, ⟨o, I.kIn a o hk, hc, n, by simpa using hs⟩, ?_⟩
    have e := r.length
    simp only [Array.length_toList] at e
    omega
theorem Inv.list_inj (I : Inv X pins σ H s) (h : SqL X.K H a xs) (h' : SqL X.K H a ys) : xs = ys := by
  obtain ⟨its, r, ⟨o, n, e, _, _, d⟩, _⟩ := I.list h
  obtain ⟨its', r', ⟨o', n', e', _, _, d'⟩, _⟩ := I.list h'
  rw [e] at e'; cases e'
  rw [d] at d'
  injection d' with d1 _
  have : its = its' := by simpa using congrArg Array.toList d1
  subst this
  exact r.inj r'
end

/-! ### another wish about exceptions -/
abbrev Cx.wish (X : Cx) (E : Value → Shared → Prop) : Cx := { X with xe := E }
/-- no exception leaves -/
abbrev Cx.nox (X : Cx) : Cx := X.wish fun _ _ => False
theorem Cx.Ok.wish {X : Cx} (ok : X.Ok) (E : Value → Shared → Prop) : (X.wish E).Ok :=
  ⟨ok.mod, ok.kind, ok.glob, ok.blt, ok.above, ok.inj, ok.has, ok.cab, ok.hd, ok.frames, ok.stk, ok.exf, ok.bs, ok.bsz, ok.noex, ok.exfs, ok.funs, ok.frf⟩
theorem Cx.Ok.unwish {X : Cx} {E : Value → Shared → Prop} (ok : (X.wish E).Ok) : X.Ok :=
  ⟨ok.mod, ok.kind, ok.glob, ok.blt, ok.above, ok.inj, ok.has, ok.cab, ok.hd, ok.frames, ok.stk, ok.exf, ok.bs, ok.bsz, ok.noex, ok.exfs, ok.funs, ok.frf⟩
section
variable {X : Cx} {pins : List (Addr × Obj)} {σ : St} {H : Hp} {s : Shared} {E : Value → Shared → Prop}
theorem Inv.wish (I : Inv X pins σ H s) (E : Value → Shared → Prop) : Inv (X.wish E) pins σ H s := ⟨I.ok.wish E, I.os, I.bare, I.base, I.loc, I.cell, I.free, I.freeC, I.pin, I.hok, I.len⟩
theorem Inv.unwish (I : Inv (X.wish E) pins σ H s) : Inv X pins σ H s := ⟨I.ok.unwish, I.os, I.bare, I.base, I.loc, I.cell, I.free, I.freeC, I.pin, I.hok, I.len⟩
theorem SP.unwish {D : Ends} {f : Flow} {s' : Shared} (h : SP (X.wish E) pins D f s') : SP X pins D f s' := by
  cases f with
  | next => obtain ⟨σ', H', I, q⟩ := h; exact ⟨σ', H', I.unwish, q⟩
  | brk => obtain ⟨σ', H', I, q⟩ := h; exact ⟨σ', H', I.unwish, q⟩
  | cont => obtain ⟨σ', H', I, q⟩ := h; exact ⟨σ', H', I.unwish, q⟩
  | ret u => obtain ⟨v, σ', H', I, r, q⟩ := h; exact ⟨v, σ', H', I.unwish, r, q⟩
theorem PSs.nox {st : List Stmt} {t : TS} (h : PSs X.nox st t) : PSs X st t := fun pins s σ H D I hw =>
  wpAny_mono (h pins s σ H D (I.wish _) hw) (fun _ _ q => q.unwish) fun _ _ z => False.elim z
end

/-! ### blocks and small statements -/
section
variable {X : Cx} {st : Stmt} {rest : List Stmt} {t u : TS} {e : Expr} {te : TE} {pos : Pos}
def tNext : TS := fun D σ H => D.nx σ H
def tSeq (t u : TS) : TS := fun D σ H => t { D with nx := u D } σ H
theorem pss_nil : PSs X [] tNext := fun _ _ σ H _ I h => wpAny_execs_nil ⟨σ, H, I, h⟩
theorem pss_cons (h1 : PS X st t) (h2 : PSs X rest u) : PSs X (st :: rest) (tSeq t u) := by
  intro pins s σ H D I h
  refine wpAny_execs_cons (thn (h1 pins s σ H { D with nx := u D } I h) fun f s1 q => ?_)
  cases f with
  | next =>
    obtain ⟨σ', H', I', q⟩ := q
    exact h2 pins s1 σ' H' D I' q
  | ret v => exact q
  | brk => exact q
  | cont => exact q
theorem pss_one (h1 : PS X st t) : PSs X [st] t := by
  intro pins s σ H D I h
  refine wpAny_execs_cons (thn (h1 pins s σ H D I h) fun f s1 q => ?_)
  cases f with
  | next => exact wpAny_execs_nil q
  | ret v => exact q
  | brk => exact q
  | cont => exact q
def tBreak : TS := fun D σ H => D.bk σ H
def tCont : TS := fun D σ H => D.ct σ H
/-- in a def's body nothing is shown -/
theorem Inv.quiet {pins : List (Addr × Obj)} {σ : St} {H : Hp} {s : Shared} (I : Inv X pins σ H s) : interactive X.env = false := by simp [interactive, I.ok.kind]
/-- an expression whose value is dropped -/
def tDrop (te : TE) : TS := fun D σ H => te σ H fun _ H1 => D.nx σ H1
theorem ps_expr (he : PE X e te) (hs : swapsWith e none pos.line X.env = pure false := by rfl) : PS X (.Expr e pos) (tDrop te) := by
  intro pins s σ H D I h
  exact wpAny_Expr_any (thn (he pins s σ H _ I h) fun v s1 ⟨x, H1, I1, r1, q1⟩ => ⟨σ, H1, I1, q1⟩) I.quiet hs
def tRet (te : TE) : TS := fun D σ H => te σ H D.rt
theorem ps_ret (he : PE X e te) : PS X (.Return (some e) pos) (tRet te) := by
  intro pins s σ H D I h
  exact wpAny_Return_some (thn (he pins s σ H _ I h) fun v s1 ⟨x, H1, I1, r1, q1⟩ => ⟨x, σ, H1, I1, r1, q1⟩)
def tRetN : TS := fun D _ H => D.rt .non H
def tIfS (c : TT) (t u : TS) : TS := fun D σ H => c σ H fun b H1 => if b = true then t D σ H1 else u D σ H1
theorem ps_if {c : Expr} {a b : List Stmt} {tc : TT} (hc : PT X c tc) (ha : PSs X a t) (hb : PSs X b u) : PS X (.If c a b pos) (tIfS tc t u) := by
  intro pins s σ H D I h
  refine wpAny_If (thn (hc pins s σ H _ I h) fun d s1 ⟨H1, I1, q1⟩ => ?_)
  cases d with
  | true => exact ha pins s1 σ H1 D I1 q1
  | false => exact hb pins s1 σ H1 D I1 q1
/-- code that the proof never comes to -/
def tNever : TS := fun _ _ _ => False
theorem ps_never : PS X st tNever := fun _ _ _ _ _ _ h => h.elim
end

/-! ### targets -/
abbrev TG := V → St → Hp → (St → Hp → Prop) → Prop
abbrev TGs := List V → St → Hp → (St → Hp → Prop) → Prop
def PG (X : Cx) (target : Expr) (t : TG) : Prop :=
  ∀ (pins : List (Addr × Obj)) (s : Shared) (σ : St) (H : Hp) (v : V) (u : Value) (Q : St → Hp → Prop), Inv X pins σ H s → RelV v u → t v σ H Q →
    wpAny (model X.prog X.w) X.A (assign target X.env u) (fun _ s' => ∃ σ' H', Inv X pins σ' H' s' ∧ Q σ' H') X.xe s
/-- several targets, one after another -/
def PGs (X : Cx) (ts : List Expr) (t : TGs) : Prop :=
  ∀ (pins : List (Addr × Obj)) (s : Shared) (σ : St) (H : Hp) (vs : List V) (us : List Value) (Q : St → Hp → Prop), Inv X pins σ H s → Vals vs us → t vs σ H Q →
    wpAny (model X.prog X.w) X.A (assignInOrder ((assignEach ts X.env).map (·.2)) us) (fun _ s' => ∃ σ' H', Inv X pins σ' H' s' ∧ Q σ' H') X.xe s
/-- o[i] = v, by values -/
abbrev TSet := V → V → V → Hp → (Hp → Prop) → Prop
def PSet (X : Cx) (t : TSet) : Prop :=
  ∀ (pins : List (Addr × Obj)) (s : Shared) (σ : St) (H : Hp) (o i v : V) (ov iv u : Value) (Q : Hp → Prop), Inv X pins σ H s → RelV o ov → RelV i iv → RelV v u → t o i v H Q →
    wpAny (model X.prog X.w) X.A (setItem ov iv u) (fun _ s' => ∃ H', Inv X pins σ H' s' ∧ Q H') X.xe s
/-- a op= b, by values -/
abbrev TIp := V → V → Hp → VK → Prop
def PIp (X : Cx) (op : Operator) (t : TIp) : Prop :=
  ∀ (pins : List (Addr × Obj)) (s : Shared) (σ : St) (H : Hp) (x y : V) (v u : Value) (Q : VK), Inv X pins σ H s → RelV x v → RelV y u → t x y H Q →
    wpAny (model X.prog X.w) X.A (inplaceOp op v u) (EP X pins σ Q) X.xe s
section
variable {X : Cx} {pos : Pos}
def gName (i : Nat) : TG := fun v σ H Q => Q (σ.set i (some v)) H
theorem pg_name {i : Nat} {x : Str} (hN : X.N.Nodup) (hi : X.N[i]? = some x) (hx : Loc X.env.scope x) (hf : X.fn x = true ∨ X.env.scope.names.lookup x = some .local := by first | exact .inl rfl | exact .inr rfl | assumption) : PG X (.Name x pos) (gName i) := by
  intro pins s σ H v u Q I r h
  exact wpAny_assign_Name (store_ok I hN hi hx r (fun s' I' => ⟨_, H, I', h⟩) hf)
def gNil : TGs := fun vs σ H Q => vs = [] ∧ Q σ H
def gCons (t : TG) (u : TGs) : TGs := fun vs σ H Q => ∃ v r, vs = v :: r ∧ t v σ H fun σ' H' => u r σ' H' Q
theorem pgs_nil : PGs X [] gNil := by
  intro pins s σ H vs us Q I r h
  obtain ⟨e, h⟩ := h
  subst e
  cases r
  exact assignInOrder_nil ⟨σ, H, I, h⟩
theorem pgs_cons {e : Expr} {es : List Expr} {t : TG} {u : TGs} (h1 : PG X e t) (h2 : PGs X es u)
    (hs : (assignEach (e :: es) X.env).map (·.2) = assign e X.env :: (assignEach es X.env).map (·.2) := by rfl) : PGs X (e :: es) (gCons t u) := by
  intro pins s σ H vs us Q I r h
  obtain ⟨v, vr, e1, h⟩ := h
  subst e1
  cases r with
  | cons r rr =>
    rw [hs]
    refine assignInOrder_cons (thn (h1 pins s σ H _ _ _ I r h) fun _ s1 ⟨σ1, H1, I1, q1⟩ => ?_)
    exact h2 pins s1 σ1 H1 _ _ Q I1 rr q1
/-- (a, b, ..) = a tuple of that length -/
def gTup (K : PySem.W.Frag) (n : Nat) (t : TGs) : TG := fun v σ H Q => ∃ a xs, v = .ref a ∧ SqT K H a xs ∧ xs.length = n ∧ t xs σ H Q
theorem pg_tup {es : List Expr} {k : Nat} {t : TGs} {n : Nat} (hc : X.calm = true) (h : PGs X es t)
    (hn : (assignEach es X.env).length = n := by rfl) (hst : (assignEach es X.env).findIdx? (·.1) = none := by rfl) : PG X (.Tuple es k pos) (gTup X.K n t) := by
  intro pins s σ H v u Q I r hw
  obtain ⟨a, xs, e1, hq, hl, hw⟩ := hw
  subst e1
  cases r
  obtain ⟨its, rv, ht, hz⟩ := I.tuple hq
  refine assign_Tuple_tuple (I.ok.hd hc) ht (by simp [hn, ← hl, rv.length]) hst fun h' hx => ?_
  have I1 : Inv X pins σ H { s with heap := h' } := I.kept (t' := s.toks) fun b o e => hx b o (Nat.ne_of_lt (Heap.lt_size e)) e
  exact h pins _ σ H xs _ Q I1 (by simpa using rv) hw
/-- o[i] = .. -/
def gSub (to ti : TE) (t : TSet) : TG := fun v σ H Q => to σ H fun o H1 => ti σ H1 fun i H2 => t o i v H2 fun H3 => Q σ H3
theorem pg_sub {o i : Expr} {to ti : TE} {t : TSet} (ho : PE X o to) (hi : PE X i ti) (hs : PSet X t)
    (ha : ∀ v, assign (.Subscript o i pos) X.env v = (do
      let ov ← holding [v] (eval o X.env)
      let iv ← holding [v, ov] (eval i X.env)
      standAt pos
      holding [v, ov, iv] (setItem ov iv v)
      release [v, ov, iv] []) := by intro _; rfl) : PG X (.Subscript o i pos) (gSub to ti t) := by
  intro pins s σ H v u Q I r h
  rw [ha]
  refine wpAny_bind (wpAny_holding (thn (ho pins s σ H _ I h) fun ov s1 ⟨x, H1, I1, r1, q1⟩ => ?_))
  refine wpAny_bind (wpAny_holding (thn (hi pins s1 σ H1 _ I1 q1) fun iv s2 ⟨y, H2, I2, r2, q2⟩ => ?_))
  refine wpAny_bind (wpAny_standAt (wpAny_bind (wpAny_holding (thn (hs pins s2 σ H2 x y v ov iv u _ I2 r1 r2 r q2) fun _ s3 ⟨H3, I3, q3⟩ => ?_))))
  exact wpAny_release ⟨σ, H3, I3, q3⟩
/-- target = value -/
def tAsg (te : TE) (g : TG) : TS := fun D σ H => te σ H fun x H1 => g x σ H1 D.nx
theorem ps_asg {tg e : Expr} {te : TE} {g : TG} (he : PE X e te) (hg : PG X tg g) (hs : swapsWithSole [tg] e pos.line X.env = pure false := by rfl) (hw : swappedStores [tg] e X.env = pure none := by rfl)
    (h1 : (assignEach [tg] X.env).map (·.2) = [assign tg X.env] := by rfl) : PS X (.Assign [tg] e pos) (tAsg te g) := by
  intro pins s σ H D I h
  refine wpAny_Assign_stores (thn (he pins s σ H _ I h) fun v s1 ⟨x, H1, I1, r1, q1⟩ => ?_) hs hw
  rw [h1]
  exact thn (hg pins s1 σ H1 x v _ I1 r1 q1) fun _ s2 q => q
/-- name = value -/
theorem ps_set {i : Nat} {x : Str} {e : Expr} {te : TE} {pos' : Pos} (hN : X.N.Nodup) (hi : X.N[i]? = some x) (hx : Loc X.env.scope x) (he : PE X e te) (hs : swapsWith e (some (.Name x pos')) pos.line X.env = pure false := by rfl) (hf : X.fn x = true ∨ X.env.scope.names.lookup x = some .local := by first | exact .inl rfl | exact .inr rfl | assumption) :
    PS X (.Assign [.Name x pos'] e pos) (tAsg te (gName i)) := by
  intro pins s σ H D I h
  refine wpAny_Assign_Name (thn (he pins s σ H _ I h) fun v s1 ⟨y, H1, I1, r1, q1⟩ => ?_) hs
  exact store_ok I1 hN hi hx r1 (fun s2 I2 => ⟨_, H1, I2, q1⟩) hf
/-- a, b = x, y with plain local names: stored from the right; the pair itself is not tracked (the opening rows as in PyProof/Rows/TupAssign.lean:23) -/
def tPar (i j : Nat) (ta : TA) : TS := fun D σ H => ta σ H fun vs H1 => ∃ v w, vs = [v, w] ∧ D.nx ((σ.set i (some v)).set j (some w)) H1
/-- name op= e -/
def tAug (i : Nat) (te : TE) (ti : TIp) : TS := fun D σ H => ∃ x, σ[i]? = some (some x) ∧ te σ H fun y H1 => ti x y H1 fun z H2 => D.nx (σ.set i (some z)) H2
/-- o[i] op= e -/
def tAugS (to ti te : TE) (tget : V → V → Hp → VK → Prop) (tip : TIp) (tset : TSet) : TS := fun D σ H => to σ H fun o H1 => ti σ H1 fun i H2 => tget o i H2 fun x H3 => te σ H3 fun y H4 => tip x y H4 fun z H5 => tset o i z H5 fun H6 => D.nx σ H6
/-- o[i], by values -/
def PGet (X : Cx) (t : V → V → Hp → VK → Prop) : Prop :=
  ∀ (pins : List (Addr × Obj)) (s : Shared) (σ : St) (H : Hp) (o i : V) (ov iv : Value) (Q : VK), Inv X pins σ H s → RelV o ov → RelV i iv → t o i H Q →
    wpAny (model X.prog X.w) X.A (getItem ov iv) (EP X pins σ Q) X.xe s
/-- ints -/
def ipI (f : Int → Int → Int) : TIp := fun x y H Q => ∃ i j, x = .int i ∧ y = .int j ∧ Q (.int (f i j)) H
end

/-! ### while -/
section
variable {X : Cx} {pos : Pos}
/-- the invariant W with its measure -/
def tWhile (c : TT) (tb : TS) : TS := fun D σ H => ∃ W : Nat → St → Hp → Prop, (∃ m, W m σ H) ∧ ∀ m σ H, W m σ H →
  c σ H fun b H1 => if b = true then ∃ N : St → Hp → Prop, (∀ σ' H', N σ' H' → ∃ m', m' < m ∧ W m' σ' H') ∧ tb { D with nx := N, ct := N, bk := D.nx } σ H1 else D.nx σ H1
theorem ps_while {c : Expr} {body : List Stmt} {tc : TT} {tb : TS} (hp : PassesOwn (model X.prog X.w) X.A X.env X.xe) (hc : PT X c tc) (hb : PSs X body tb) : PS X (.While c body [] pos) (tWhile tc tb) := by
  intro pins s σ H D I h
  obtain ⟨W, ⟨m0, w0⟩, turn⟩ := h
  refine wpAny_While (codeAny_whileLoop (fun n s' => ∃ σ' H', Inv X pins σ' H' s' ∧ W n σ' H') ?_ m0 ⟨σ, H, I, w0⟩)
  rintro n s1 ⟨σ1, H1, I1, w1⟩
  refine wpAny_passesOwn hp (thn (hc pins s1 σ1 H1 _ I1 (turn n σ1 H1 w1)) fun b s2 ⟨H2, I2, q2⟩ => ?_)
  cases b with
  | true =>
    obtain ⟨N, hN, q2⟩ := q2
    rw [if_pos rfl]
    refine wpAny_passesOwn hp (thn (hb pins s2 σ1 H2 _ I2 q2) fun f s3 q3 => ?_)
    cases f with
    | next =>
      obtain ⟨σ3, H3, I3, n3⟩ := q3
      obtain ⟨m', hm, w3⟩ := hN σ3 H3 n3
      exact ⟨m', hm, σ3, H3, I3, w3⟩
    | cont =>
      obtain ⟨σ3, H3, I3, n3⟩ := q3
      obtain ⟨m', hm, w3⟩ := hN σ3 H3 n3
      exact ⟨m', hm, σ3, H3, I3, w3⟩
    | brk => exact q3
    | ret v => exact q3
  | false =>
    rw [if_neg Bool.false_ne_true]
    exact wpAny_execs_nil ⟨σ1, H2, I2, q2⟩
end

/-! ### what a loop or a comprehension walks -/
/-- at turn i: it yields x (the heap may grow), or it stops -/
structure It where
  go : Nat → Hp → Prop
  yld : Nat → Hp → V → Hp → Prop
  stop : Nat → Hp → Prop
/-- the iterator's own objects may turn: they are not the frame's, not pinned, younger than the entry (or a comprehension's own) -/
def FpOk (X : Cx) (pins : List (Addr × Obj)) (H : Hp) (b : Addr) : Prop :=
  H b = none ∧ b ≠ X.env.locals ∧ b ∉ X.fs ∧ (b ∈ X.ex ∨ X.s₀.heap.objs.size ≤ b) ∧ (∀ x c, X.env.cells.lookup x = some c → c ≠ b) ∧ ∀ p ∈ X.pn ++ pins, p.1 ≠ b
theorem Inv.fpOk {X : Cx} {pins : List (Addr × Obj)} {σ : St} {H H' : Hp} {s : Shared} {b : Addr} (I : Inv X pins σ H s) (hb : s.heap.objs.size ≤ b) (hn : H' b = none) : FpOk X pins H' b := by
  refine ⟨hn, Nat.ne_of_gt (Nat.lt_of_lt_of_le I.lt hb), I.nofs hb, .inr (Nat.le_trans I.sz hb), fun x c e z => ?_, fun p hp z => ?_⟩
  · obtain ⟨v, q⟩ := I.cell x c e
    exact absurd (Nat.lt_of_lt_of_le q.lt (by rw [z]; exact hb)) (Nat.lt_irrefl _)
  · exact absurd (Nat.lt_of_lt_of_le (Heap.lt_size (I.pin p hp).1) (by rw [z]; exact hb)) (Nat.lt_irrefl _)
structure Turn (P : Program) (w : World) (K : PySem.W.Frag) (tg : Expr) (J : It) (fp : List Addr) (it : Addr) (tn : Nat → Heap → Prop) : Prop where
  mem : it ∈ fp
  obj : ∀ i h, tn i h → ∀ b ∈ fp, ∃ o, h.get? b = some o ∧ ∀ v, o.data ≠ .cell v
  keep : ∀ i h h', tn i h → (∀ b ∈ fp, ∀ o, h.get? b = some o → h'.get? b = some o) → tn i h'
  item : ∀ (X : Cx), X.prog = P → X.w = w → X.K = K → X.calm = true → ∀ (i : Nat) (pins : List (Addr × Obj)) (s : Shared) (σ : St) (H : Hp) (E : Value → Shared → Prop), Inv X pins σ H s → (∀ b ∈ fp, FpOk X pins H b) → tn i s.heap → J.go i H →
    wpAny (model P w) X.A (pyNext (.ref it)) (fun r s1 => ∃ u, r = some u ∧
      wpAny (model P w) X.A (letOwnedTupleGo tg (.ref it) u) (fun _ s2 => ∃ x H', Inv X pins σ H' s2 ∧ RelV x u ∧ J.yld i H x H' ∧ tn (i + 1) s2.heap ∧ ∀ b ∈ fp, H' b = none) E s1) E s
  done : ∀ (X : Cx), X.prog = P → X.w = w → X.K = K → X.calm = true → ∀ (i : Nat) (pins : List (Addr × Obj)) (s : Shared) (σ : St) (H : Hp) (E : Value → Shared → Prop), Inv X pins σ H s → (∀ b ∈ fp, FpOk X pins H b) → tn i s.heap → J.stop i H →
    wpAny (model P w) X.A (pyNext (.ref it)) (fun r s1 => r = none ∧ Inv X pins σ H s1) E s
  self : ∀ (A : Around) (i : Nat) (s : Shared) (Q : Value → Shared → Prop) (E : Value → Shared → Prop), tn i s.heap → Q (.ref it) s → wpAny (model P w) A (pyIter (.ref it)) Q E s
abbrev TI := St → Hp → (It → Hp → Prop) → Prop
/-- an iterator has come -/
def PIE (X : Cx) (pins : List (Addr × Obj)) (σ : St) (tg : Expr) (R : It → Hp → Prop) (itv : Value) (s2 : Shared) : Prop :=
  ∃ (it : Addr) (fp : List Addr) (tn : Nat → Heap → Prop) (J : It) (H' : Hp), itv = .ref it ∧ Inv X pins σ H' s2 ∧ Turn X.prog X.w X.K tg J fp it tn ∧ tn 0 s2.heap ∧ (∀ b ∈ fp, FpOk X pins H' b) ∧ R J H'
def PI (X : Cx) (tg iter : Expr) (wi : TI) : Prop :=
  ∀ (pins : List (Addr × Obj)) (s : Shared) (σ : St) (H : Hp) (R : It → Hp → Prop), Inv X pins σ H s → wi σ H R →
    wpAny (model X.prog X.w) X.A (eval iter X.env) (fun v s1 => wpAny (model X.prog X.w) X.A (pyIter v) (PIE X pins σ tg R) X.xe s1) X.xe s

/-- the step ahead of the store is nothing for an iterator that keeps no tuple -/
theorem go_of {M : Model} {A : Around} {E : Value → Shared → Prop} {s : Shared} {tg : Expr} {it : Addr} {u : Value} {o : Obj} {n : String} {vs : Array Value} {Q : Unit → Shared → Prop} (ho : s.heap.get? it = some o) (hc : o.cls = .type n) (hd : o.data = .fields vs)
    (hn : ["enumerate", "zip", "dict_itemiterator", "dict_reverseitemiterator", "odict_iterator", "itertools.zip_longest", "itertools.pairwise"].contains n = false) (hQ : Q () s) : wpAny M A (letOwnedTupleGo tg (.ref it) u) Q E s := by
  unfold letOwnedTupleGo
  cases tg <;> first
    | exact wpAny_pure hQ
    | (cases u <;> first
        | exact wpAny_pure hQ
        | (refine wpAny_bind (wpAny_load ho ?_)
           rw [hc, hd]
           show wpAny M A (if (["enumerate", "zip", "dict_itemiterator", "dict_reverseitemiterator", "odict_iterator", "itertools.zip_longest", "itertools.pairwise"].contains n && vs[0]? == some (rawInt _)) = true then _ else _) Q E s
           rw [if_neg (by intro h; rw [hn, Bool.false_and] at h; cases h)]
           exact wpAny_pure hQ))

/-- the list at a, as it stands at each turn (a loop may append to it) -/
def Itl (K : PySem.W.Frag) (a : Addr) : It :=
  ⟨fun i H => ∃ xs x, SqL K H a xs ∧ xs[i]? = some x, fun i H x H' => H' = H ∧ ∀ xs, SqL K H a xs → xs[i]? = some x, fun i H => ∃ xs, SqL K H a xs ∧ xs.length ≤ i⟩
def Itt (K : PySem.W.Frag) (a : Addr) : It :=
  ⟨fun i H => ∃ xs x, SqT K H a xs ∧ xs[i]? = some x, fun i H x H' => H' = H ∧ ∀ xs, SqT K H a xs → xs[i]? = some x, fun i H => ∃ xs, SqT K H a xs ∧ xs.length ≤ i⟩
/-- lo, lo + 1, .. (n of them) -/
def Itr (lo : Int) (n : Nat) : It := ⟨fun i _ => i < n, fun i H x H' => H' = H ∧ x = .int (lo + i), fun i _ => n ≤ i⟩
theorem turn_list {P : Program} {w : World} {K : PySem.W.Frag} {tg : Expr} (a it : Addr) : Turn P w K tg (Itl K a) [it] it (fun i h => h.IsListIter it a i) where
  mem := by simp
  obj := fun i h st b hb => by
    have e : b = it := by simpa using hb
    subst e
    obtain ⟨o, e, c, d⟩ := st
    exact ⟨o, e, fun v z => by rw [d] at z; cases z⟩
  keep := fun i h h' st k => st.at fun o e => k it (by simp) o e
  item := by
    intro X hP hw hK hc i pins s σ H E I hf st hg
    subst hP hw hK
    obtain ⟨xs, x, hq, hx⟩ := hg
    obtain ⟨its, rv, p, hz⟩ := I.list hq
    obtain ⟨u, hu, ru⟩ := rv.get hx
    obtain ⟨f0, f1, f2, f3, f4, f5⟩ := hf it (by simp)
    refine wpAny_pyNext_list_item st p.isList (x := u) (by simpa using hu) fun h' st' sb => ?_
    have I1 : Inv X pins σ H { s with heap := h' } := I.turned (t' := s.toks) (fun b o hb e => (sb.2 b hb).trans e) f0 f1 f3 f4 f5
    obtain ⟨o, e, c, d⟩ := id st'
    exact ⟨u, rfl, go_of (s := { s with heap := h' }) e c d (by decide) ⟨x, H, I1, ru, ⟨rfl, fun ys hy => by rw [I.list_inj hy hq]; exact hx⟩, st', fun b hb => (hf b hb).1⟩⟩
  done := by
    intro X hP hw hK hc i pins s σ H E I hf st hg
    subst hP hw hK
    obtain ⟨xs, hq, hx⟩ := hg
    obtain ⟨its, rv, p, hz⟩ := I.list hq
    obtain ⟨f0, f1, f2, f3, f4, f5⟩ := hf it (by simp)
    have hl := rv.length
    exact wpAny_pyNext_list_end (I.ok.hd hc) st p.isList (by simp; omega) fun h' eb => ⟨rfl, I.turned (t' := s.toks) (fun b o hb e => eb b o hb e) f0 f1 f3 f4 f5⟩
  self := fun _ _ _ _ _ st h => wpAny_pyIter_listiter st h
theorem turn_range {P : Program} {w : World} {K : PySem.W.Frag} {tg : Expr} (it : Addr) (lo : Int) (n : Nat) : Turn P w K tg (Itr lo n) [it] it (fun i h => IsRangeIter h it (lo + (i : Nat) * 1) ((n : Int) - (i : Nat)) 1) where
  mem := by simp
  obj := fun i h st b hb => by
    have e : b = it := by simpa using hb
    subst e
    exact ⟨_, st, fun v z => by
      have z' : Data.fields _ = Data.cell v := z
      cases z'⟩
  keep := fun i h h' st k => k it (by simp) _ st
  item := by
    intro X hP hw hK hc i pins s σ H E I hf st hg
    subst hP hw hK
    obtain ⟨f0, f1, f2, f3, f4, f5⟩ := hf it (by simp)
    have W := Walks.range (prog := X.prog) (w := X.w) (I.ok.hd hc) it lo 1 n
    refine W.item i s _ _ hg st fun v h' tk hv st' kk => ?_
    obtain ⟨t, rfl⟩ := hv
    have I1 : Inv X pins σ H { s with heap := h', toks := tk } := I.turned (fun b o hb e => kk b o (by simpa using hb) e) f0 f1 f3 f4 f5
    refine ⟨_, rfl, go_of (s := { s with heap := h', toks := tk }) (n := "range_iterator") st' rfl rfl (by decide) ⟨.int (lo + i), H, I1, ⟨t, ?_⟩, ⟨rfl, rfl⟩, st', fun b hb => (hf b hb).1⟩⟩
    rw [Int.mul_one]
  done := by
    intro X hP hw hK hc i pins s σ H E I hf st hg
    subst hP hw hK
    obtain ⟨f0, f1, f2, f3, f4, f5⟩ := hf it (by simp)
    exact wpAny_pyNext_range_end (I.ok.hd hc) st (by have : n ≤ i := hg; omega) fun h' eb => ⟨rfl, I.turned (t' := s.toks) (fun b o hb e => eb b o hb e) f0 f1 f3 f4 f5⟩
  self := fun _ _ _ _ _ st h => wpAny_pyIter_rangeiter st h
end L2

namespace L2
open PySem PySem.Spec PyProof.Rows
section
variable {X : Cx} {tg : Expr}
def iList (K : PySem.W.Frag) (tl : TE) : TI := fun σ H R => tl σ H fun x H1 => ∃ a, x = .ref a ∧ (∃ xs, SqL K H1 a xs) ∧ R (Itl K a) H1
def iTup (K : PySem.W.Frag) (tl : TE) : TI := fun σ H R => tl σ H fun x H1 => ∃ a, x = .ref a ∧ (∃ xs, SqT K H1 a xs) ∧ R (Itt K a) H1
theorem pi_list {l : Expr} {tl : TE} (hl : PE X l tl) : PI X tg l (iList X.K tl) := by
  intro pins s σ H R I h
  refine thn (hl pins s σ H _ I h) fun v s1 ⟨x, H1, I1, r1, q1⟩ => ?_
  obtain ⟨a, e, ⟨xs, hq⟩, q⟩ := q1
  subst e
  cases r1
  obtain ⟨its, rv, p, hz⟩ := I1.list hq
  refine wpAny_pyIter_list p.isList ?_
  refine ⟨s1.heap.objs.size, [s1.heap.objs.size], _, _, H1, rfl, I1.kept (t' := s1.toks) fun b o e => Heap.get?_push_of_some _ e, turn_list a _, ⟨_, Heap.get?_push_size _ rfl, rfl, rfl⟩, fun b hb => ?_, q⟩
  have e : b = s1.heap.objs.size := by simpa using hb
  subst e
  exact I1.fpOk (Nat.le_refl _) (I1.hok.fresh (Nat.le_refl _))
/-- a range object just made, walked -/
theorem range_it {pins : List (Addr × Obj)} {σ : St} {H : Hp} {s : Shared} {R : It → Hp → Prop} {E : Value → Shared → Prop} {lo hi : Int} {t u v : Tok} {tk : Nat} (I : Inv X pins σ H s) (h1 : -(2 ^ 62) ≤ lo) (h2 : lo < 2 ^ 62) (h3 : -(2 ^ 62) ≤ hi) (h4 : hi < 2 ^ 62)
    (q : R (Itr lo (hi - lo).toNat) H) : wpAny (model X.prog X.w) X.A (pyIter (.ref s.heap.objs.size)) (PIE X pins σ tg R) E { s with heap := s.heap.push { cls := .type "range", data := .fields #[.int lo t, .int hi u, .int 1 v] }, toks := tk } := by
  refine wpAny_pyIter_range (IsRange.new ..) (small_one h1 h2 h3 h4) ?_
  have I1 : Inv X pins σ H { s with heap := s.heap.push { cls := .type "range", data := .fields #[.int lo t, .int hi u, .int 1 v] }, toks := tk } := I.kept fun b o e => Heap.get?_push_of_some _ e
  refine ⟨(s.heap.push { cls := .type "range", data := .fields #[.int lo t, .int hi u, .int 1 v] }).objs.size, [(s.heap.push { cls := .type "range", data := .fields #[.int lo t, .int hi u, .int 1 v] }).objs.size], _, _, H, rfl,
    I1.kept (t' := tk) fun b o e => Heap.get?_push_of_some _ e, turn_range _ lo (hi - lo).toNat, ?_, fun b hb => ?_, q⟩
  · have e1 : lo + ((0 : Nat) : Int) * 1 = lo := by simp
    have e2 : (((hi - lo).toNat : Nat) : Int) - ((0 : Nat) : Int) = Builtin.Range.rangeSize lo hi 1 := by rw [rangeSize_one]; split <;> omega
    show IsRangeIter _ _ (lo + ((0 : Nat) : Int) * 1) ((((hi - lo).toNat : Nat) : Int) - ((0 : Nat) : Int)) 1
    rw [e1, e2]
    exact Heap.get?_push_size _ rfl
  · have e : b = (s.heap.push { cls := .type "range", data := .fields #[.int lo t, .int hi u, .int 1 v] }).objs.size := by simpa using hb
    subst e
    exact I1.fpOk (Nat.le_refl _) (I1.hok.fresh (Nat.le_refl _))
def iRng1 (ta : TA) : TI := fun σ H R => ta σ H fun vs H1 => ∃ j : Int, vs = [.int j] ∧ -(2 ^ 62) ≤ j ∧ j < 2 ^ 62 ∧ R (Itr 0 j.toNat) H1
def iRng2 (ta : TA) : TI := fun σ H R => ta σ H fun vs H1 => ∃ i j : Int, vs = [.int i, .int j] ∧ (-(2 ^ 62) ≤ i ∧ i < 2 ^ 62 ∧ -(2 ^ 62) ≤ j ∧ j < 2 ^ 62) ∧ R (Itr i (j - i).toNat) H1
theorem pi_range1 {a : Expr} {ta : TA} {p pos : Pos} (hg : Gl X "range") (hm : X.mg "range" = none) (ha : PA X [a] ta) (hs : starEach [a] X.env = [(false, eval a X.env)] := by rfl) : PI X tg (.Call (.Name "range" p) [a] [] pos) (iRng1 ta) := by
  intro pins s σ H R I h
  refine Call_ (ld_blt I hg hm boot_range (PyProof.Rows.callWith_type1 (thn (ha pos pins s σ H _ I h) fun us s1 ⟨vs, H1, I1, r1, q1⟩ => ?_) hs rfl))
  obtain ⟨j, e, q1, q2, q⟩ := q1
  subst e
  cases r1 with
  | cons r rr =>
    cases rr
    obtain ⟨t, rfl⟩ := r
    exact call_range_1 (range_it I1 (by omega) (by omega) q1 q2 (by simpa using q))
/-! ### for -/
/-- W: the invariant by the turn and a measure; N: what the body is to reach -/
def tFor (wi : TI) (g : TG) (tb : TS) : TS := fun D σ H => wi σ H fun J H1 => ∃ W : Nat → Nat → St → Hp → Prop, (∃ m, W 0 m σ H1) ∧ ∀ i m σ H, W i m σ H →
  (J.stop i H ∧ D.nx σ H) ∨ (J.go i H ∧ ∃ N : St → Hp → Prop, (∀ σ' H', N σ' H' → ∃ m', m' < m ∧ W (i + 1) m' σ' H') ∧ ∀ x H', J.yld i H x H' → g x σ H' fun σ2 H2 => tb { D with nx := N, ct := N, bk := D.nx } σ2 H2)
/-- the records at fp as they stand -/
def pinsAt (fp : List Addr) (h : Heap) : List (Addr × Obj) := fp.filterMap fun b => (h.get? b).map fun o => (b, o)
theorem mem_pinsAt {fp : List Addr} {h : Heap} {b : Addr} {o : Obj} (hb : b ∈ fp) (e : h.get? b = some o) : (b, o) ∈ pinsAt fp h := List.mem_filterMap.mpr ⟨b, hb, by rw [e]; rfl⟩
theorem of_pinsAt {fp : List Addr} {h : Heap} {p : Addr × Obj} (hp : p ∈ pinsAt fp h) : p.1 ∈ fp ∧ h.get? p.1 = some p.2 := by
  obtain ⟨b, hb, e⟩ := List.mem_filterMap.mp hp
  cases q : h.get? b with
  | none => rw [q] at e; cases e
  | some o =>
    rw [q] at e
    have e' : (b, o) = p := Option.some.inj e
    subst e'
    exact ⟨hb, q⟩
theorem Inv.pinned {pins : List (Addr × Obj)} {σ : St} {H : Hp} {s : Shared} {fp : List Addr} (I : Inv X pins σ H s) (hf : ∀ b ∈ fp, FpOk X pins H b) (ho : ∀ b ∈ fp, ∃ o, s.heap.get? b = some o ∧ ∀ v, o.data ≠ .cell v) : Inv X (pins ++ pinsAt fp s.heap) σ H s :=
  I.pins_of fun p hp => (List.mem_append.mp hp).elim (fun z => I.pin p (List.mem_append_right _ z)) fun z => by
    obtain ⟨hb, e⟩ := of_pinsAt z
    obtain ⟨f0, f1, f2, _⟩ := hf p.1 hb
    obtain ⟨o, e', d⟩ := ho p.1 hb
    rw [e] at e'; cases e'
    exact ⟨e, f0, f1, f2, d⟩
theorem Inv.unpinned {pins pl : List (Addr × Obj)} {σ : St} {H : Hp} {s : Shared} (I : Inv X (pins ++ pl) σ H s) : Inv X pins σ H s := I.pins_of fun p hp => I.pin p (List.mem_append_right _ (List.mem_append_left _ hp))
theorem ps_for {iter : Expr} {body : List Stmt} {wi : TI} {g : TG} {tb : TS} {pos : Pos} (hp : PassesOwn (model X.prog X.w) X.A X.env X.xe) (hc : X.calm = true) (hi : PI X tg iter wi) (hg : PG X tg g) (hb : PSs X body tb)
    (hs : ∀ x, foldedSetIterable iter X.env x = pure x := by intro _; rfl) : PS X (.For tg iter body [] pos) (tFor wi g tb) := by
  intro pins s σ H D I h
  refine wpAny_For (thn (hi pins s σ H _ I h) fun v s1 h1 => thn h1 fun itv s2 h2 => ?_) hs
  obtain ⟨it, fp, tn, J, H2, e, I2, T, st2, f2, W, ⟨m0, w0⟩, turn⟩ := h2
  subst e
  -- what stays true of the iterator's objects through the loop
  have stat : ∀ {H' : Hp}, (∀ b ∈ fp, H' b = none) → ∀ b ∈ fp, FpOk X pins H' b := fun hn b hb => ⟨hn b hb, (f2 b hb).2⟩
  refine codeAny_forLoop_any (fun n s' => ∃ i σ' H', Inv X pins σ' H' s' ∧ tn i s'.heap ∧ (∀ b ∈ fp, H' b = none) ∧ W i n σ' H') ?_ m0 ⟨0, σ, H2, I2, st2, fun b hb => (f2 b hb).1, w0⟩
  rintro n s3 ⟨i, σ3, H3, I3, st3, fr3, w3⟩
  rcases turn i n σ3 H3 w3 with ⟨stop, qn⟩ | ⟨go, N, hN, step⟩
  · refine wpAny_passesOwn hp (thn (T.done X rfl rfl rfl hc i pins s3 σ3 H3 X.xe I3 (stat fr3) st3 stop) fun r s4 ⟨hr, I4⟩ => ?_)
    subst hr
    exact wpAny_execs_nil ⟨σ3, H3, I4, qn⟩
  · refine wpAny_passesOwn hp (thn (T.item X rfl rfl rfl hc i pins s3 σ3 H3 X.xe I3 (stat fr3) st3 go) fun r s4 ⟨u, hr, h4⟩ => ?_)
    subst hr
    refine wpAny_passesOwn hp (thn h4 fun _ s5 ⟨x, H5, I5, r5, y5, st5, fr5⟩ => ?_)
    have I5' := I5.pinned (stat fr5) (T.obj _ _ st5)
    refine wpAny_passesOwn hp (thn (hg _ s5 σ3 H5 x u _ I5' r5 (step x H5 y5)) fun _ s6 ⟨σ6, H6, I6, q6⟩ => ?_)
    refine wpAny_passesOwn hp (thn (hb _ s6 σ6 H6 _ I6 q6) fun f s7 q7 => ?_)
    have again : ∀ {σ7 : St} {H7 : Hp}, Inv X (pins ++ pinsAt fp s5.heap) σ7 H7 s7 → N σ7 H7 → ∃ m, m < n ∧ ∃ i σ' H', Inv X pins σ' H' s7 ∧ tn i s7.heap ∧ (∀ b ∈ fp, H' b = none) ∧ W i m σ' H' := fun {σ7 H7} I7 n7 => by
      obtain ⟨m', hm, w7⟩ := hN σ7 H7 n7
      refine ⟨m', hm, i + 1, σ7, H7, I7.unpinned, T.keep _ _ _ st5 fun b hb o e => (I7.pin (b, o) (List.mem_append_right _ (List.mem_append_right _ (mem_pinsAt hb e)))).1, fun b hb => ?_, w7⟩
      obtain ⟨o, e, d⟩ := T.obj _ _ st5 b hb
      exact (I7.pin (b, o) (List.mem_append_right _ (List.mem_append_right _ (mem_pinsAt hb e)))).2.1
    cases f with
    | next => obtain ⟨σ7, H7, I7, n7⟩ := q7; exact again I7 n7
    | cont => obtain ⟨σ7, H7, I7, n7⟩ := q7; exact again I7 n7
    | brk => obtain ⟨σ7, H7, I7, q7⟩ := q7; exact ⟨σ7, H7, I7.unpinned, q7⟩
    | ret v => obtain ⟨x7, σ7, H7, I7, r7, q7⟩ := q7; exact ⟨x7, σ7, H7, I7.unpinned, r7, q7⟩
end

/-! ### the forms one uses -/
/-- over a list that the body leaves as it is -/
theorem for_list {K : PySem.W.Frag} {a : Addr} {xs : List V} {g : TG} {tb : TS} {D : Ends} {σ : St} {H : Hp} (Pv : Nat → St → Hp → Prop) (h0 : Pv 0 σ H) (hl : ∀ i σ H, i ≤ xs.length → Pv i σ H → SqL K H a xs)
    (hs : ∀ i x σ H, xs[i]? = some x → Pv i σ H → g x σ H fun σ2 H2 => tb { D with nx := Pv (i + 1), ct := Pv (i + 1), bk := D.nx } σ2 H2) (hd : ∀ σ H, Pv xs.length σ H → D.nx σ H) :
    ∃ W : Nat → Nat → St → Hp → Prop, (∃ m, W 0 m σ H) ∧ ∀ i m σ H, W i m σ H →
      ((Itl K a).stop i H ∧ D.nx σ H) ∨ ((Itl K a).go i H ∧ ∃ N : St → Hp → Prop, (∀ σ' H', N σ' H' → ∃ m', m' < m ∧ W (i + 1) m' σ' H') ∧ ∀ x H', (Itl K a).yld i H x H' → g x σ H' fun σ2 H2 => tb { D with nx := N, ct := N, bk := D.nx } σ2 H2) := by
  refine ⟨fun i m σ H => m = xs.length - i ∧ i ≤ xs.length ∧ Pv i σ H, ⟨xs.length, by simp, Nat.zero_le _, h0⟩, ?_⟩
  rintro i m σ H ⟨rfl, hi, p⟩
  have q := hl i σ H hi p
  by_cases hlt : i < xs.length
  · refine .inr ⟨⟨xs, xs[i], q, by simp [hlt]⟩, Pv (i + 1), fun σ' H' p' => ⟨xs.length - (i + 1), by omega, rfl, hlt, p'⟩, fun x H' y => ?_⟩
    obtain ⟨e, y⟩ := y
    subst e
    exact hs i x σ _ (y xs q) p
  · have e : i = xs.length := by omega
    subst e
    exact .inl ⟨⟨xs, q, Nat.le_refl _⟩, hd σ H p⟩
theorem for_range {lo : Int} {n : Nat} {g : TG} {tb : TS} {D : Ends} {σ : St} {H : Hp} (Pv : Nat → St → Hp → Prop) (h0 : Pv 0 σ H)
    (hs : ∀ i σ H, i < n → Pv i σ H → g (.int (lo + i)) σ H fun σ2 H2 => tb { D with nx := Pv (i + 1), ct := Pv (i + 1), bk := D.nx } σ2 H2) (hd : ∀ σ H, Pv n σ H → D.nx σ H) :
    ∃ W : Nat → Nat → St → Hp → Prop, (∃ m, W 0 m σ H) ∧ ∀ i m σ H, W i m σ H →
      ((Itr lo n).stop i H ∧ D.nx σ H) ∨ ((Itr lo n).go i H ∧ ∃ N : St → Hp → Prop, (∀ σ' H', N σ' H' → ∃ m', m' < m ∧ W (i + 1) m' σ' H') ∧ ∀ x H', (Itr lo n).yld i H x H' → g x σ H' fun σ2 H2 => tb { D with nx := N, ct := N, bk := D.nx } σ2 H2) := by
  refine ⟨fun i m σ H => m = n - i ∧ i ≤ n ∧ Pv i σ H, ⟨n, by simp, Nat.zero_le _, h0⟩, ?_⟩
  rintro i m σ H ⟨rfl, hi, p⟩
  by_cases hlt : i < n
  · refine .inr ⟨hlt, Pv (i + 1), fun σ' H' p' => ⟨n - (i + 1), by omega, rfl, hlt, p'⟩, fun x H' y => ?_⟩
    obtain ⟨e, y⟩ := y
    subst e y
    exact hs i σ _ hlt p
  · have e : i = n := by omega
    subst e
    exact .inl ⟨Nat.le_refl _, hd σ H p⟩
end L2

namespace L2
open PySem PySem.Spec PyProof.Rows

abbrev R2 := V → V → Hp → VK → Prop
/-- a two-place operation on values: f is binaryOp op, inplaceOp op or compareOp op -/
def OpR (X : Cx) (f : Value → Value → Sem Value) (r : R2) : Prop :=
  ∀ (pins : List (Addr × Obj)) (s : Shared) (σ : St) (H : Hp) (x y : V) (v u : Value) (Q : VK), Inv X pins σ H s → RelV x v → RelV y u → r x y H Q →
    wpAny (model X.prog X.w) X.A (f v u) (EP X pins σ Q) X.xe s
/-- a one-place operation -/
def UnR (X : Cx) (f : Value → Sem Value) (r : V → Hp → VK → Prop) : Prop :=
  ∀ (pins : List (Addr × Obj)) (s : Shared) (σ : St) (H : Hp) (x : V) (v : Value) (Q : VK), Inv X pins σ H s → RelV x v → r x H Q →
    wpAny (model X.prog X.w) X.A (f v) (EP X pins σ Q) X.xe s
/-- a call of a value that is known (a builtin, a type) with values -/
def CallR (X : Cx) (f : Value) (r : List V → Hp → VK → Prop) : Prop :=
  ∀ (pins : List (Addr × Obj)) (s : Shared) (σ : St) (H : Hp) (xs : List V) (us : List Value) (Q : VK), Inv X pins σ H s → Vals xs us → r xs H Q →
    wpAny (model X.prog X.w) X.A (call f us) (EP X pins σ Q) X.xe s
/-- a value's truth -/
def TruR (X : Cx) (r : V → Hp → (Bool → Hp → Prop) → Prop) : Prop :=
  ∀ (pins : List (Addr × Obj)) (s : Shared) (σ : St) (H : Hp) (x : V) (v : Value) (Q : Bool → Hp → Prop), Inv X pins σ H s → RelV x v → r x H Q →
    wpAny (model X.prog X.w) X.A (truthy v) (TP X pins σ Q) X.xe s

def tOp (r : R2) (ta tb : TE) : TE := fun σ H Q => ta σ H fun x H1 => tb σ H1 fun y H2 => r x y H2 Q
def tUn (r : V → Hp → VK → Prop) (ta : TE) : TE := fun σ H Q => ta σ H fun x H1 => r x H1 Q
/-- ints in, under C, and a value out -/
def rI (C : Int → Int → Prop) (g : Int → Int → V) : R2 := fun x y H Q => ∃ i j, x = .int i ∧ y = .int j ∧ C i j ∧ Q (g i j) H
def rI0 (g : Int → Int → V) : R2 := fun x y H Q => ∃ i j, x = .int i ∧ y = .int j ∧ Q (g i j) H
def rU (g : Int → V) : V → Hp → VK → Prop := fun x H Q => ∃ i, x = .int i ∧ Q (g i) H

section
variable {X : Cx} {a b c : Expr} {ta tb tc : TE} {pos : Pos}

theorem binT (ha : PE X a ta) (hb : PE X b tb) {pins : List (Addr × Obj)} {s : Shared} {σ : St} {H : Hp} {R : V → V → Hp → Prop} (I : Inv X pins σ H s)
    (h : ta σ H fun x H1 => tb σ H1 fun y H2 => R x y H2) {Q : Value → Shared → Prop} {f : Value → Value → Sem Value}
    (hf : ∀ v u s2 x y H2, Inv X pins σ H2 s2 → RelV x v → RelV y u → R x y H2 → wpAny (model X.prog X.w) X.A (f v u) Q X.xe s2) :
    wpAny (model X.prog X.w) X.A (eval a X.env) (fun v s₁ => wpAny (model X.prog X.w) X.A (eval b X.env) (fun u s₂ => wpAny (model X.prog X.w) X.A (f v u) Q X.xe s₂) X.xe s₁) X.xe s := by
  refine thn (ha pins s σ H _ I h) fun v s1 ⟨x, H1, I1, r1, q1⟩ => ?_
  refine thn (hb pins s1 σ H1 _ I1 q1) fun u s2 ⟨y, H2, I2, r2, q2⟩ => ?_
  exact hf v u s2 x y H2 I2 r1 r2 q2

theorem pe_op {op : Operator} {r : R2} (ho : OpR X (binaryOp op) r) (ha : PE X a ta) (hb : PE X b tb) : PE X (.BinOp a op b pos) (tOp r ta tb) := by
  intro pins s σ H Q I h
  exact wpAny_BinOp (binT ha hb I h fun v u s2 x y H2 I2 rx ry q => ho pins s2 σ H2 x y v u Q I2 rx ry q)
theorem pe_un {op : UnaryOp} {r : V → Hp → VK → Prop} (ho : UnR X (unaryOp op) r) (ha : PE X a ta) : PE X (.UnaryOp op a pos) (tUn r ta) := by
  intro pins s σ H Q I h
  exact UnaryOp_ (thn (ha pins s σ H _ I h) fun v s1 ⟨x, H1, I1, r1, q1⟩ => ho pins s1 σ H1 x v Q I1 r1 q1)
/-! ### ints -/
theorem opI {f : Value → Value → Sem Value} {C : Int → Int → Prop} {g : Int → Int → Int}
    (rule : ∀ (i j : Int) (t u : Tok) (s : Shared) (Q : Value → Shared → Prop) (E : Value → Shared → Prop), C i j → Q (.int (g i j) s.toks) { s with toks := s.toks + 1 } → wpAny (model X.prog X.w) X.A (f (.int i t) (.int j u)) Q E s) :
    OpR X f (rI C fun i j => .int (g i j)) := by
  intro pins s σ H x y v u Q I rx ry h
  obtain ⟨i, j, rfl, rfl, hc, q⟩ := h
  obtain ⟨t, rfl⟩ := rx
  obtain ⟨t', rfl⟩ := ry
  exact rule i j t t' s _ _ hc ⟨.int (g i j), H, I.tok _, ⟨_, rfl⟩, q⟩
theorem opI0 {f : Value → Value → Sem Value} {g : Int → Int → Int}
    (rule : ∀ (i j : Int) (t u : Tok) (s : Shared) (Q : Value → Shared → Prop) (E : Value → Shared → Prop), Q (.int (g i j) s.toks) { s with toks := s.toks + 1 } → wpAny (model X.prog X.w) X.A (f (.int i t) (.int j u)) Q E s) :
    OpR X f (rI0 fun i j => .int (g i j)) := by
  intro pins s σ H x y v u Q I rx ry h
  obtain ⟨i, j, rfl, rfl, q⟩ := h
  obtain ⟨t, rfl⟩ := rx
  obtain ⟨t', rfl⟩ := ry
  exact rule i j t t' s _ _ ⟨.int (g i j), H, I.tok _, ⟨_, rfl⟩, q⟩
theorem opB0 {f : Value → Value → Sem Value} {g : Int → Int → Bool}
    (rule : ∀ (i j : Int) (t u : Tok) (s : Shared) (Q : Value → Shared → Prop) (E : Value → Shared → Prop), Q (.bool (g i j)) s → wpAny (model X.prog X.w) X.A (f (.int i t) (.int j u)) Q E s) :
    OpR X f (rI0 fun i j => .bl (g i j)) := by
  intro pins s σ H x y v u Q I rx ry h
  obtain ⟨i, j, rfl, rfl, q⟩ := h
  obtain ⟨t, rfl⟩ := rx
  obtain ⟨t', rfl⟩ := ry
  exact rule i j t t' s _ _ ⟨.bl (g i j), H, I, rfl, q⟩

def CDiv (i j : Int) : Prop := 0 < j ∧ j < 1073741824
def CDivN (i j : Int) : Prop := j ≠ 0 ∧ j.natAbs < 1073741824
def CPow (i j : Int) : Prop := 0 ≤ j ∧ j ≤ 1000000 ∧ i.natAbs < 2 ^ 64
def CMul (i j : Int) : Prop := (-(2 ^ 64) < i ∧ i < 2 ^ 64) ∨ (-(2 ^ 64) < j ∧ j < 2 ^ 64)
theorem CMul.ok {i j : Int} (h : CMul i j) : IntMulOk i j := by
  rcases h with ⟨h1, h2⟩ | ⟨h1, h2⟩
  · exact .of_left (intBits_le_64 h1 h2)
  · exact .of_right (intBits_le_64 h1 h2)
theorem op_add : OpR X (binaryOp .Add) (rI0 fun i j => .int (i + j)) := opI0 fun _ _ _ _ _ _ _ q => add_int q
theorem op_sub : OpR X (binaryOp .Sub) (rI0 fun i j => .int (i - j)) := opI0 fun _ _ _ _ _ _ _ q => sub_int q
theorem op_mul : OpR X (binaryOp .Mult) (rI CMul fun i j => .int (i * j)) := opI fun _ _ _ _ _ _ _ hc q => mul_int q hc.ok
/-- // by a positive divisor -/
theorem op_fdiv : OpR X (binaryOp .FloorDiv) (rI CDiv fun i j => .int (i / j)) := opI fun i j _ _ _ _ _ hc q => by
  have h1 : (0 : Int) < j := hc.1
  have h2 : j < 1073741824 := hc.2
  exact floordiv_int (by omega) (by rw [Int.fdiv_eq_ediv_of_nonneg i (by omega)]; exact q) (.inl (PyProof.noPylong_small (by omega)))
/-- % by a positive divisor of any size -/
theorem op_mod : OpR X (binaryOp .Mod) (rI (fun _ j => 0 < j) fun i j => .int (i % j)) := opI fun i j _ _ _ _ _ hc q => by
  have h1 : (0 : Int) < j := hc
  exact mod_int' (by omega) (by rw [Int.fmod_eq_emod_of_nonneg i (by omega)]; exact q)
theorem unI {f : Value → Sem Value} {g : Int → Int}
    (rule : ∀ (i : Int) (t : Tok) (s : Shared) (Q : Value → Shared → Prop) (E : Value → Shared → Prop), Q (.int (g i) s.toks) { s with toks := s.toks + 1 } → wpAny (model X.prog X.w) X.A (f (.int i t)) Q E s) :
    UnR X f (rU fun i => .int (g i)) := by
  intro pins s σ H x v Q I rx h
  obtain ⟨i, rfl, q⟩ := h
  obtain ⟨t, rfl⟩ := rx
  exact rule i t s _ _ ⟨.int (g i), H, I.tok _, ⟨_, rfl⟩, q⟩
theorem un_neg : UnR X (unaryOp .USub) (rU fun i => .int (-i)) := unI fun _ _ _ _ _ q => neg_int q
/-! ### bools among ints: n += (a < b) -/
end

/-! ### comparisons -/
/-- the scalars that == tells apart as data does -/
def scal : V → V → Bool
  | .non, .non => true | .non, .int _ => true | .int _, .non => true | .non, .bl _ => true | .bl _, .non => true | .non, .str _ => true | .str _, .non => true
  | .int _, .int _ => true | .bl _, .bl _ => true | .str _, .str _ => true | .byt _, .byt _ => true
  | .int _, .str _ => true | .str _, .int _ => true | .bl _, .str _ => true | .str _, .bl _ => true
  | _, _ => false
def rEq : R2 := fun x y H Q => scal x y = true ∧ Q (.bl (decide (x = y))) H
def rNe : R2 := fun x y H Q => scal x y = true ∧ Q (.bl (!decide (x = y))) H

theorem dec_int {i j : Int} : decide (V.int i = V.int j) = (i == j) := by
  rw [Bool.eq_iff_iff]
  simp
theorem dec_bl {i j : Bool} : decide (V.bl i = V.bl j) = (i == j) := by
  rw [Bool.eq_iff_iff]
  simp
theorem dec_str {i j : Str} : decide (V.str i = V.str j) = (i == j) := by
  rw [Bool.eq_iff_iff]
  simp
theorem dec_byt {i j : Array UInt8} : decide (V.byt i = V.byt j) = (i.toList == j.toList) := by
  rw [Bool.eq_iff_iff]
  cases i
  cases j
  simp

section
variable {X : Cx} {a b c : Expr} {ta tb tc : TE} {pos : Pos}
theorem fin_bl {pins : List (Addr × Obj)} {σ : St} {H : Hp} {s : Shared} {Q : VK} {k k' : Bool} (I : Inv X pins σ H s) (q : Q (.bl k) H) (e : k = k') : EP X pins σ Q (.bool k') s := by
  subst e
  exact ⟨.bl k, H, I, rfl, q⟩
theorem op_eq : OpR X (compareOp .Eq) rEq := by
  intro pins s σ H x y v u Q I rx ry h
  obtain ⟨hs, q⟩ := h
  cases x with
  | non =>
    cases rx
    cases y with
    | non => cases ry; exact PySem.EqNone.eq_none_none (fin_bl I q (by simp))
    | bl j => cases ry; exact PySem.EqNone.eq_none_bool (fin_bl I q (by simp))
    | int j => obtain ⟨t', rfl⟩ := ry; exact PySem.EqNone.eq_none_int (fin_bl I q (by simp))
    | str j => obtain ⟨t', rfl⟩ := ry; exact PySem.EqNone.eq_none_str (fin_bl I q (by simp))
    | _ => exact absurd (show false = true from hs) Bool.false_ne_true
  | bl i =>
    cases rx
    cases y with
    | non => cases ry; exact PySem.EqNone.eq_bool_none (fin_bl I q (by simp))
    | bl j => cases ry; exact eq_bool (fin_bl I q dec_bl)
    | str j => obtain ⟨t', rfl⟩ := ry; exact PySem.EqMixed.eq_bool_str (fin_bl I q (by simp))
    | _ => exact absurd (show false = true from hs) Bool.false_ne_true
  | int i =>
    obtain ⟨t, rfl⟩ := rx
    cases y with
    | non => cases ry; exact PySem.EqNone.eq_int_none (fin_bl I q (by simp))
    | int j => obtain ⟨t', rfl⟩ := ry; exact eq_int (fin_bl I q dec_int)
    | str j => obtain ⟨t', rfl⟩ := ry; exact PySem.EqMixed.eq_int_str (fin_bl I q (by simp))
    | _ => exact absurd (show false = true from hs) Bool.false_ne_true
  | str i =>
    obtain ⟨t, rfl⟩ := rx
    cases y with
    | non => cases ry; exact PySem.EqNone.eq_str_none (fin_bl I q (by simp))
    | bl j => cases ry; exact PySem.EqMixed.eq_str_bool (fin_bl I q (by simp))
    | int j => obtain ⟨t', rfl⟩ := ry; exact PySem.EqMixed.eq_str_int (fin_bl I q (by simp))
    | str j => obtain ⟨t', rfl⟩ := ry; exact eq_str (fin_bl I q dec_str)
    | _ => exact absurd (show false = true from hs) Bool.false_ne_true
  | byt i =>
    obtain ⟨t, rfl⟩ := rx
    cases y with
    | byt j => obtain ⟨t', rfl⟩ := ry; exact PySem.W.eq_bytes (fin_bl I q dec_byt)
    | _ => exact absurd (show false = true from hs) Bool.false_ne_true
  | _ => cases y <;> exact absurd (show false = true from hs) Bool.false_ne_true
theorem op_ne : OpR X (compareOp .NotEq) rNe := by
  intro pins s σ H x y v u Q I rx ry h
  obtain ⟨hs, q⟩ := h
  cases x with
  | non =>
    cases rx
    cases y with
    | non => cases ry; exact PySem.EqNone.ne_none_none (fin_bl I q (by simp))
    | bl j => cases ry; exact PySem.EqNone.ne_none_bool (fin_bl I q (by simp))
    | int j => obtain ⟨t', rfl⟩ := ry; exact PySem.EqNone.ne_none_int (fin_bl I q (by simp))
    | str j => obtain ⟨t', rfl⟩ := ry; exact PySem.EqNone.ne_none_str (fin_bl I q (by simp))
    | _ => exact absurd (show false = true from hs) Bool.false_ne_true
  | bl i =>
    cases rx
    cases y with
    | non => cases ry; exact PySem.EqNone.ne_bool_none (fin_bl I q (by simp))
    | bl j => cases ry; exact ne_bool (fin_bl I q (congrArg not dec_bl))
    | str j => obtain ⟨t', rfl⟩ := ry; exact PySem.EqMixed.ne_bool_str (fin_bl I q (by simp))
    | _ => exact absurd (show false = true from hs) Bool.false_ne_true
  | int i =>
    obtain ⟨t, rfl⟩ := rx
    cases y with
    | non => cases ry; exact PySem.EqNone.ne_int_none (fin_bl I q (by simp))
    | int j => obtain ⟨t', rfl⟩ := ry; exact ne_int (fin_bl I q (congrArg not dec_int))
    | str j => obtain ⟨t', rfl⟩ := ry; exact PySem.EqMixed.ne_int_str (fin_bl I q (by simp))
    | _ => exact absurd (show false = true from hs) Bool.false_ne_true
  | str i =>
    obtain ⟨t, rfl⟩ := rx
    cases y with
    | non => cases ry; exact PySem.EqNone.ne_str_none (fin_bl I q (by simp))
    | bl j => cases ry; exact PySem.EqMixed.ne_str_bool (fin_bl I q (by simp))
    | int j => obtain ⟨t', rfl⟩ := ry; exact PySem.EqMixed.ne_str_int (fin_bl I q (by simp))
    | str j => obtain ⟨t', rfl⟩ := ry; exact ne_str (fin_bl I q (congrArg not dec_str))
    | _ => exact absurd (show false = true from hs) Bool.false_ne_true
  | byt i =>
    obtain ⟨t, rfl⟩ := rx
    cases y with
    | byt j => obtain ⟨t', rfl⟩ := ry; exact PySem.W.ne_bytes (fin_bl I q (congrArg not dec_byt))
    | _ => exact absurd (show false = true from hs) Bool.false_ne_true
  | _ => cases y <;> exact absurd (show false = true from hs) Bool.false_ne_true

theorem op_lt : OpR X (compareOp .Lt) (rI0 fun i j => .bl (decide (i < j))) := opB0 fun _ _ _ _ _ _ _ q => lt_int q
theorem op_gt : OpR X (compareOp .Gt) (rI0 fun i j => .bl (decide (j < i))) := opB0 fun _ _ _ _ _ _ _ q => gt_int q
theorem op_notin_str : OpR X (compareOp .NotIn) (fun x y H Q => ∃ i j, x = .str i ∧ y = .str j ∧ Q (.bl (!(!(Builtin.Str.occurrences j i 0 j.length 1).isEmpty))) H) := by
  intro pins s σ H x y v u Q I rx ry h
  obtain ⟨i, j, rfl, rfl, q⟩ := h
  obtain ⟨t, rfl⟩ := rx
  obtain ⟨t', rfl⟩ := ry
  exact notIn_str (fin_bl I q rfl)
/-- is, is not of two objects that are tracked lists or instances -/
def isObj : HO → Bool
  | .lst _ => true
  | .ins _ _ _ => true
  | _ => false
theorem nomark (b : Expr) {op : CmpOp} (h : op ≠ .In := by decide) (h2 : op ≠ .NotIn := by decide) : behindInMarks op b = false := by
  have e1 : (op == CmpOp.In) = false := by cases op <;> first | rfl | exact absurd rfl h
  have e2 : (op == CmpOp.NotIn) = false := by cases op <;> first | rfl | exact absurd rfl h2
  cases b <;> simp [behindInMarks, e1, e2]
/-- a comparison as a value; hm: nomark b, or (for in, not in) by with_unfolding_all rfl -/
theorem pe_cmpR {op : CmpOp} {r : R2} (ho : OpR X (compareOp op) r) (ha : PE X a ta) (hb : PE X b tb) (hm : behindInMarks op b = false) : PE X (.Compare a [op] [b] pos) (tOp r ta tb) := by
  intro pins s σ H Q I h
  exact wpAny_Compare1 (binT ha hb I h fun v u s2 x y H2 I2 rx ry q => ho pins s2 σ H2 x y v u Q I2 rx ry q) hm
/-- a reading of a value as a test -/
def tTest (t : TE) : TT := fun σ H Q => t σ H fun x H' => ∃ k, x = .bl k ∧ Q k H'
theorem pt_cmpR {op : CmpOp} {r : R2} (ho : OpR X (compareOp op) r) (ha : PE X a ta) (hb : PE X b tb) (hm : behindInMarks op b = false) : PT X (.Compare a [op] [b] pos) (tTest (tOp r ta tb)) := by
  intro pins s σ H Q I h
  refine wpAny_isTrue_Compare1 (thn (ha pins s σ H _ I h) fun v s1 ⟨x, H1, I1, r1, q1⟩ => thn (hb pins s1 σ H1 _ I1 q1) fun u s2 ⟨y, H2, I2, r2, q2⟩ =>
    thn (ho pins s2 σ H2 x y v u _ I2 r1 r2 q2) fun c s3 ⟨z, H3, I3, r3, k, e, q3⟩ => ?_) hm
  subst e
  cases r3
  exact wpAny_truthy_bool ⟨H3, I3, q3⟩
/-- a op1 b op2 c -/
def tChain (r r' : R2) (ta tb tc : TE) : TE := fun σ H Q => ta σ H fun x H1 => tb σ H1 fun y H2 => r x y H2 fun z H3 => ∃ k, z = .bl k ∧
  (if k = true then tc σ H3 fun w' H4 => r' y w' H4 Q else Q (.bl false) H3)
/-! ### truth -/
/-- a value's truth by the abstract heap -/
def TruV (K : PySem.W.Frag) (x : V) (H : Hp) (k : Bool) : Prop :=
  match x with
  | .non => k = false
  | .bl b => k = b
  | .int i => k = (i != 0)
  | .str y => y.length ≤ sizeLine ∧ k = ((y.length : Int) != 0)
  | .byt y => y.size ≤ sizeLine ∧ k = ((y.size : Int) != 0)
  | .ref p => (∃ xs, SqL K H p xs ∧ k = !xs.isEmpty) ∨ (∃ xs, SqT K H p xs ∧ k = !xs.isEmpty) ∨ ∃ kvs, H p = some (.dK kvs) ∧ k = !kvs.isEmpty
  | _ => False
theorem line63 : (sizeLine : Nat) < 2 ^ 63 := by rw [sizeLine_eq]; decide
/-! ### strs and bytes -/
theorem op_add_str : OpR X (binaryOp .Add) (fun x y H Q => ∃ i j, x = .str i ∧ y = .str j ∧ i.length + j.length ≤ sizeLine ∧ Q (.str (i ++ j)) H) := by
  intro pins s σ H x y v u Q I rx ry h
  obtain ⟨i, j, rfl, rfl, hz, q⟩ := h
  obtain ⟨t, rfl⟩ := rx
  obtain ⟨t', rfl⟩ := ry
  exact add_str (fun t' tk => ⟨.str (i ++ j), H, I.tok _, ⟨_, rfl⟩, q⟩) hz
def PlainIxT (b : Expr) : Prop := ∀ o i, subscripted b false o i = operate [o, i] (getItem o i)
/-! ### scalar builtins, by CallR -/
theorem vals1 {x : V} {us : List Value} (r : Vals [x] us) : ∃ u, us = [u] ∧ RelV x u := by
  cases r with
  | cons r1 r2 => cases r2; exact ⟨_, rfl, r1⟩
theorem call_int1 : CallR X (.type "int") (fun xs H Q => (∃ i, xs = [.int i] ∧ Q (.int i) H) ∨ ∃ k, xs = [.bl k] ∧ Q (.int (if k then 1 else 0)) H) := by
  intro pins s σ H xs us Q I r h
  rcases h with ⟨i, rfl, q⟩ | ⟨k, rfl, q⟩
  · obtain ⟨u, rfl, t, rfl⟩ := vals1 r
    exact call_int_int ⟨.int i, H, I, ⟨_, rfl⟩, q⟩
  · obtain ⟨u, rfl, r1⟩ := vals1 r
    cases r1
    exact call_int_bool ⟨.int (if k then 1 else 0), H, I.tok _, ⟨_, rfl⟩, q⟩
/-- len of a str, a bytes, a list, a tuple -/
def LenV (K : PySem.W.Frag) (x : V) (H : Hp) (n : Nat) : Prop :=
  match x with
  | .str y => y.length ≤ sizeLine ∧ n = y.length
  | .byt y => y.size ≤ sizeLine ∧ n = y.size
  | .ref p => (∃ xs, SqL K H p xs ∧ n = xs.length) ∨ ∃ xs, SqT K H p xs ∧ n = xs.length
  | _ => False
end
end L2

namespace L2
open PySem PySem.Spec PyProof.Rows

/-! ### an instance, its attributes a map -/
structure ObjM (h : Heap) (x dx C : Addr) (mA : Str → Option Value) : Prop where
  obj : h.get? x = some (PySem.W.instObj C dx)
  ns : h.Ns1 dx mA
  ne : dx ≠ x

theorem lookIn_ns {h : Heap} {dx : Addr} {mA : Str → Option Value} (n : h.Ns1 dx mA) : ∃ od, h.get? dx = some od ∧ ∀ name, PySem.W.lookIn name od = some (mA name) := by
  obtain ⟨o, es, ep, ho, hd, hk, _, hm⟩ := n
  refine ⟨o, ho, fun name => ?_⟩
  have e := hm name
  unfold nsFind findBy at e
  rw [← Array.find?_toList] at e
  unfold PySem.W.lookIn
  rw [hd]
  dsimp only
  split
  · rename_i y q
    rw [q] at e
    exact congrArg some e
  · rename_i q
    rw [q] at e
    have a : es.toList.any (·.refKey) = false := by
      rw [List.any_eq_false]
      intro y hy
      obtain ⟨z, t, hkey⟩ := hk y (Array.mem_toList_iff.mp hy)
      simp [DictEntry.refKey, hkey]
    have a' : ¬ es.toList.any (·.refKey) = true := by rw [a]; exact Bool.false_ne_true
    rw [if_neg a']
    exact congrArg some e

theorem ObjM.look {h : Heap} {x dx C : Addr} {mA : Str → Option Value} (I : ObjM h x dx C mA) : ∃ od, PySem.W.InstAt h x (PySem.W.instObj C dx) C (some od) ∧ ∀ name, PySem.W.lookIn name od = some (mA name) :=
  let ⟨od, ho, hl⟩ := lookIn_ns I.ns
  ⟨od, ⟨I.obj, rfl, rfl, ho⟩, hl⟩

section
variable {prog : Program} {w : World} {A : Around} {E : Value → Shared → Prop} {s : Shared} {K : PySem.W.Frag} {x dx C f : Addr} {mA : Str → Option Value} {name : Str} {v : Value}

end

/-! ### the attributes as a list of pairs -/
def putF (f : Str) (v : V) : List (Str × V) → List (Str × V)
  | [] => [(f, v)]
  | (g, x) :: r => if g = f then (g, v) :: r else (g, x) :: putF f v r
section
variable {P : Program} {w : World} {H H' : Hp} {h h' : Heap} {a C dx : Addr} {fs fs' : List (Str × V)}
theorem ins_get (hok : HOk P w H h) (e : H a = some (.ins C dx fs)) : ∃ mA, ObjM h a dx C mA ∧ (∀ f, RelO (fs.lookup f) (mA f)) ∧ PySem.Within mA (fs.map (·.1)) ∧ fs.length ≤ 1000 ∧ H dx = some (.own a) := by
  obtain ⟨d, z, ne, ob, mA, n, r, q⟩ := (show ObjOk P w H h a (.ins C dx fs) from hok a _ e)
  exact ⟨mA, ⟨ob, n, ne⟩, r, q, z, d⟩
end

/-! ### what of the text a class must have -/
structure Cls (K : PySem.W.Frag) (C : Addr) : Prop where
  pg : PySem.W.plainGet K C Str.empty = true
  hd : PySem.W.hasDictIn K C = true
  po : PySem.W.plainOver K C = true
  sa : PySem.W.findIn K (.ref C) "__setattr__" = some (some (.builtin "object.__setattr__"))
theorem Cls.get {K : PySem.W.Frag} {C : Addr} (c : Cls K C) (f : Str) : PySem.W.plainGet K C f = true := c.pg
/-- no class of it has the name -/
def NoAttr (K : PySem.W.Frag) (C : Addr) (f : Str) : Prop := PySem.W.findIn K (.ref C) f = some none
/-- a constant of the class -/
structure Con (K : PySem.W.Frag) (C : Addr) (f : Str) (v : V) (u : Value) : Prop where
  at_ : PySem.W.findIn K (.ref C) f = some (some u)
  rel : RelV v u
  get : PySem.W.specialIn K u "__get__" = some none
  cp : PySem.W.copiedNames.contains f = false
/-- a method: a plain def of the class or of one above it -/
structure Meth (K : PySem.W.Frag) (C : Addr) (m : Str) (f : Addr) : Prop where
  at_ : PySem.W.findIn K (.ref C) m = some (some (.ref f))
  fn : PySem.W.isFn K (.ref f) = true
  kp : PySem.W.keepIn K (.ref f) = true

section
variable {X : Cx} {pins : List (Addr × Obj)} {σ : St} {H : Hp} {s : Shared} {a C dx : Addr} {fs : List (Str × V)} {f : Str} {v : V} {A : Around} {E : Value → Shared → Prop}

end

/-! ### readings and rules -/
/-- e.f, an attribute of the instance -/
def tFld (K : PySem.W.Frag) (ta : TE) (f : Str) : TE := fun σ H Q => ta σ H fun x H1 => ∃ a C dx fs v, x = .ref a ∧ H1 a = some (.ins C dx fs) ∧ Cls K C ∧ NoAttr K C f ∧ fs.lookup f = some v ∧ Q v H1
/-- e.f, a constant of the class -/
def tCon (K : PySem.W.Frag) (ta : TE) (f : Str) : TE := fun σ H Q => ta σ H fun x H1 => ∃ a C dx fs v u, x = .ref a ∧ H1 a = some (.ins C dx fs) ∧ Cls K C ∧ Con K C f v u ∧ fs.lookup f = none ∧ Q v H1
/-- e.f = value -/
def sFld (K : PySem.W.Frag) (ta tv : TE) (f : Str) : TS := fun D σ H => tv σ H fun y H1 => ta σ H1 fun x H2 => ∃ a C dx fs, x = .ref a ∧ H2 a = some (.ins C dx fs) ∧ Cls K C ∧ NoAttr K C f ∧ fs.length < 1000 ∧
  D.nx σ (upd H2 a (.ins C dx (putF f y fs)))
/-- an augmented operator on two values -/
def InOp (X : Cx) (op : Operator) (rd : V → V → Hp → VK → Prop) : Prop :=
  ∀ (pins : List (Addr × Obj)) (s : Shared) (σ : St) (H : Hp) (x y : V) (u v : Value) (Q : VK), Inv X pins σ H s → RelV x u → RelV y v → rd x y H Q → wpAny (model X.prog X.w) X.A (inplaceOp op u v) (EP X pins σ Q) X.xe s
/-- e.f op= value -/
def sFldAug (K : PySem.W.Frag) (ta tv : TE) (rd : V → V → Hp → VK → Prop) (f : Str) : TS := fun D σ H => ta σ H fun x H1 => ∃ a C dx fs v, x = .ref a ∧ H1 a = some (.ins C dx fs) ∧ Cls K C ∧ NoAttr K C f ∧ fs.lookup f = some v ∧
  tv σ H1 fun y H2 => rd v y H2 fun z H3 => ∃ dx' fs', H3 a = some (.ins C dx' fs') ∧ fs'.length < 1000 ∧ D.nx σ (upd H3 a (.ins C dx' (putF f z fs')))

section
variable {X : Cx} {o e value : Expr} {f : Str} {pos pos' tpos : Pos} {ta tv : TE}
def rAdd : V → V → Hp → VK → Prop := fun x y H Q => ∃ i j, x = .int i ∧ y = .int j ∧ Q (.int (i + j)) H
def rSub : V → V → Hp → VK → Prop := fun x y H Q => ∃ i j, x = .int i ∧ y = .int j ∧ Q (.int (i - j)) H
end

/-! ### isinstance -/
section
variable {X : Cx} {pins : List (Addr × Obj)} {σ : St} {H : Hp} {s : Shared} {A : Around} {E : Value → Shared → Prop} {Q : Value → Shared → Prop} {c : Value} {b : Bool}
/-- the type of a value, as the fragment's deciders take it; for an instance its class -/
inductive TyOf (K : PySem.W.Frag) (H : Hp) : V → Value → Prop where
  | non : TyOf K H .non (.type "NoneType")
  | bl (x : Bool) : TyOf K H (.bl x) (.type "bool")
  | int (i : Int) : TyOf K H (.int i) (.type "int")
  | str (x : Str) : TyOf K H (.str x) (.type "str")
  | flt (x : UInt64) : TyOf K H (.flt x) (.type "float")
  | lst {a : Addr} {xs : List V} (e : H a = some (.lst xs)) : TyOf K H (.ref a) (.type "list")
  | frz {a : Addr} {o : Obj} {xs : List V} (e : H a = some (.frz o (.lst xs))) : TyOf K H (.ref a) (.type "list")
  | tup {a : Addr} {xs : List V} (e : H a = some (.tup xs)) : TyOf K H (.ref a) (.type "tuple")
  | dK {a : Addr} {kvs : List (Key × V)} (e : H a = some (.dK kvs)) : TyOf K H (.ref a) (.type "dict")
  | dT {a : Addr} {kvs : List (List Key × V)} (e : H a = some (.dT kvs)) : TyOf K H (.ref a) (.type "dict")
  | ins {a C dx : Addr} {fs : List (Str × V)} (e : H a = some (.ins C dx fs)) (cl : Cls K C) (ha : PySem.W.findIn K (.ref C) "__class__" = some (some (.builtin "object.__class__")))
      (hn : PySem.W.specialIn K (.builtin "object.__class__") "__get__" = some (some (.builtin "getset_descriptor.__get__"))) (htk : PySem.W.takesIn K (.builtin "object.__class__") = some true)
      (hm : PySem.W.mroIn K C (.type "object") = some true) : TyOf K H (.ref a) (.ref C)
/-- isinstance(x, c) for one class c, a built-in or an own one: kitOne's answer -/
theorem isinst_ok {x : V} {u t : Value} (I : Inv X pins σ H s) (rx : RelV x u) (ty : TyOf X.K H x t) (e : PySem.W.kitOne X.K t c = some b) (h : ∀ tk, Q (.bool b) { s with toks := tk }) :
    wpAny (model X.prog X.w) A (call (.builtin "isinstance") [u, c]) Q E s := by
  cases ty with
  | non => cases (show u = Value.none from rx); exact PySem.W.kia_one PySem.W.kitx_none I.kIn True.intro e (fun z => nomatch z) h
  | bl y => cases (show u = Value.bool y from rx); exact PySem.W.kia_one PySem.W.kitx_bool I.kIn True.intro e (fun z => nomatch z) h
  | int i => obtain ⟨t, q⟩ := (show ∃ t, u = Value.int i t from rx); cases q; exact PySem.W.kia_one PySem.W.kitx_int I.kIn True.intro e (fun z => nomatch z) h
  | str y => obtain ⟨t, q⟩ := (show ∃ t, u = Value.str y t from rx); cases q; exact PySem.W.kia_one PySem.W.kitx_str I.kIn True.intro e (fun z => nomatch z) h
  | flt y => obtain ⟨t, q⟩ := (show ∃ t, u = Value.float y t from rx); cases q; exact PySem.W.kia_one PySem.W.kitx_float I.kIn True.intro e (fun z => nomatch z) h
  | @lst a xs ea =>
    cases (show u = Value.ref a from rx)
    obtain ⟨_, _, n, _, h1⟩ := (show ObjOk X.prog X.w H s.heap a (.lst xs) from I.hok a _ ea)
    exact PySem.W.kia_one PySem.W.kitx_list I.kIn ⟨_, h1, rfl⟩ e (fun z => nomatch z) h
  | @frz a ob xs ea =>
    cases (show u = Value.ref a from rx)
    obtain ⟨_, _, _, n, _, h1⟩ := (show ObjOk X.prog X.w H s.heap a (.frz ob (.lst xs)) from I.hok a _ ea)
    exact PySem.W.kia_one PySem.W.kitx_list I.kIn ⟨_, h1, rfl⟩ e (fun z => nomatch z) h
  | @tup a xs ea =>
    cases (show u = Value.ref a from rx)
    obtain ⟨_, _, _, p⟩ := (show ObjOk X.prog X.w H s.heap a (.tup xs) from I.hok a _ ea)
    obtain ⟨o, h1, h2, _⟩ := p
    exact PySem.W.kia_one PySem.W.kitx_tuple I.kIn ⟨o, h1, h2⟩ e (fun z => nomatch z) h
  | @dK a kvs ea =>
    cases (show u = Value.ref a from rx)
    obtain ⟨_, _, vs, _, p⟩ := (show ObjOk X.prog X.w H s.heap a (.dK kvs) from I.hok a _ ea)
    obtain ⟨o, es, ep, h1, h2, _⟩ := p
    exact PySem.W.kia_one PySem.W.kitx_dict I.kIn ⟨o, h1, h2.1⟩ e (fun z => nomatch z) h
  | @dT a kvs ea =>
    cases (show u = Value.ref a from rx)
    obtain ⟨_, _, xs, _, o, es, ep, h1, h2, _⟩ := (show ObjOk X.prog X.w H s.heap a (.dT kvs) from I.hok a _ ea)
    exact PySem.W.kia_one PySem.W.kitx_dict I.kIn ⟨o, h1, h2.1⟩ e (fun z => nomatch z) h
  | @ins a C dx fs ea cl ha hn htk hm =>
    cases (show u = Value.ref a from rx)
    obtain ⟨mA, O, _⟩ := ins_get I.hok ea
    obtain ⟨od, J, _⟩ := O.look
    exact PySem.W.kia_one (PySem.W.kitx_own (cl.get _) cl.hd ha hn htk hm) I.kIn J e (fun z => nomatch z) h
end
end L2

namespace L2
open PySem PySem.Spec PyProof.Rows

/-! ### room -/
structure Room (k : Nat) (A : Around) : Prop where
  hd : A.handled = none
  dp : A.depth + 3 * k + 5 < recursionLimit
  un : A.units + 16 * k + 200 < cLine
theorem Room.mono {j k : Nat} {A : Around} (r : Room k A) (h : j ≤ k) : Room j A := ⟨r.hd, by have := r.dp; omega, by have := r.un; omega⟩
theorem Room.deeper {k : Nat} {A : Around} (r : Room (k + 1) A) (env : Env) : Room k (A.deeper env) :=
  ⟨r.hd, by have := r.dp; show A.depth + 1 + 3 * k + 5 < _; omega, by have := r.un; show A.units + 3 + 16 * k + 200 < _; omega⟩
theorem Room.depth {k : Nat} {A : Around} (r : Room k A) : A.depth < recursionLimit := by have := r.dp; omega
theorem Room.units0 {k : Nat} {A : Around} (r : Room k A) : A.units < cLine := by have := r.un; omega

/-! ### argument lists and displays -/
def tNil : TA := fun _ H Q => Q [] H
def tCons (ta : TE) (tr : TA) : TA := fun σ H Q => ta σ H fun x H1 => tr σ H1 fun xs H2 => Q (x :: xs) H2
section
variable {X : Cx} {e : Expr} {es : List Expr} {te : TE} {t : TA} {pos : Pos}
theorem pa_nil : PA X [] tNil := fun _ _ _ _ H Q I h => Calls.spliced_nil ⟨[], H, I, .nil, h⟩
theorem pa_cons (ha : PE X e te) (hr : PA X es t) (hs : starEach (e :: es) X.env = (false, eval e X.env) :: starEach es X.env := by rfl) : PA X (e :: es) (tCons te t) := by
  intro pos pins s σ H Q I h
  rw [hs]
  show wpAny _ _ (spliced ((false, eval e X.env) :: backTo pos (starEach es X.env))) _ _ s
  refine Calls.spliced_cons (thn (ha pins s σ H _ I h) fun u s1 ⟨x, H1, I1, r1, q1⟩ => ?_)
  exact thn (hr pos pins s1 σ H1 _ I1 q1) fun us s2 ⟨xs, H2, I2, r2, q2⟩ => ⟨x :: xs, H2, I2, .cons r1 r2, q2⟩

/-- a tuple, a list of written items -/
def tTup (t : TA) : TE := fun σ H Q => t σ H fun xs H1 => xs.length ≤ sizeLine ∧ ∀ p, H1 p = none → Q (.ref p) (upd H1 p (.tup xs))
def tLst (t : TA) : TE := fun σ H Q => t σ H fun xs H1 => xs.length ≤ sizeLine ∧ ∀ p, H1 p = none → Q (.ref p) (upd H1 p (.lst xs))
theorem pe_tup {x1} (h : PA X es t) : PE X (.Tuple es x1 pos) (tTup t) := by
  intro pins s σ H Q I hq
  refine wpAny_Tuple_spliced (thn (h pos pins s σ H _ I hq) fun us s1 ⟨xs, H1, I1, r, z, q⟩ => ⟨by rw [← r.length]; exact z, ?_⟩)
  have hf : H1 s1.heap.objs.size = none := I1.hok.fresh (Nat.le_refl _)
  refine ⟨.ref s1.heap.objs.size, upd H1 s1.heap.objs.size (.tup xs), I1.laid (t' := s1.toks) (fun b u e => Heap.get?_push_of_some _ e) (Nat.le_refl _) ?_, rfl, q _ hf⟩
  exact ⟨z, us, r, ⟨_, Heap.get?_push_size _ rfl, rfl, _, rfl⟩⟩
theorem pe_lst (h : PA X es t) : PE X (.List es pos) (tLst t) := by
  intro pins s σ H Q I hq
  refine wpAny_List_spliced (thn (h pos pins s σ H _ I hq) fun us s1 ⟨xs, H1, I1, r, z, q⟩ => ⟨by rw [← r.length]; exact z, ?_⟩)
  have hf : H1 s1.heap.objs.size = none := I1.hok.fresh (Nat.le_refl _)
  refine ⟨.ref s1.heap.objs.size, upd H1 s1.heap.objs.size (.lst xs), I1.laid (t' := s1.toks) (fun b u e => Heap.get?_push_of_some _ e) (Nat.le_refl _) ?_, rfl, q _ hf⟩
  exact ⟨z, us, 0, r, Heap.get?_push_size _ rfl⟩
end

/-! ### what a def promises -/
/-- a def's promise: the bound arguments in the parameters' order, the heap, the wanted end, the wanted exception -/
abbrev Sp := List V → Hp → VK → XK → Prop
/-- how an exception lies behind a call (file 08 gives it): the callers' frames, abstract heap and state ahead of the call, the wish, the exception, the state -/
abbrev CXT := List Env → Hp → Shared → XK → Value → Shared → Prop

/-- the state at a call -/
structure Env0 (P : Program) (w : World) (K : PySem.W.Frag) (mg : Str → Option Value) (base : Heap) (A : Around) (outer : List Env) (s : Shared) (H : Hp) : Prop where
  frames : A.frames = some outer
  mod : Mod K mg base
  bs : ∀ b o, base.get? b = some o → s.heap.get? b = some o ∧ H b = none
  bsz : base.objs.size ≤ s.heap.objs.size
  funs : s.heap.FunFrames base outer
  frf : ∀ b ∈ frs outer, H b = none
  hok : HOk P w H s.heap
  bare : AllBare s.gens
/-- a call's end -/
def CE (outer : List Env) (P : Program) (w : World) (H : Hp) (s : Shared) (Q : VK) (u : Value) (s' : Shared) : Prop :=
  ∃ v H', s'.os = s.os ∧ AllBare s'.gens ∧ Un (frs outer) [] H H' s.heap s'.heap ∧ HOk P w H' s'.heap ∧ RelV v u ∧ Q v H'
def CR (CX : CXT) (outer : List Env) (P : Program) (w : World) (H : Hp) (s : Shared) (Q : VK) (E : XK) (r : Result) (s' : Shared) : Prop :=
  match r with
  | .ok (.ret u) => CE outer P w H s Q u s'
  | .ok _ => False
  | .error e => CX outer H s E e s'
structure FnOk (P : Program) (w : World) (K : PySem.W.Frag) (mg : Str → Option Value) (base : Heap) (CX : CXT) (k : Nat) (f : Addr) (fd : FuncData) (ps : List Str) (sp : Sp) : Prop where
  len : ∀ vs H Q E, sp vs H Q E → vs.length = ps.length
  run : ∀ (A : Around) (outer : List Env) (s : Shared) (H : Hp) (args : Args) (us : List Value) (vs : List V) (Q : VK) (E : XK), Room k A → Env0 P w K mg base A outer s H → BindsTo s fd args (ps.zip us) → Vals vs us → sp vs H Q E →
    codeAny (model P w) A (.call (.ref f) args) (CR CX outer P w H s Q E) s
theorem FnOk.mono {P : Program} {w : World} {K : PySem.W.Frag} {mg : Str → Option Value} {base : Heap} {CX : CXT} {j k : Nat} {f : Addr} {fd : FuncData} {ps : List Str} {sp : Sp} (F : FnOk P w K mg base CX j f fd ps sp) (h : j ≤ k) :
    FnOk P w K mg base CX k f fd ps sp := ⟨F.len, fun A outer s H args us vs Q E hr => F.run A outer s H args us vs Q E (hr.mono h)⟩
section
variable {X : Cx} {pins : List (Addr × Obj)} {σ : St} {H : Hp} {s s' : Shared}
/-- from a body: what a callee wants -/
theorem Inv.env0 (I : Inv X pins σ H s) : Env0 X.prog X.w X.K X.mg X.base X.A X.stack s H :=
  ⟨I.ok.frames, I.ok.mod, I.bs, Nat.le_trans I.ok.bsz I.sz, I.stack, I.stkFree, I.hok, I.bare⟩
/-- behind a call -/
theorem Inv.after {Q : VK} {u : Value} (I : Inv X pins σ H s) (h : CE X.stack X.prog X.w H s Q u s') : EP X pins σ Q u s' := by
  obtain ⟨v, H', os, bare, un, hok, r, q⟩ := h
  obtain ⟨hh, g, d, t, os'⟩ := s'
  obtain rfl : os' = s.os := os
  exact ⟨v, H', I.call (h' := hh) (g' := g) (d' := d) (t' := t) (ch := []) un hok bare (fun b z => absurd z (by simp)), r, q⟩
end

/-! ### calls -/
/-- f(..): the written arguments, then the defaults dvs; E: what is wanted of an exception -/
def tCall (sp : Sp) (dvs : List V) (E : XK) (t : TA) : TE := fun σ H Q => t σ H fun vs H1 => sp (vs ++ dvs) H1 Q E
/-- o.m(..) of an instance of the class at C -/
def tMeth (C : Addr) (m : Str) (sp : Sp) (dvs : List V) (E : XK) (ta : TE) (t : TA) : TE := fun σ H Q => ta σ H fun x H1 => ∃ a dx fs, x = .ref a ∧ H1 a = some (.ins C dx fs) ∧ fs.lookup m = none ∧
  t σ H1 fun vs H2 => sp (x :: (vs ++ dvs)) H2 Q E
/-- C(..): a new instance and its dict, then __init__ -/
def tMake (C : Addr) (sp : Sp) (dvs : List V) (E : XK) (t : TA) : TE := fun σ H Q => t σ H fun vs H1 => ∀ x dx, H1 x = none → H1 dx = none → dx ≠ x →
  sp (.ref x :: (vs ++ dvs)) (upd (upd H1 dx (.own x)) x (.ins C dx [])) (fun v H2 => v = .non ∧ Q (.ref x) H2) E

/-- how the parameters are bound: us the positional arguments, kw the keywords' values by name, ds the defaults that fill up -/
def Binds (K : PySem.W.Frag) (fd : FuncData) (ps : List Str) (ds : List Value) : Prop :=
  ∀ (s : Shared) (us : List Value), K.In s.heap → (us ++ ds).length = ps.length → BindsTo s fd ⟨us, []⟩ (ps.zip (us ++ ds))
/-- every parameter is given -/
theorem Binds.all {K : PySem.W.Frag} {fd : FuncData} {ps : List Str} (h : ∀ us : List Value, us.length = ps.length → bindArgs fd ⟨us, []⟩ = pure (ps.zip us)) : Binds K fd ps [] := fun s us _ hl => by
  rw [List.append_nil] at hl ⊢
  exact .of_eq (h us hl)

/-- an exception of a callee reaches what this body wants of exceptions -/
def Passes (CX : CXT) (X : Cx) (E : XK) : Prop := ∀ (pins : List (Addr × Obj)) (σ : St) (H : Hp) (s : Shared) (e : Value) (s' : Shared), Inv X pins σ H s → CX X.stack H s E e s' → X.xe e s'

section
variable {X : Cx} {CX : CXT} {k : Nat} {f C : Addr} {fd : FuncData} {ps : List Str} {sp : Sp} {dvs : List V} {ds : List Value} {E : XK} {x m : Str} {p pos apos : Pos} {e o : Expr} {es : List Expr} {ta : TE} {t : TA}

/-- the callee runs -/
theorem run_fn {pins : List (Addr × Obj)} {σ : St} {H : Hp} {s : Shared} {Q : VK} {us : List Value} {vs : List V} (F : FnOk X.prog X.w X.K X.mg X.base CX k f fd ps sp) (hr : Room k X.A) (hb : Binds X.K fd ps ds) (hd : Vals dvs ds) (hx : Passes CX X E)
    (I : Inv X pins σ H s) (r : Vals vs us) (h : sp (vs ++ dvs) H Q E) : wpAny (model X.prog X.w) X.A (call (.ref f) us) (EP X pins σ Q) X.xe s := by
  have r2 : Vals (vs ++ dvs) (us ++ ds) := r.append hd
  have hl : (us ++ ds).length = ps.length := by rw [← r2.length]; exact F.len _ _ _ _ h
  refine wpAny_call (codeAny_mono (F.run X.A X.stack s H ⟨us, []⟩ (us ++ ds) (vs ++ dvs) Q E hr I.env0 (hb s us I.kIn hl) r2 h) fun r s' hq => ?_)
  cases r with
  | error e => exact hx pins σ H s e s' I hq
  | ok fl =>
    cases fl with
    | ret u => exact I.after hq
    | next => exact False.elim hq
    | brk => exact False.elim hq
    | cont => exact False.elim hq

theorem pe_call (F : FnOk X.prog X.w X.K X.mg X.base CX k f fd ps sp) (hr : Room k X.A) (hg : Gl X x) (hm : X.mg x = some (.ref f)) (hk : PySem.W.keepIn X.K (.ref f) = true) (hb : Binds X.K fd ps ds) (hd : Vals dvs ds) (hx : Passes CX X E)
    (ha : PA X (e :: es) t) (hdb : (x == ("__debug__" : Str)) = false := by decide) (he : starEach (e :: es) X.env = (false, eval e X.env) :: starEach es X.env := by rfl) (hpl : (backTo pos (starEach es X.env)).any (·.1) = false := by rfl) :
    PE X (.Call (.Name x p) (e :: es) [] pos) (tCall sp dvs E t) := by
  intro pins s σ H Q I h
  refine wpAny_Call_Name_kw (ld_glob I hg hm ?_ hdb)
  refine PySem.W.callWith_K (h₀ := X.base) I.ok.mod.kin hk (thn (ha pos pins s σ H _ I h) fun us s1 ⟨vs, H1, I1, r, q⟩ => ⟨I1.kIn, ?_⟩) he hpl
  exact run_fn F hr hb hd hx I1 r q
/-- what a class must have to be made -/
structure Mk (K : PySem.W.Frag) (C f : Addr) : Prop where
  makes : PySem.W.makesIn K C = true
  init : PySem.W.findIn K (.ref C) "__init__" = some (some (.ref f))
  fn : PySem.W.isFn K (.ref f) = true
  kp : PySem.W.keepIn K (.ref C) = true

end

/-! ### keywords -/
/-- the values of the keywords, from the left -/
def PK (X : Cx) (kws : List Keyword) (t : TA) : Prop :=
  ∀ (pos : Pos) (pins : List (Addr × Obj)) (s : Shared) (σ : St) (H : Hp) (Q : List V → Hp → Prop), Inv X pins σ H s → t σ H Q → wpAny (model X.prog X.w) X.A (evalAll ((backToKw pos (keywordEach kws X.env)).map (·.2))) (AP X pins σ Q) X.xe s
section
variable {X : Cx} {CX : CXT} {k : Nat} {f C : Addr} {fd : FuncData} {ps ks : List Str} {sp : Sp} {E : XK} {x m : Str} {p pos apos kpos : Pos} {e o : Expr} {es : List Expr} {kws : List Keyword} {te ta : TE} {t tk : TA} {nm : Option Str}
/-- how a call with keywords binds: g puts the positional values us and the keywords' values ws (names ks) in the parameters' order, defaults among them -/
structure KBinds (K : PySem.W.Frag) (fd : FuncData) (ps ks : List Str) (g : List Value → List Value → List Value) (gV : List V → List V → List V) : Prop where
  to : ∀ (s : Shared) (us ws : List Value), K.In s.heap → (g us ws).length = ps.length → BindsTo s fd ⟨us, ks.zip ws⟩ (ps.zip (g us ws))
  rel : ∀ {vs : List V} {us : List Value} {zs : List V} {ws : List Value}, Vals vs us → Vals zs ws → Vals (gV vs zs) (g us ws)
def tCallK (sp : Sp) (gV : List V → List V → List V) (E : XK) (t tk : TA) : TE := fun σ H Q => t σ H fun vs H1 => tk σ H1 fun zs H2 => sp (gV vs zs) H2 Q E
variable {g : List Value → List Value → List Value} {gV : List V → List V → List V}
end

/-! ### a def's body keeps its promise -/
/-- names: the parameters first -/
structure FnScope (N P : List Str) (sc : Scope) : Prop where
  kind : sc.kind = .function
  co : sc.isCoroutine = false
  gen : sc.isGenerator = false
  nd : N.Nodup
  pre : N.take P.length = P
  par : ∀ x ∈ P, sc.names.lookup x = some .local ∨ sc.names.lookup x = some .cell
  nofree : ∀ y ∈ sc.names, y.2 ≠ .free

theorem bindL_out {kindOf : Str → Option NameKind} {x : Str} : ∀ {binds : List (Str × Value)} {m : Str → Option Value}, (∀ v, (x, v) ∉ binds) → bindL kindOf binds m x = m x
  | [], _, _ => rfl
  | (n, v) :: r, m, h => by
    unfold bindL
    rw [bindL_out fun w hw => h w (List.mem_cons_of_mem _ hw)]
    split
    · have : x ≠ n := by rintro rfl; exact h v List.mem_cons_self
      simp [this]
    · rfl
theorem bindC_out {kindOf : Str → Option NameKind} {x : Str} : ∀ {binds : List (Str × Value)} {m : Str → Option Value}, (∀ v, (x, v) ∉ binds) → bindC kindOf binds m x = m x
  | [], _, _ => rfl
  | (n, v) :: r, m, h => by
    unfold bindC
    rw [bindC_out fun w hw => h w (List.mem_cons_of_mem _ hw)]
    split
    · rfl
    · have : x ≠ n := by rintro rfl; exact h v List.mem_cons_self
      simp [this]
theorem bindL_get {kindOf : Str → Option NameKind} {x : Str} {v : Value} : ∀ {P : List Str} {vs : List Value} {i : Nat} {m : Str → Option Value}, P.Nodup → P[i]? = some x → vs[i]? = some v → kindOf x = some .local →
    bindL kindOf (P.zip vs) m x = some v
  | [], _, _, _, _, h, _, _ => by simp at h
  | _ :: _, [], _, _, _, _, h, _ => by simp at h
  | p :: P, w :: vs, 0, m, nd, h1, h2, hk => by
    simp at h1 h2; subst h1; subst h2
    show bindL kindOf ((p, w) :: P.zip vs) m p = _
    unfold bindL
    rw [bindL_out fun v hv => (List.nodup_cons.mp nd).1 (List.of_mem_zip hv).1, if_pos hk]
    simp
  | p :: P, w :: vs, i + 1, m, nd, h1, h2, hk => by
    show bindL kindOf ((p, w) :: P.zip vs) m x = _
    unfold bindL
    exact bindL_get (i := i) (List.nodup_cons.mp nd).2 (by simpa using h1) (by simpa using h2) hk
theorem bindC_get {kindOf : Str → Option NameKind} {x : Str} {v : Value} : ∀ {P : List Str} {vs : List Value} {i : Nat} {m : Str → Option Value}, P.Nodup → P[i]? = some x → vs[i]? = some v → kindOf x ≠ some .local →
    bindC kindOf (P.zip vs) m x = some v
  | [], _, _, _, _, h, _, _ => by simp at h
  | _ :: _, [], _, _, _, _, h, _ => by simp at h
  | p :: P, w :: vs, 0, m, nd, h1, h2, hk => by
    simp at h1 h2; subst h1; subst h2
    show bindC kindOf ((p, w) :: P.zip vs) m p = _
    unfold bindC
    rw [bindC_out fun v hv => (List.nodup_cons.mp nd).1 (List.of_mem_zip hv).1, if_neg hk]
    simp
  | p :: P, w :: vs, i + 1, m, nd, h1, h2, hk => by
    show bindC kindOf ((p, w) :: P.zip vs) m x = _
    unfold bindC
    exact bindC_get (i := i) (List.nodup_cons.mp nd).2 (by simpa using h1) (by simpa using h2) hk

/-- the names' values at the entry -/
def start (N : List Str) (vs : List V) : St := vs.map some ++ List.replicate (N.length - vs.length) none

/-- the context of a def's body, at its entry; an exception leaves the frame, then lies as CX says -/
def cxOf (CX : CXT) (P : Program) (w : World) (K : PySem.W.Frag) (mg : Str → Option Value) (base : Heap) (N : List Str) (qual : Str) (scope : Scope) (f : Addr) (cd : Value) (A : Around) (outer : List Env) (s : Shared) (H : Hp) (E : XK) : Cx where
  prog := P
  w := w
  K := K
  mg := mg
  base := base
  A := A.deeper (envOfC qual scope s.heap.objs.size f cd)
  N := N
  s₀ := s
  H₀ := H
  env := envOfC qual scope s.heap.objs.size f cd
  outer := outer
  stack := envOfC qual scope s.heap.objs.size f cd :: outer
  ex := []
  calm := true
  fn := fun _ => true
  pn := []
  xe := fun e s' => wpAny (model P w) (A.deeper (envOfC qual scope s.heap.objs.size f cd)) (leaving (envOfC qual scope s.heap.objs.size f cd) e) (fun _ s'' => CX outer H s E e s'') (fun e' s'' => CX outer H s E e' s'') s'

theorem cell_has {sc : Scope} {n : Nat} {x : Str} (h : sc.names.lookup x = some .cell) : ∃ c, (cellsFrom n sc.names []).lookup x = some c := by
  have q := PySem.W.cellsFrom_some sc.names n [] (.inl h)
  exact Option.isSome_iff_exists.mp q

theorem inv_start {CX : CXT} {P : Program} {w : World} {K : PySem.W.Frag} {mg : Str → Option Value} {base : Heap} {N ps : List Str} {qual : Str} {scope : Scope} {f : Addr} {cd : Value} {A : Around} {outer : List Env} {s s1 : Shared} {H : Hp} {E : XK} {us : List Value} {vs : List V}
    (S : FnScope N ps scope) (hd : A.handled = none) (e0 : Env0 P w K mg base A outer s H) (hl : vs.length = ps.length) (r : Vals vs us)
    (x : InCallC s s.heap.objs.size (bindL (envOfC qual scope s.heap.objs.size f cd).kindOf (ps.zip us) fun _ => none) (cellsFrom (s.heap.objs.size + 1) scope.names []) (bindC (envOfC qual scope s.heap.objs.size f cd).kindOf (ps.zip us) fun _ => none) s1) :
    Inv (cxOf CX P w K mg base N qual scope f cd A outer s H E) [] (start N vs) H s1 := by
  have hpl : ps.length ≤ N.length := by have := congrArg List.length S.pre; rw [List.length_take] at this; omega
  obtain ⟨h1, tk, rfl, hk⟩ := x.done
  have noA : ∀ b : Addr, b ∉ (cxOf CX P w K mg base N qual scope f cd A outer s H E).ex := fun b z => absurd (show b ∈ ([] : List Addr) from z) (by simp)
  refine ⟨⟨e0.mod, S.kind, rfl, rfl, Nat.le_refl _, fun y z c h1 h2 => ?_, fun y hy => ?_, fun y c _ h => ?_, fun _ => hd, Around.frames_deeper e0.frames, .inr ⟨rfl, rfl⟩, fun b z => absurd z (noA b), e0.bs, e0.bsz, fun b _ _ => noA b, fun b z => absurd z (noA b), e0.funs, e0.frf⟩,
    rfl, e0.bare, Un.kept hk, ⟨_, x.toInCall.ns, fun i y v h1 h2 h3 => ?_⟩, fun y c h => ⟨_, x.cell y c h⟩, e0.hok.fresh (Nat.le_refl _), fun y c h => ?_, fun p hp => absurd (show p ∈ ([] : List (Addr × Obj)) from hp) (by simp), e0.hok.kept hk, ?_⟩
  · exact name_of_addr x.apart (PySem.mem_of_lookup h1) (PySem.mem_of_lookup h2)
  · have hy : scope.names.lookup y = some .cell ∨ scope.names.lookup y = some .free := hy
    rcases hy with hy | hy
    · exact cell_has hy
    · exact absurd rfl (S.nofree _ (PySem.mem_of_lookup hy))
  · exact Nat.le_of_lt (x.above y c (PySem.mem_of_lookup h))
  · have hi : i < vs.length := by
      unfold start at h2
      by_cases hi : i < vs.length
      · exact hi
      · rw [List.getElem?_append_right (by simpa using hi)] at h2
        rw [List.getElem?_replicate] at h2
        split at h2 <;> cases h2
    have ha : vs[i]? = some v := by
      unfold start at h2
      rw [List.getElem?_append_left (by simpa using hi), List.getElem?_map] at h2
      cases e : vs[i]? with
      | none => rw [e] at h2; cases h2
      | some a => rw [e] at h2; cases h2; rfl
    obtain ⟨u, hu, rv⟩ := r.get ha
    have hp : ps[i]? = some y := by
      rw [← S.pre, List.getElem?_take_of_lt (by omega)]; exact h1
    have ndP : ps.Nodup := by rw [← S.pre]; exact S.nd.sublist (List.take_sublist _ _)
    refine ⟨u, rv, ?_⟩
    rcases S.par y (List.mem_of_getElem? hp) with k | k
    · exact .inl ⟨k, bindL_get ndP hp hu k⟩
    · obtain ⟨c, e⟩ := cell_has (n := s.heap.objs.size + 1) k
      refine .inr ⟨.inl k, c, e, ?_⟩
      have q := x.cell y c e
      rw [bindC_get ndP hp hu (by show scope.names.lookup y ≠ _; rw [k]; decide)] at q
      exact q
  · exact e0.hok.fresh (Nat.le_of_lt (x.above y c (PySem.mem_of_lookup h)))
  · unfold start
    show _ = N.length
    rw [List.length_append, List.length_map, List.length_replicate]
    omega

/-- THE RULE: a def (or a method) of the text, by its body. The body's reading t is chosen for each entry; it is run at the parameters' values -/
theorem fn_of {CX : CXT} {P : Program} {w : World} {K : PySem.W.Frag} {mg : Str → Option Value} {base : Heap} {k : Nat} {f : Addr} {name qual : Str} {params : Arguments} {body : List Stmt} {scope : Scope} {dV kV doc pm cdv ct oc : Value} {an od : Option Addr}
    {osl : Array (Option Value)} {N ps : List Str} {sp : Sp} (lk : K.lookup f = some ⟨oc, od, .func (PySem.W.fnOf name qual params body scope dV kV doc pm an cdv ct), osl⟩) (hcd : PySem.W.codeIn K cdv qual = true) (S : FnScope N ps scope)
    (len : ∀ vs H Q E, sp vs H Q E → vs.length = ps.length)
    (hbody : ∀ (A : Around) (outer : List Env) (s : Shared) (H : Hp) (vs : List V) (Q : VK) (E : XK), Room k (A.deeper (envOfC qual scope s.heap.objs.size f cdv)) → sp vs H Q E →
      ∃ t, PSs (cxOf CX P w K mg base N qual scope f cdv A outer s H E) body t ∧ t { nx := fun _ H' => Q .non H', rt := Q } (start N vs) H) :
    FnOk P w K mg base CX (k + 1) f (PySem.W.fnOf name qual params body scope dV kV doc pm an cdv ct) ps sp := by
  refine ⟨len, fun A outer s H args us vs Q E hr e0 hb r hsp => ?_⟩
  have hl := len _ _ _ _ hsp
  have KX : K.In s.heap := e0.mod.kin.keeps fun b o e => (e0.bs b o e).1
  have lim : s.heap.NoLimit := e0.mod.nolimit.keeps fun b o e => (e0.bs b o e).1
  have hkind : ∀ y ∈ ps.zip us, scope.names.lookup y.1 = some .local ∨ (scope.names.lookup y.1 = some .cell ∧ ((cellsFrom (s.heap.objs.size + 1) scope.names []).lookup y.1).isSome = true) := fun ⟨n, v⟩ hy => by
    rcases S.par n (List.of_mem_zip hy).1 with q | q
    · exact .inl q
    · exact .inr ⟨q, PySem.W.cellsFrom_some _ _ _ (.inl q)⟩
  refine codeAny_call_function hr.depth (KX _ _ lk) rfl S.co S.gen rfl (PySem.W.codeRec_of KX hcd) (hb _ _ _ _ ?_)
  refine wpAny_newFunctionEnv_cells S.kind hkind fun env he s1 x => ?_
  subst he
  refine ⟨lim.keeps x.toInCall.keep, codeAny_func ?_⟩
  obtain ⟨t, ht, hq⟩ := hbody A outer s H vs Q E (hr.deeper _) hsp
  have I : Inv (cxOf CX P w K mg base N qual scope f cdv A outer s H E) [] (start N vs) H s1 := inv_start S hr.hd e0 hl r x
  refine wpAny_mono (ht [] s1 (start N vs) H _ I hq) (fun fl s' hs => ?_) fun e s' hs => hs
  have fin : ∀ {σ' : St} {H' : Hp} {v : V} {u : Value}, Inv (cxOf CX P w K mg base N qual scope f cdv A outer s H E) [] σ' H' s' → RelV v u → Q v H' → CE outer P w H s Q u s' :=
    fun {σ' H' v u} J rv q => ⟨v, H', J.os, J.bare, J.base, J.hok, rv, q⟩
  cases fl with
  | ret u =>
    obtain ⟨v, σ', H', J, rv, q⟩ := hs
    exact fin J rv q
  | next =>
    obtain ⟨σ', H', J, q⟩ := hs
    exact fin (v := V.non) (u := Value.none) J rfl q
  | brk =>
    obtain ⟨_, _, _, q⟩ := hs
    exact False.elim q
  | cont =>
    obtain ⟨_, _, _, q⟩ := hs
    exact False.elim q
end L2

namespace L2
open PySem PySem.Spec PyProof.Rows
section
variable {X : Cx} {x : Str} {p pos : Pos} {e : Expr} {es : List Expr} {t : TA} {id T : String} {r : List V → Hp → VK → Prop}

def tCB (r : List V → Hp → VK → Prop) (t : TA) : TE := fun σ H Q => t σ H fun vs H1 => r vs H1 Q
/-- f(e, ..), f a built-in function -/
theorem pe_callB (hc : CallR X (.builtin id) r) (hg : Gl X x) (hm : X.mg x = none) (hv : bootBuiltins x = some (.builtin id)) (ha : PA X (e :: es) t) (hn : x ≠ "__name__" := by decide) (hdb : (x == ("__debug__" : Str)) = false := by decide)
    (he : starEach (e :: es) X.env = (false, eval e X.env) :: starEach es X.env := by rfl) (hpl : (backTo pos (starEach es X.env)).any (·.1) = false := by rfl) : PE X (.Call (.Name x p) (e :: es) [] pos) (tCB r t) := by
  intro pins s σ H Q I h
  refine wpAny_Call_Name_kw (ld_blt I hg hm hv ?_ hn hdb)
  exact PyProof.Rows.callWith_builtin1 (thn (ha pos pins s σ H _ I h) fun us s1 ⟨vs, H1, I1, r1, q1⟩ => hc pins s1 σ H1 vs us Q I1 r1 q1) he hpl
/-- T(e, ..), T a built-in type -/
theorem pe_callTy (hc : CallR X (.type T) r) (hg : Gl X x) (hm : X.mg x = none) (hv : bootBuiltins x = some (.type T)) (ha : PA X (e :: es) t) (hn : x ≠ "__name__" := by decide) (hdb : (x == ("__debug__" : Str)) = false := by decide)
    (he : starEach (e :: es) X.env = (false, eval e X.env) :: starEach es X.env := by rfl) (hpl : (backTo pos (starEach es X.env)).any (·.1) = false := by rfl) : PE X (.Call (.Name x p) (e :: es) [] pos) (tCB r t) := by
  intro pins s σ H Q I h
  refine wpAny_Call_Name_kw (ld_blt I hg hm hv ?_ hn hdb)
  exact PyProof.Rows.callWith_type1 (thn (ha pos pins s σ H _ I h) fun us s1 ⟨vs, H1, I1, r1, q1⟩ => hc pins s1 σ H1 vs us Q I1 r1 q1) he hpl
end
end L2

namespace HT
open PySem PyProof.Rows

/-- t < u of tuples of ints -/
def lexLt : List Int → List Int → Bool
  | [], [] => false
  | [], _ :: _ => true
  | _ :: _, [] => false
  | x :: xs, y :: ys => if x = y then lexLt xs ys else decide (x < y)
section
open PySem.SeqAt
open PySem.AutoSeq1 (wpAny_loadPart')
open PySem.MeetsSeq PySem.MeetsSeq2 PySem.MeetsSeq3

end

section
variable {prog : Program} {w : World} {A : Around} {E : Value → Shared → Prop} {s : Shared}

/-! ### t[a:b], not the whole -/
/-- a slice's bound as a place among n (d where it is left out) -/
def sIx (n d : Nat) : Option Int → Nat
  | none => d
  | some v => if v < 0 then (v + (n : Int)).toNat else min v.toNat n
theorem sIx_none (n d : Nat) : sIx n d none = d := rfl
theorem sIx_nat (n d k : Nat) : sIx n d (some (k : Int)) = min k n := by
  show (if (k : Int) < 0 then ((k : Int) + (n : Int)).toNat else min (k : Int).toNat n) = min k n
  rw [if_neg (by omega), Int.toNat_natCast]
end
end HT

namespace L2
open PySem PySem.Spec PyProof.Rows

/-! ### the parts of a slice -/
abbrev TO := St → Hp → (Option Int → Hp → Prop) → Prop
/-- a slice's part (left out, or an int) -/
def PO (X : Cx) (e : Option Expr) (t : TO) : Prop :=
  ∀ (pins : List (Addr × Obj)) (s : Shared) (σ : St) (H : Hp) (Q : Option Int → Hp → Prop), Inv X pins σ H s → t σ H Q →
    wpAny (model X.prog X.w) X.A (evalPart e X.env) (fun u s' => ∃ o H', Inv X pins σ H' s' ∧ IsPart u o ∧ Q o H') X.xe s
def tNoPart : TO := fun _ H Q => Q none H
def tPart (t : TE) : TO := fun σ H Q => t σ H fun x H1 => ∃ i, x = .int i ∧ Q (some i) H1

theorem intsAre_of {ns : List Int} : ∀ {us : List Value}, Vals (ns.map V.int) us → IntsAre us ns := by
  induction ns with
  | nil => intro us r; rw [List.map_nil] at r; cases r; exact .nil
  | cons n ns ih =>
    intro us r
    rw [List.map_cons] at r
    cases r with
    | cons r1 r2 =>
      obtain ⟨t, e⟩ := r1
      subst e
      exact .cons n t (ih r2)

section
variable {X : Cx} {e : Expr} {te : TE} {lo hi : Option Expr} {tl th : TO} {pos p2 : Pos}

theorem po_none : PO X none tNoPart := by
  intro pins s σ H Q I h
  rw [evalPart_none]
  exact wpAny_pure ⟨none, H, I, .none, h⟩
theorem po_some (h : PE X e te) : PO X (some e) (tPart te) := by
  intro pins s σ H Q I hw
  rw [evalPart_some]
  refine thn (h pins s σ H _ I hw) fun u s1 ⟨x, H1, I1, r1, q1⟩ => ?_
  obtain ⟨i, rfl, q⟩ := q1
  obtain ⟨t, rfl⟩ := r1
  exact ⟨some i, H1, I1, .int i t, q⟩

/-- what a slice of a value is, by values: the slice object stands at sl -/
def SlR (X : Cx) (r : V → Option Int → Option Int → Hp → VK → Prop) : Prop :=
  ∀ (pins : List (Addr × Obj)) (s : Shared) (σ : St) (H : Hp) (x : V) (v vl vu : Value) (lo hi : Option Int) (sl : Addr) (Q : VK), Inv X pins σ H s → RelV x v → s.heap.IsSliceOf sl vl vu .none → IsPart vl lo → IsPart vu hi → r x lo hi H Q →
    ∃ T id, typeLookup (.type T) "__getitem__" = pure (some (.builtin id)) ∧ s.TypeIs v T ∧ wpAny (model X.prog X.w) X.A (getItem v (.ref sl)) (EP X pins σ Q) X.xe s
def tSl (r : V → Option Int → Option Int → Hp → VK → Prop) (te : TE) (tl th : TO) : TE := fun σ H Q => te σ H fun x H1 => tl σ H1 fun l H2 => th σ H2 fun u H3 => r x l u H3 Q
/-- a[lo:hi], any a -/
theorem pe_slice {r : V → Option Int → Option Int → Hp → VK → Prop} (hr : SlR X r) (he : PE X e te) (hl : PO X lo tl) (hu : PO X hi th) : PE X (.Subscript e (.Slice lo hi none p2) pos) (tSl r te tl th) := by
  intro pins s σ H Q I h
  refine Subscript_ (thn (he pins s σ H _ I h) fun v s1 ⟨x, H1, I1, r1, q1⟩ => ?_)
  refine wpAny_Slice (thn (hl pins s1 σ H1 _ I1 q1) fun vl s2 ⟨l, H2, I2, pl, q2⟩ => thn (hu pins s2 σ H2 _ I2 q2) fun vu s3 ⟨u, H3, I3, pu, q3⟩ => ?_)
  rw [evalPart_none]
  refine wpAny_pure ?_
  have I4 : Inv X pins σ H3 { s3 with heap := s3.heap.push { cls := .type "slice", data := .fields #[vl, vu, .none] } } := I3.kept (t' := s3.toks) fun b ob q => Heap.get?_push_of_some _ q
  obtain ⟨T, id, hT, ht, hg⟩ := hr pins { s3 with heap := s3.heap.push { cls := .type "slice", data := .fields #[vl, vu, .none] } } σ H3 x v vl vu l u s3.heap.objs.size Q I4 r1 (Heap.IsSliceOf.new ..) pl pu q3
  show wpAny (model X.prog X.w) X.A (subscriptTail e (.Slice lo hi none p2) v (.ref s3.heap.objs.size)) (EP X pins σ Q) X.xe { s3 with heap := s3.heap.push { cls := .type "slice", data := .fields #[vl, vu, .none] } }
  exact tail_any (ops := [.ref s3.heap.objs.size, v]) ht hT hg (by with_unfolding_all rfl)

/-- the items of xs[lo:hi] -/
def cutV (xs : List V) (lo hi : Option Int) : List V := (xs.drop (HT.sIx xs.length 0 lo)).take (HT.sIx xs.length xs.length hi - HT.sIx xs.length 0 lo)
theorem cutV_length (xs : List V) (lo hi : Option Int) : (cutV xs lo hi).length ≤ xs.length := by
  unfold cutV
  rw [List.length_take, List.length_drop]
  omega
/-- t[lo:hi], not the whole of it (the whole would be t itself) -/
def rSlT (K : PySem.W.Frag) : V → Option Int → Option Int → Hp → VK → Prop := fun x lo hi H Q => ∃ a xs, x = .ref a ∧ SqT K H a xs ∧
  ¬ (HT.sIx xs.length 0 lo = 0 ∧ HT.sIx xs.length xs.length hi = xs.length) ∧ ∀ p, H p = none → Q (.ref p) (upd H p (.tup (cutV xs lo hi)))
/-! ### t < u, t + u -/
def rLtT (K : PySem.W.Frag) : R2 := fun x y H Q => ∃ a b ns ms, x = .ref a ∧ y = .ref b ∧ SqT K H a (ns.map V.int) ∧ SqT K H b (ms.map V.int) ∧ Q (.bl (HT.lexLt ns ms)) H
/-- t + u, t not empty: u empty gives t itself -/
def rCatT (K : PySem.W.Frag) : R2 := fun x y H Q => ∃ a b xs ys, x = .ref a ∧ y = .ref b ∧ SqT K H a xs ∧ SqT K H b ys ∧ xs ≠ [] ∧ xs.length + ys.length ≤ sizeLine ∧
  (ys = [] → Q (.ref a) H) ∧ (ys ≠ [] → ∀ p, H p = none → Q (.ref p) (upd H p (.tup (xs ++ ys))))
end
end L2

namespace L2
open PySem PySem.Spec PyProof.Rows

/-! ### places -/
/-- the place that an index of any sign means -/
def ixN (n : Nat) (i : Int) : Option Nat := if 0 ≤ i then (if i < n then some i.toNat else none) else if -(n : Int) ≤ i then some (i + n).toNat else none
def atI {α : Type} (xs : List α) (i : Int) : Option α := (ixN xs.length i).bind fun j => xs[j]?
theorem ixN_seq {n : Nat} {i : Int} {j : Nat} (h : ixN n i = some j) : seqIndex? i n = some j ∧ j < n ∧ -(n : Int) ≤ i ∧ i < n := by
  unfold ixN at h
  by_cases h0 : 0 ≤ i
  · rw [if_pos h0] at h
    by_cases h1 : i < n
    · rw [if_pos h1] at h
      have e : i.toNat = j := Option.some.inj h
      exact ⟨by rw [seqIndex_of h0 h1, e], by omega, by omega, h1⟩
    · rw [if_neg h1] at h; cases h
  · rw [if_neg h0] at h
    by_cases h1 : -(n : Int) ≤ i
    · rw [if_pos h1] at h
      have e : (i + n).toNat = j := Option.some.inj h
      exact ⟨by rw [seqIndex_neg (by omega) h1, e], by omega, h1, by omega⟩
    · rw [if_neg h1] at h; cases h
theorem atI_get {α : Type} {xs : List α} {i : Int} {v : α} (h : atI xs i = some v) : ∃ j, seqIndex? i xs.length = some j ∧ xs[j]? = some v ∧ j < xs.length ∧ -(xs.length : Int) ≤ i ∧ i < xs.length := by
  unfold atI at h
  cases e : ixN xs.length i with
  | none => rw [e] at h; cases h
  | some j =>
    rw [e] at h
    obtain ⟨h1, h2, h3, h4⟩ := ixN_seq e
    exact ⟨j, h1, h, h2, h3, h4⟩
theorem atI_nat {α : Type} {xs : List α} {j : Nat} {v : α} (h : xs[j]? = some v) : atI xs (j : Int) = some v := by
  have hj : j < xs.length := (List.getElem?_eq_some_iff.mp h).1
  have e : ixN xs.length (j : Int) = some j := by
    unfold ixN
    rw [if_pos (by omega), if_pos (by omega)]; simp
  unfold atI; rw [e]; exact h
/-! ### what may be subscripted -/
/-- what stands as an index of a plain subscript -/
def PlainIx (b : Expr) : Prop := ∀ o i, subscripted b false o i = operate [o, i] (getItem o i)
/-- a subscript by values -/
def IxR (X : Cx) (r : R2) : Prop :=
  ∀ (value slice : Expr) (pins : List (Addr × Obj)) (s : Shared) (σ : St) (H : Hp) (x y : V) (v u : Value) (Q : VK), Inv X pins σ H s → RelV x v → RelV y u → r x y H Q →
    subscripted slice false v u = operate [v, u] (getItem v u) → wpAny (model X.prog X.w) X.A (subscriptTail value slice v u) (EP X pins σ Q) X.xe s
/-- a call of a builtin's method by values: the receiver, the arguments -/
def MtR (X : Cx) (id : String) (r : V → List V → Hp → VK → Prop) : Prop :=
  ∀ (pins : List (Addr × Obj)) (s : Shared) (σ : St) (H : Hp) (x : V) (xs : List V) (v : Value) (us : List Value) (Q : VK), Inv X pins σ H s → RelV x v → Vals xs us → r x xs H Q →
    wpAny (model X.prog X.w) X.A (call (.builtin id) (v :: us)) (EP X pins σ Q) X.xe s
section
variable {X : Cx} {a b : Expr} {ta tb : TE} {pos : Pos}
/-- a[b] -/
theorem pe_ix {r : R2} (hr : IxR X r) (ha : PE X a ta) (hb : PE X b tb) (hs : PlainIx b) : PE X (.Subscript a b pos) (tOp r ta tb) := by
  intro pins s σ H Q I h
  exact Subscript_ (binT ha hb I h fun v u s2 x y H2 I2 rx ry q => hr a b pins s2 σ H2 x y v u Q I2 rx ry q (hs _ _))

def rIxL (K : PySem.W.Frag) : R2 := fun x y H Q => ∃ p xs i v, x = .ref p ∧ y = .int i ∧ SqL K H p xs ∧ atI xs i = some v ∧ Q v H
def rIxT (K : PySem.W.Frag) : R2 := fun x y H Q => ∃ p xs i v, x = .ref p ∧ y = .int i ∧ SqT K H p xs ∧ atI xs i = some v ∧ Q v H
def rIxS : R2 := fun x y H Q => ∃ z i c, x = .str z ∧ y = .int i ∧ z.length ≤ sizeLine ∧ atI z.cps.toList i = some c ∧ Q (.str ⟨#[c]⟩) H
theorem ix_list : IxR X (rIxL X.K) := by
  intro value slice pins s σ H x y v u Q I rx ry h hs
  obtain ⟨p, xs, i, z, rfl, rfl, hq, he, q⟩ := h
  cases rx
  obtain ⟨t, rfl⟩ := ry
  obtain ⟨its, r, pl, hz⟩ := I.list hq
  obtain ⟨j, h1, h2, h3, h4, h5⟩ := atI_get he
  obtain ⟨w, ew, rw'⟩ := r.get h2
  have hl := r.length
  have hn := line63
  have fin : EP X pins σ Q w s := ⟨z, H, I, rw', q⟩
  by_cases h0 : 0 ≤ i
  · have hj : i.toNat = j := by
      rw [seqIndex_of h0 h5] at h1
      exact Option.some.inj h1
    exact item_listR pl.isList h0 (by omega) (by rw [hj]; simpa using ew) fin hs
  · have hj : (i + (its.toArray.size : Int)).toNat = j := by
      rw [seqIndex_neg (by omega) h4] at h1
      rw [List.size_toArray, ← hl]
      exact Option.some.inj h1
    exact subscriptTail_builtinR (x := w) pl.isList.typeIs slot_list_getitem.lookup
      (wpAny_getItem_list_neg (Q := fun r s' => r = w ∧ EP X pins σ Q r s') pl.isList (by omega) (by rw [List.size_toArray] <;> omega) (by omega) (by rw [hj]; simpa using ew) ⟨rfl, fin⟩) hs
theorem ix_tup : IxR X (rIxT X.K) := by
  intro value slice pins s σ H x y v u Q I rx ry h hs
  obtain ⟨p, xs, i, z, rfl, rfl, hq, he, q⟩ := h
  cases rx
  obtain ⟨t, rfl⟩ := ry
  obtain ⟨its, r, pl, hz⟩ := I.tuple hq
  obtain ⟨j, h1, h2, h3, h4, h5⟩ := atI_get he
  obtain ⟨w, ew, rw'⟩ := r.get h2
  have hl := r.length
  have hn := line63
  have fin : EP X pins σ Q w s := ⟨z, H, I, rw', q⟩
  exact subscriptTail_builtinR (x := w) pl.typeIs slot_tuple_getitem.lookup
    (getItem_tuple (j := j) (Q := fun r s' => r = w ∧ EP X pins σ Q r s') pl (by omega) (by omega) (by rw [List.size_toArray, ← hl]; exact h1) (by simpa using ew) ⟨rfl, fin⟩) hs
theorem ix_str : IxR X rIxS := by
  intro value slice pins s σ H x y v u Q I rx ry h hs
  obtain ⟨z, i, c, rfl, rfl, hz, he, q⟩ := h
  obtain ⟨t, rfl⟩ := rx
  obtain ⟨t', rfl⟩ := ry
  obtain ⟨j, h1, h2, h3, h4, h5⟩ := atI_get he
  have hl : z.cps.toList.length = z.length := by simp [Str.length]
  rw [hl] at h1 h4 h5
  have hn := line63
  exact tail_any (typeIs_str s z t) slot_str_getitem.lookup (getItem_str (c := c) (by
    have e1 : decide (i < -(2 ^ 63 : Int)) = false := decide_eq_false (by omega)
    have e2 : decide (i ≥ 2 ^ 63) = false := decide_eq_false (by omega)
    rw [e1, e2, Bool.or_false]) (by rw [h1]; simpa using h2) ⟨.str ⟨#[c]⟩, H, I.tok _, ⟨_, rfl⟩, q⟩) hs
/-- list, tuple or str -/
def rIx (K : PySem.W.Frag) : R2 := fun x y H Q => rIxL K x y H Q ∨ rIxT K x y H Q ∨ rIxS x y H Q
/-! ### xs[i] = v, any sign -/
/-- the list's object behind a store -/
theorem mapSeq_set (its : List Value) (n j : Nat) (u : Value) : Obj.mapSeq (·.setIfInBounds j u) { cls := .type "list", data := .seq its.toArray n } = { cls := .type "list", data := .seq (its.set j u).toArray n } := by
  simp [Obj.mapSeq]
theorem Inv.lst {pins : List (Addr × Obj)} {σ : St} {H : Hp} {s : Shared} {p : Addr} {xs : List V} (I : Inv X pins σ H s) (h : H p = some (.lst xs)) :
    ∃ (its : List Value) (n : Nat), Vals xs its ∧ s.heap.get? p = some { cls := .type "list", data := .seq its.toArray n } ∧ xs.length ≤ sizeLine := by
  obtain ⟨z, its, n, r, e⟩ := I.hok p _ h
  exact ⟨its, n, r, e, z⟩
/-- the list at p is written by an update of its object -/
theorem Inv.lstUpd {pins : List (Addr × Obj)} {σ : St} {H : Hp} {s : Shared} {p : Addr} {xs ys : List V} {its its' : List Value} {n n' : Nat} {f : Obj → Obj} (I : Inv X pins σ H s) (h : H p = some (.lst xs))
    (ho : s.heap.get? p = some { cls := .type "list", data := .seq its.toArray n }) (hf : f { cls := .type "list", data := .seq its.toArray n } = { cls := .type "list", data := .seq its'.toArray n' }) (r : Vals ys its') (hz : ys.length ≤ sizeLine) (t : Nat) :
    Inv X pins σ (upd H p (.lst ys)) { s with heap := s.heap.update p f, toks := t } := by
  have e : (s.heap.update p f).get? p = some { cls := .type "list", data := .seq its'.toArray n' } := by
    rw [Heap.get?_update_self f ho (by rw [hf] <;> rfl), hf]
  refine I.write (x := p) (e := p) (by rw [h]; trivial) (.inl rfl) (fun b u hb q => (Heap.get?_update_other _ _ (Ne.symm hb)).trans q) ⟨_, e⟩ ?_
  exact ⟨hz, its', n', r, e⟩
def rSetL : V → V → V → Hp → (Hp → Prop) → Prop := fun o i v H Q => ∃ p xs k j, o = .ref p ∧ i = .int k ∧ H p = some (.lst xs) ∧ ixN xs.length k = some j ∧ Q (upd H p (.lst (xs.set j v)))
theorem set_list : PSet X rSetL := by
  intro pins s σ H o i v ov iv u Q I ro ri rv h
  obtain ⟨p, xs, k, j, rfl, rfl, hp, hj, q⟩ := h
  cases ro
  obtain ⟨t, rfl⟩ := ri
  obtain ⟨its, n, r, ho, hz⟩ := I.lst hp
  obtain ⟨h1, h2, h3, h4⟩ := ixN_seq hj
  have hl := r.length
  have hn := line63
  have I' : Inv X pins σ (upd H p (.lst (xs.set j v))) { s with heap := s.heap.update p (Obj.mapSeq (·.setIfInBounds j u)) } :=
    I.lstUpd hp ho (mapSeq_set its n j u) (r.set rv j) (by rw [List.length_set]; exact hz) s.toks
  by_cases h0 : 0 ≤ k
  · have hk : k.toNat = j := by
      rw [seqIndex_of h0 h4] at h1
      exact Option.some.inj h1
    exact PySem.W.ki_setAt ho h0 (by omega) (by rw [List.size_toArray, ← hl]; exact h4) (by rw [hk]; exact ⟨_, I', q⟩)
  · have hk : (k + (its.toArray.size : Int)).toNat = j := by
      rw [seqIndex_neg (by omega) h3] at h1
      rw [List.size_toArray, ← hl]
      exact Option.some.inj h1
    exact PySem.W.ki_setBack ho (by omega) (by rw [List.size_toArray, ← hl]; exact h3) (by omega) (by rw [hk]; exact ⟨_, I', q⟩)

/-! ### slices -/
theorem slice_bounds (lo hi : Option Int) (n : Nat) : (sliceBounds lo hi none n).1 = ((HT.sIx n 0 lo : Nat) : Int) ∧ (sliceBounds lo hi none n).2.1 = ((HT.sIx n n hi : Nat) : Int) ∧ (sliceBounds lo hi none n).2.2 = 1 := by
  refine ⟨?_, ?_, rfl⟩
  · cases lo with
    | none => simp [sliceBounds, HT.sIx]
    | some i =>
      simp only [sliceBounds, HT.sIx, Option.getD_none, show (1 : Int) > 0 by decide, if_true]
      by_cases h : i < 0
      · simp only [h, if_true] <;> omega
      · simp only [h, if_false] <;> omega
  · cases hi with
    | none => simp [sliceBounds, HT.sIx]
    | some i =>
      simp only [sliceBounds, HT.sIx, Option.getD_none, show (1 : Int) > 0 by decide, if_true]
      by_cases h : i < 0
      · simp only [h, if_true] <;> omega
      · simp only [h, if_false] <;> omega
theorem slicePick_cut (its : List Value) (lo hi : Option Int) : slicePick its.toArray lo hi none = ((its.drop (HT.sIx its.length 0 lo)).take (HT.sIx its.length its.length hi - HT.sIx its.length 0 lo)).toArray := by
  obtain ⟨h1, h2, h3⟩ := slice_bounds lo hi its.toArray.size
  unfold slicePick
  rw [h1, h2, h3]
  simp only [sliceRange_one, pick_run, List.size_toArray] <;> rfl
/-- xs[lo:hi] of a list: a new list -/
def rSlL (K : PySem.W.Frag) : V → Option Int → Option Int → Hp → VK → Prop := fun x lo hi H Q => ∃ a xs, x = .ref a ∧ SqL K H a xs ∧ ∀ p, H p = none → Q (.ref p) (upd H p (.lst (cutV xs lo hi)))
theorem sl_list : SlR X (rSlL X.K) := by
  intro pins s σ H x v vl vu lo hi sl Q I rx hs pl pu h
  obtain ⟨a, xs, rfl, hx, q⟩ := h
  cases rx
  obtain ⟨its, r, ht, hz⟩ := I.list hx
  have hlen := r.length
  refine ⟨"list", _, slot_list_getitem.lookup, ht.isList.typeIs, ?_⟩
  refine wpAny_getItem_list_slice ht.isList hs pl pu .none (by simp) ?_ (by rw [List.size_toArray] <;> omega)
  rw [slicePick_cut, ← hlen]
  refine ⟨.ref s.heap.objs.size, _, I.laid (t' := s.toks) (o := .lst (cutV xs lo hi)) (fun b ob q => Heap.get?_push_of_some _ q) (Nat.le_refl _) ?_, rfl, q _ (I.hok.fresh (Nat.le_refl _))⟩
  exact ⟨Nat.le_trans (cutV_length xs lo hi) hz, _, 0, (r.drop (HT.sIx xs.length 0 lo)).take (HT.sIx xs.length xs.length hi - HT.sIx xs.length 0 lo), Heap.get?_push_size _ rfl⟩

/-! ### in, not in: flat items -/
def flatV : V → Bool
  | .non => true
  | .bl _ => true
  | .int _ => true
  | .str _ => true
  | _ => false
/-- == of flat values -/
def eqV : V → V → Bool
  | .non, .non => true
  | .bl a, .bl b => a == b
  | .bl a, .int b => (if a then 1 else 0) == b
  | .int a, .bl b => a == (if b then 1 else 0)
  | .int a, .int b => a == b
  | .str a, .str b => a == b
  | _, _ => false
theorem eqAt_V {A : Around} {s : Shared} {y x : V} {u v : Value} (ry : RelV y u) (rx : RelV x v) (fy : flatV y = true) (fx : flatV x = true) : SeqAt.EqAt A s u v (eqV y x) := by
  cases y with
  | non =>
    cases ry
    cases x with
    | non => cases rx; exact SeqAt.EqAt.same _
    | bl b => cases rx; exact SeqAt.EqAt.none_bool b
    | int b => obtain ⟨t, rfl⟩ := rx; exact SeqAt.EqAt.none_int b t
    | str b => obtain ⟨t, rfl⟩ := rx; exact SeqAt.EqAt.none_str b t
    | _ => exact absurd (show false = true from fx) Bool.false_ne_true
  | bl a =>
    cases ry
    cases x with
    | non => cases rx; exact SeqAt.EqAt.bool_none a
    | bl b => cases rx; exact SeqAt.EqAt.bool_bool a b
    | int b => obtain ⟨t, rfl⟩ := rx; exact SeqAt.EqAt.bool_int a b t
    | str b => obtain ⟨t, rfl⟩ := rx; exact SeqAt.EqAt.bool_str a b t
    | _ => exact absurd (show false = true from fx) Bool.false_ne_true
  | int a =>
    obtain ⟨t', rfl⟩ := ry
    cases x with
    | non => cases rx; exact SeqAt.EqAt.int_none a t'
    | bl b => cases rx; exact SeqAt.EqAt.int_bool a t' b
    | int b => obtain ⟨t, rfl⟩ := rx; exact SeqAt.EqAt.int_int a t' b t
    | str b => obtain ⟨t, rfl⟩ := rx; exact SeqAt.EqAt.int_str a t' b t
    | _ => exact absurd (show false = true from fx) Bool.false_ne_true
  | str a =>
    obtain ⟨t', rfl⟩ := ry
    cases x with
    | non => cases rx; exact SeqAt.EqAt.str_none a t'
    | bl b => cases rx; exact SeqAt.EqAt.str_bool a t' b
    | int b => obtain ⟨t, rfl⟩ := rx; exact SeqAt.EqAt.str_int a t' b t
    | str b => obtain ⟨t, rfl⟩ := rx; exact SeqAt.EqAt.str_str a t' b t
    | _ => exact absurd (show false = true from fx) Bool.false_ne_true
  | _ => exact absurd (show false = true from fy) Bool.false_ne_true
/-- the items' answers, read off the values (a value's own answer does not lean on its token) -/
def eqU (x : V) (u : Value) : Bool := match u with
  | .none => eqV .non x
  | .bool b => eqV (.bl b) x
  | .int i _ => eqV (.int i) x
  | .str z _ => eqV (.str z) x
  | _ => false
def inV (x : V) (xs : List V) : Bool := xs.any fun y => eqV y x
/-- x in a list or tuple of flat items -/
def rIn (K : PySem.W.Frag) (neg : Bool) : R2 := fun x y H Q => ∃ p xs, y = .ref p ∧ (SqL K H p xs ∨ SqT K H p xs) ∧ flatV x = true ∧ xs.all flatV = true ∧ Q (.bl (if neg then !inV x xs else inV x xs)) H
/-! ### len, list(x), tuple(x) of any list or tuple that is read -/
theorem call_len_seq : CallR X (.builtin "len") (fun xs H Q => ∃ p ys, xs = [.ref p] ∧ (SqL X.K H p ys ∨ SqT X.K H p ys) ∧ Q (.int ys.length) H) := by
  intro pins s σ H xs us Q I r h
  obtain ⟨p, ys, rfl, hq, q⟩ := h
  obtain ⟨u, rfl, rx⟩ := vals1 r
  cases rx
  have hn := line63
  rcases hq with hq | hq
  · obtain ⟨its, r', pl, hz⟩ := I.list hq
    have hlen := r'.length
    exact Calls.call_len_list pl.isList (by simp only [List.size_toArray] <;> omega) ⟨.int ys.length, H, I.tok _, ⟨s.toks + 1, by rw [List.size_toArray, hlen]⟩, q⟩
  · obtain ⟨its, r', pl, hz⟩ := I.tuple hq
    have hlen := r'.length
    exact len_tuple pl (by simp only [List.size_toArray] <;> omega) ⟨.int ys.length, H, I.tok _, ⟨s.toks + 1, by rw [List.size_toArray, hlen]⟩, q⟩
theorem call_len_str : CallR X (.builtin "len") (fun xs H Q => ∃ z, xs = [.str z] ∧ z.length ≤ sizeLine ∧ Q (.int z.length) H) := by
  intro pins s σ H xs us Q I r h
  obtain ⟨z, rfl, hz, q⟩ := h
  obtain ⟨u, rfl, t, rfl⟩ := vals1 r
  have hn := line63
  exact len_str (by omega) ⟨.int z.length, H, I.tok _, ⟨_, rfl⟩, q⟩
theorem call_list_of : CallR X (.type "list") (fun xs H Q => ∃ p ys, xs = [.ref p] ∧ (SqL X.K H p ys ∨ SqT X.K H p ys) ∧ ∀ l, H l = none → Q (.ref l) (upd H l (.lst ys))) := by
  intro pins s σ H xs us Q I r h
  obtain ⟨p, ys, rfl, hq, q⟩ := h
  obtain ⟨u, rfl, rx⟩ := vals1 r
  cases rx
  have fin : ∀ (its : List Value), Vals ys its → ys.length ≤ sizeLine → ∀ (h' : Heap) (c' : Nat), (∀ b o', s.heap.get? b = some o' → h'.get? b = some o') →
      h'.get? s.heap.objs.size = some { cls := .type "list", dict := none, data := .seq its.toArray c', slots := #[] } → EP X pins σ Q (.ref s.heap.objs.size) { s with heap := h' } := fun its r' hz h' c' kp e =>
    ⟨.ref s.heap.objs.size, _, I.laid (t' := s.toks) kp (Nat.le_refl _) (show ObjOk X.prog X.w _ h' _ (.lst ys) from ⟨hz, its, c', r', e⟩), rfl, q _ (I.hok.fresh (Nat.le_refl _))⟩
  rcases hq with hq | hq
  · obtain ⟨its, r', pl, hz⟩ := I.list hq
    have hlen := r'.length
    obtain ⟨o, ho, hc, n, hd⟩ := pl.isList
    exact call_list_seq p (.inl rfl) ho hc hd (fun h' c' kp e => fin its r' hz h' c' kp e) (by simp only [List.size_toArray] <;> omega)
  · obtain ⟨its, r', pl, hz⟩ := I.tuple hq
    have hlen := r'.length
    obtain ⟨o, ho, hc, n, hd⟩ := pl
    exact call_list_seq p (.inr rfl) ho hc hd (fun h' c' kp e => fin its r' hz h' c' kp e) (by simp only [List.size_toArray] <;> omega)
/-! ### the call of a builtin's method: o.m(..) -/
/-- the value is of that builtin type -/
def tyV (K : PySem.W.Frag) (T : String) (x : V) (H : Hp) : Prop := match x with
  | .str _ => T = "str"
  | .int _ => T = "int"
  | .ref p => (T = "list" ∧ ∃ xs, SqL K H p xs) ∨ (T = "tuple" ∧ ∃ o, K.lookup p = some o ∧ o.cls = .type "tuple" ∧ o.dict = none) ∨
      (T = "dict" ∧ ((∃ kvs, H p = some (.dK kvs)) ∨ ∃ kvs, H p = some (.dT kvs))) ∨ (T = "set" ∧ ∃ S n, H p = some (.set S n))
  | _ => False
theorem tyV_is {pins : List (Addr × Obj)} {σ : St} {H : Hp} {s : Shared} {T : String} {x : V} {v : Value} (I : Inv X pins σ H s) (r : RelV x v) (ty : tyV X.K T x H) :
    s.TypeIs v T ∧ ∀ a, v = .ref a → ∃ ob, s.heap.get? a = some ob ∧ ob.dict = none := by
  cases x with
  | str z =>
    obtain ⟨t, rfl⟩ := r
    cases (show T = "str" from ty)
    exact ⟨typeIs_str s z t, fun _ e => nomatch e⟩
  | int i =>
    obtain ⟨t, rfl⟩ := r
    cases (show T = "int" from ty)
    exact ⟨typeIs_int s i t, fun _ e => nomatch e⟩
  | ref p =>
    cases r
    rcases ty with ⟨rfl, xs, hq⟩ | ⟨rfl, o, hk, hc, hd⟩ | ⟨rfl, hk⟩ | ⟨rfl, S, n, hk⟩
    · obtain ⟨its, _, pl, _⟩ := I.list hq
      refine ⟨pl.isList.typeIs, fun a e => ?_⟩
      cases e
      obtain ⟨o, n, e, c, hd, _⟩ := pl
      exact ⟨o, e, hd⟩
    · refine ⟨⟨o, I.kIn p o hk, hc⟩, fun a e => ?_⟩
      cases e
      exact ⟨o, I.kIn _ o hk, hd⟩
    · have z : ∃ o, s.heap.get? p = some o ∧ o.ExactDict := by
        rcases hk with ⟨kvs, hk⟩ | ⟨kvs, hk⟩
        · obtain ⟨_, _, _, _, o, _, _, e, ex, _⟩ := I.hok p _ hk
          exact ⟨o, e, ex⟩
        · obtain ⟨_, _, _, _, o, _, _, e, ex, _⟩ := I.hok p _ hk
          exact ⟨o, e, ex⟩
      obtain ⟨o, e, ex⟩ := z
      refine ⟨⟨o, e, ex.1⟩, fun a e2 => ?_⟩
      cases e2
      exact ⟨o, e, ex.2.1⟩
    · obtain ⟨o, _, _, _, e, ex, _⟩ := I.hok p _ hk
      refine ⟨⟨o, e, ex.1⟩, fun a e2 => ?_⟩
      cases e2
      exact ⟨o, e, ex.2.1⟩
  | _ => exact False.elim ty
def tBM0 (K : PySem.W.Frag) (T : String) (r : V → List V → Hp → VK → Prop) (to : TE) : TE := fun σ H Q => to σ H fun x H1 => tyV K T x H1 ∧ r x [] H1 Q
def tBM (K : PySem.W.Frag) (T : String) (r : V → List V → Hp → VK → Prop) (to : TE) (t : TA) : TE := fun σ H Q => to σ H fun x H1 => tyV K T x H1 ∧ t σ H1 fun xs H2 => r x xs H2 Q
variable {o e : Expr} {es : List Expr} {to : TE} {t : TA} {name : Str} {apos cpos : Pos} {T id : String} {r : V → List V → Hp → VK → Prop}
theorem pe_bm (pa : PlainAttrs T) (slot : Slot T name id) (hty : typeOf (.builtin id) = pure (.type "method_descriptor")) (hm : MtR X id r) (ho : PE X o to) (ha : PA X (e :: es) t)
    (hbase : attributeBase o name X.env (eval o X.env) = eval o X.env := by rfl)
    (hfew : ((backTo cpos (starEach (e :: es) X.env)).all (fun x => !x.1) && (backToKw cpos (keywordEach [] X.env)).all (fun x => x.1.isSome)
      && decide ((e :: es).length + ([] : List Keyword).length + (if ([] : List Keyword).isEmpty then 0 else 1) < 30)) = true := by rfl)
    (hline : (apos.endLine == cpos.line) = true := by rfl) (hs : starEach (e :: es) X.env = (false, eval e X.env) :: starEach es X.env := by rfl) (hplain : (backTo cpos (starEach es X.env)).any (·.1) = false := by rfl) :
    PE X (.Call (.Attribute o name apos) (e :: es) [] cpos) (tBM X.K T r to t) := by
  intro pins s σ H Q I h
  refine wpAny_Call_method_late hbase hfew hline rfl (thn (ho pins s σ H _ I h) fun v s1 ⟨x, H1, I1, r1, ty, q1⟩ => ?_)
  obtain ⟨h1, h2⟩ := tyV_is I1 r1 ty
  refine ⟨T, id, pa, slot, hty, h1, h2, ?_⟩
  have hA := ha cpos pins s1 σ H1 _ I1 q1
  rw [hs] at hA ⊢
  refine Calls.callWith_builtin (by show (false || (backTo cpos (starEach es X.env)).any (·.1)) = false; rw [hplain] <;> rfl) (Calls.evalArgs_plain ?_)
  exact thn hA fun us s2 ⟨vs, H2, I2, r2, q2⟩ => hm pins s2 σ H2 x vs v us Q I2 r1 r2 q2
/- xs.append(e), list.index on a module's tuple .. are MtR facts of 06m -/
end
end L2

namespace L2
open PySem PySem.Spec PyProof.Rows

def MtM (X : Cx) (id : String) (r : V → List V → Hp → VK → Prop) : Prop :=
  ∀ (pins : List (Addr × Obj)) (s : Shared) (σ : St) (H : Hp) (x : V) (xs : List V) (v : Value) (us : List Value) (Q : VK), Inv X pins σ H s → RelV x v → Vals xs us → r x xs H Q →
    wpAny (model X.prog X.w) X.A (call (.builtin id) (v :: us)) (EP X pins σ Q) X.xe s

/-! ### lists of values -/
theorem Vals.one : ∀ {x : V} {us : List Value}, Vals [x] us → ∃ u, us = [u] ∧ RelV x u
  | _, _, .cons r .nil => ⟨_, rfl, r⟩
theorem Vals.two : ∀ {x y : V} {us : List Value}, Vals [x, y] us → ∃ u v, us = [u, v] ∧ RelV x u ∧ RelV y v
  | _, _, _, .cons r (.cons q .nil) => ⟨_, _, rfl, r, q⟩
theorem Vals.rep {xs : List V} {us : List Value} (h : Vals xs us) : ∀ k : Nat, Vals (List.replicate k xs).flatten (List.replicate k us).flatten
  | 0 => .nil
  | k + 1 => by
    rw [List.replicate_succ, List.replicate_succ, List.flatten_cons, List.flatten_cons]
    exact Vals.append h (Vals.rep h k)
theorem foldl_rep (its : List Value) : ∀ (k : Nat) (acc : List Value),
    List.foldl (fun x1 x2 => x1 ++ x2) acc.toArray (List.replicate k its.toArray) = (acc ++ (List.replicate k its).flatten).toArray
  | 0, acc => by simp
  | k + 1, acc => by
    have e : acc.toArray ++ its.toArray = (acc ++ its).toArray := by simp
    have e2 : (acc ++ its) ++ (List.replicate k its).flatten = acc ++ (List.replicate (k + 1) its).flatten := by
      rw [List.replicate_succ, List.flatten_cons, List.append_assoc]
    rw [← e2, ← foldl_rep its k (acc ++ its), ← e, List.replicate_succ, List.foldl_cons]

section
variable {X : Cx} {pins : List (Addr × Obj)} {σ : St} {H : Hp} {s : Shared} {l b : Addr} {xs ys zs : List V}

/-! ### the two steps: a tracked list is rewritten, a new list is laid -/
theorem Inv.lset {its its' : List Value} {n : Nat} {f : Array Value → Array Value} {t' : Nat} (I : Inv X pins σ H s) (hH : H l = some (.lst xs))
    (e : s.heap.get? l = some { cls := .type "list", data := .seq its.toArray n }) (hf : f its.toArray = its'.toArray) (hv : Vals ys its') (hz : ys.length ≤ sizeLine) :
    Inv X pins σ (upd H l (.lst ys)) { s with heap := s.heap.update l (Obj.mapSeq f), toks := t' } := by
  have q := PySem.IsL.update e f
  rw [hf] at q
  refine I.write (x := l) (e := l) (by rw [hH]; exact trivial) (.inl rfl) (fun b' u hb hu => (Heap.get?_update_other s.heap (Obj.mapSeq f) (Ne.symm hb)).trans hu) ⟨_, q⟩ ?_
  exact ⟨hz, its', _, hv, q⟩
theorem Inv.lnew {its : List Value} {t' : Nat} (I : Inv X pins σ H s) (hv : Vals ys its) (hz : ys.length ≤ sizeLine) :
    Inv X pins σ (upd H s.heap.objs.size (.lst ys)) { s with heap := s.heap.push { cls := .type "list", data := .seq its.toArray }, toks := t' } :=
  I.laid (fun _ _ q => Heap.get?_push_of_some _ q) (Nat.le_refl _) ⟨hz, its, 0, hv, Heap.get?_push_size _ rfl⟩
theorem Inv.fresh (I : Inv X pins σ H s) : H s.heap.objs.size = none := I.hok.fresh (Nat.le_refl _)
theorem Inv.lstM (I : Inv X pins σ H s) (hH : H l = some (.lst xs)) : xs.length ≤ sizeLine ∧ ∃ (its : List Value) (n : Nat), Vals xs its ∧ xs.length = its.length ∧ s.heap.get? l = some { cls := .type "list", data := .seq its.toArray n } := by
  obtain ⟨z, its, n, r, e⟩ := I.hok l _ hH
  exact ⟨z, its, n, r, r.length, e⟩

theorem notLongL {n : Nat} (h : n ≤ sizeLine) : Builtin.List.listTooLong n = false := by
  unfold Builtin.List.listTooLong
  exact decide_eq_false (by omega)
end

section
variable {X : Cx}

/-! ### methods -/
def rAppend : V → List V → Hp → VK → Prop := fun x vs H Q => ∃ l xs y, x = .ref l ∧ vs = [y] ∧ H l = some (.lst xs) ∧ xs.length < sizeLine ∧ Q .non (upd H l (.lst (xs ++ [y])))
theorem mt_append : MtM X "list.append" rAppend := by
  intro pins s σ H x vs v us Q I rx rv h
  obtain ⟨l, xs, y, rfl, rfl, hH, hz, q⟩ := h
  cases rx
  obtain ⟨u, rfl, ru⟩ := rv.one
  obtain ⟨z, its, n, r, hl, e⟩ := I.lstM hH
  refine call_meets F.slot_list_append ⟨_, e, rfl⟩ F.entry_list_append (F.args_list_append_2 _ _) (PySem.list_append l its.toArray n u (by rw [List.size_toArray]; omega)) ⟨e, ?_⟩
  refine ⟨.non, _, I.lset (its' := its ++ [u]) hH e (by simp) (r.append (.cons ru .nil)) ?_, rfl, q⟩
  rw [List.length_append, List.length_singleton]
  omega

def rExtend : V → List V → Hp → VK → Prop := fun x vs H Q => ∃ l b xs zs, x = .ref l ∧ vs = [.ref b] ∧ H l = some (.lst xs) ∧ H b = some (.lst zs) ∧ xs.length + zs.length ≤ sizeLine ∧ Q .non (upd H l (.lst (xs ++ zs)))
def rPop : V → List V → Hp → VK → Prop := fun x vs H Q => ∃ l xs y, x = .ref l ∧ vs = [] ∧ H l = some (.lst xs) ∧ xs[xs.length - 1]? = some y ∧ Q y (upd H l (.lst xs.dropLast))
def rPopAt : V → List V → Hp → VK → Prop := fun x vs H Q => ∃ l xs i k y, x = .ref l ∧ vs = [.int i] ∧ H l = some (.lst xs) ∧ -(2 ^ 63) ≤ i ∧ i < 2 ^ 63 ∧ seqIndex? i xs.length = some k ∧ xs[k]? = some y ∧ Q y (upd H l (.lst (xs.eraseIdx k)))
def rReverse : V → List V → Hp → VK → Prop := fun x vs H Q => ∃ l xs, x = .ref l ∧ vs = [] ∧ H l = some (.lst xs) ∧ Q .non (upd H l (.lst xs.reverse))
def rClear : V → List V → Hp → VK → Prop := fun x vs H Q => ∃ l xs, x = .ref l ∧ vs = [] ∧ H l = some (.lst xs) ∧ Q .non (upd H l (.lst []))
/-! ### list + list, list += list, list * int -/
def rCat : R2 := fun x y H Q => ∃ l b xs zs, x = .ref l ∧ y = .ref b ∧ H l = some (.lst xs) ∧ H b = some (.lst zs) ∧ xs.length + zs.length ≤ sizeLine ∧ ∀ p, H p = none → Q (.ref p) (upd H p (.lst (xs ++ zs)))
theorem op_cat : OpR X (binaryOp .Add) rCat := by
  intro pins s σ H x y v u Q I rx ry h
  obtain ⟨l, b, xs, zs, rfl, rfl, hH, hB, hz, q⟩ := h
  cases rx
  cases ry
  obtain ⟨z, its, n, r, hl, e⟩ := I.lstM hH
  obtain ⟨z2, its2, n2, r2, hl2, e2⟩ := I.lstM hB
  refine PySem.P.add_list e e2 ?_ (by rw [List.size_toArray, List.size_toArray]; omega)
  have ea : its.toArray ++ its2.toArray = (its ++ its2).toArray := by simp
  rw [ea]
  exact ⟨.ref _, _, I.lnew (t' := s.toks) (r.append r2) (by rw [List.length_append]; omega), rfl, q _ I.fresh⟩
/-- a list times an int (a negative one is nothing) -/
def rRep : R2 := fun x y H Q => ∃ l k xs, x = .ref l ∧ y = .int k ∧ H l = some (.lst xs) ∧ -(2 ^ 63) ≤ k ∧ k < 2 ^ 63 ∧ xs.length * k.toNat ≤ sizeLine ∧
  ∀ p, H p = none → Q (.ref p) (upd H p (.lst (List.replicate k.toNat xs).flatten))
theorem len_rep {α : Type} (xs : List α) (k : Nat) : (List.replicate k xs).flatten.length = k * xs.length := by
  induction k with
  | zero => simp
  | succ k ih => rw [List.replicate_succ, List.flatten_cons, List.length_append, ih, Nat.succ_mul, Nat.add_comm]
theorem op_rep : OpR X (binaryOp .Mult) rRep := by
  intro pins s σ H x y v u Q I rx ry h
  obtain ⟨l, k, xs, rfl, rfl, hH, h1, h2, hz, q⟩ := h
  cases rx
  obtain ⟨t, rfl⟩ := ry
  obtain ⟨z, its, n, r, hl, e⟩ := I.lstM hH
  have hlen : its.toArray.size * k.toNat ≤ sizeLine := by rw [List.size_toArray, ← hl]; exact hz
  have hcap : ¬ its.toArray.size * k.toNat > (2 ^ 63 - 1) / 8 := by
    have : (sizeLine : Nat) ≤ (2 ^ 63 - 1) / 8 := by decide
    omega
  have hfit : ¬ (!Builtin.List.listFitsIndex k) = true := by
    rw [fitsIndex_both h1 h2]
    exact Bool.false_ne_true
  have hlong : ¬ Builtin.List.listTooLong (its.toArray.size * k.toNat) = true := by
    rw [notLongL hlen]
    exact Bool.false_ne_true
  have hnew : List.foldl (fun x1 x2 => x1 ++ x2) #[] (List.replicate (if its.toArray.isEmpty = true then 0 else k.toNat) its.toArray) = (List.replicate k.toNat its).flatten.toArray := by
    have f0 : ∀ m : Nat, List.foldl (fun x1 x2 => x1 ++ x2) #[] (List.replicate m its.toArray) = (List.replicate m its).flatten.toArray := fun m => by
      have := foldl_rep its m []
      rw [List.nil_append] at this
      exact this
    rw [f0]
    cases its with
    | nil => simp
    | cons a r' => rw [if_neg (by simp)]
  refine wpAny_binaryOp_repeat_ref (T := "list") (U := "int") (by decide) ⟨_, e, rfl⟩ (fun s' => typeIs_int s' k t) noFill_list_mul F.fills_int_mul F.slot_int_rmul repeat_list F.slot_int_index.lookup
    (call_meets F.slot_int_rmul (typeIs_int s k t) F.entry_int_rmul (F.args_int_rmul_2 _ _) (int___rmul___int_list k t l its.toArray n)
      ⟨e, rfl, ⟨_, e, rfl⟩, call_meets F.slot_list_mul ⟨_, e, rfl⟩ F.entry_list_mul (F.args_list_mul_2 _ _) (AutoListH.list___mul___list_int_3 l its.toArray n k t hfit hcap hlong) ⟨e, ?_⟩⟩)
  rw [hnew]
  exact ⟨.ref _, _, I.lnew (t' := s.toks) (r.rep k.toNat) (by rw [len_rep, Nat.mul_comm]; exact hz), rfl, q _ I.fresh⟩

/-! ### del xs[i] -/
end

/-! ### xs[a:b] = ys -/
section
variable {prog : Program} {w : World} {A : Around} {E : Value → Shared → Prop} {s : Shared}
end

section
variable {X : Cx}
end
end L2

namespace Att
open PySem PySem.W PySem.Calls PyProof.Rows

/-! ### the script -/
theorem ints_of_wellAll {P : Params} {h : Heap} : ∀ (ns : List Int) (vs : List Value), WellAll P h vs (ns.map WData.int) → IntsAre vs ns := by
  intro ns
  induction ns with
  | nil =>
    intro vs w
    rw [List.map_nil] at w
    cases w
    exact .nil
  | cons n ns ih =>
    intro vs w
    rw [List.map_cons] at w
    cases w with
    | cons a b =>
      cases a
      exact .cons _ _ (ih _ b)

theorem script_of {l : OpenLaw} {n : Nat} (hn : l.most = some n) {P : Params} {h : Heap} {args : List WData} {vals : List Value}
    (hpre : l.row.toRowW.claim.pre args = true) (hwl : WellAll P h vals args) :
    ∃ a vs ns, vals = [Value.ref a] ∧ args = [WData.list (ns.map WData.int)] ∧ h.get? a = some { cls := .type "list", data := .seq vs.toArray } ∧ IntsAre vs ns ∧ ns.length ≤ n := by
  have hsh : WShape.hasAll [] args [.list .int] = true := (pre_splitW hpre).1
  have hc : l.pre.holds [] { args := args } = true := (pre_splitW hpre).2
  obtain ⟨d, r, rfl, h1, h2⟩ := hasAllW_cons hsh
  obtain rfl := hasAllW_nil h2
  obtain ⟨xs, rfl, h3⟩ := hasW_list h1
  obtain ⟨ns, rfl⟩ := items_int h3
  have hlen : ns.length ≤ n := by
    unfold OpenLaw.pre at hc
    have h4 : (WTm.not (.lt (.lit (.int (n : Int))) (.len (.arg 0)))).holds [] { args := [.list (ns.map .int)] } = true := by
      have h4 := (holds_andW hc).1
      rw [hn] at h4
      exact h4
    have h5 := condW_of h4 (w_not (w_lt w_lit (w_len_list (w_arg rfl))))
    rw [List.length_map] at h5
    refine Nat.le_of_not_lt fun q => ?_
    have q' : (n : Int) < ((ns.length : Nat) : Int) := by omega
    first
      | (rw [decide_eq_true q'] at h5; exact absurd h5 (by decide))
      | (simp at h5; omega)
  cases hwl with
  | cons w1 w2 =>
    cases w2
    cases w1 with
    | list ho hall => exact ⟨_, _, ns, rfl, rfl, ho, ints_of_wellAll ns _ hall, hlen⟩

theorem post_true (l : OpenLaw) (args : List WData) : l.row.toRowW.claim.post args (.bool true) args = true :=
  postW_of (r := l.row.toRowW) (X := (true == true))
    (show WShape.has [] (.bool true) .bool = true by first | rfl | decide | simp [WShape.has, WShape.arms, WShape.armsAll])
    (show (WTm.eq .res (.lit (.bool true))).value [] { args := args, res := some (.bool true), after := args } = some (.bool (true == true)) from w_eq_bool (w_res rfl) w_lit) rfl

/-! ### the attachment: holds_open's last premise (the goal 'hc' behind k_head) from a wpAny of the law's body -/
/-- the same from a codeAny of the CALL (for a layer whose function contracts speak of calls) -/
theorem attach_call {l : OpenLaw} {n : Nat} {q : Program} {loose : List Str} {XP : (Str → Option Value) → Heap → Prop} {YP : World → Heap → Prop} {d : DefRec}
    (hn : l.most = some n) (hdf : d.params.defaults = [])
    (call : ∀ (w : World) (s₀ s₁ : Shared) (mg mb : Str → Option Value) (fa : Addr) (o : Obj) (pm cd doc : Value) (a : Addr) (vs : List Value) (ns : List Int),
      Ground q loose [] XP w s₀ mg mb s₁.heap → YP w s₁.heap →
      s₁.heap.get? fa = some o → o.data = .func (docDef d.name d.params d.body d.scope pm cd doc) → s₁.heap.CodeRec cd d.name → mg d.name = some (.ref fa) →
      s₁.heap.get? a = some { cls := .type "list", data := .seq vs.toArray } → IntsAre vs ns → ns.length ≤ n → s₁.gens = #[] →
      codeAny (model l.prog w) callerA (.call (.ref fa) ⟨[.ref a], []⟩) (fun r s' => r = .ok (.ret (.bool true)) ∧ OldK s₁.heap s'.heap ∧ s'.os = s₁.os ∧ AllBare s'.gens) s₁) :
    WalkO q loose XP YP l.row.toRowW d [] (fun f vs => PySem.call f vs) := by
  intro w s₀ s₁ mg mb G Y fa o pm cd doc dV kV ho hd hcd hD hmg hg args vals as hpre hlay hrd hwl hlo
  obtain rfl : dV = .none := Dflts.none hD hdf
  obtain rfl : kV = .none := Dflts.noKw hD
  obtain ⟨a, vs, ns, rfl, rfl, hobj, hints, hlen⟩ := script_of hn hpre hwl
  refine enter_call (codeAny_mono (call w s₀ s₁ mg mb fa o pm cd doc a vs ns G Y ho (fd_plain hd) hcd hmg hobj hints hlen hg) fun r s' hq => ?_)
  obtain ⟨rfl, h2, h3, h4⟩ := hq
  exact ⟨.inl ⟨.bool true, .bool true, [], rfl, fun _ => rfl, .bool true, post_true l _, fun _ => ⟨List.Pairwise.nil, fun _ hm => (nomatch hm)⟩⟩, h2, h3, h4⟩

/-! ### rules over ANY heap (no ledger) from facts about the written part K: the library's own take a ledger (News) for what they write -/
section
variable {prog : Program} {w : World} {A : Around} {E : Value → Shared → Prop} {s : Shared} {K : Frag}

/-! the whole heap as the ledger: makes every rule that writes through a ledger a rule over any heap -/
def noObjs (h : Heap) : Heap := { h with objs := #[] }
def ledger (h : Heap) (L d : Addr) : List (Addr × Obj) := (List.range h.objs.size).filterMap fun a => if a = L ∨ a = d then none else (h.get? a).map fun o => (a, o)
end
end Att

namespace L2
open PySem PySem.Spec PyProof.Rows

theorem vals_ints : ∀ {vs : List Value} {ns : List Int}, IntsAre vs ns → Vals (ns.map V.int) vs
  | _, _, .nil => .nil
  | _, _, .cons n t h => .cons ⟨t, rfl⟩ (vals_ints h)

/-- nothing is tracked but the script, known to the object (or it is an object of the module) -/
def Only (H : Hp) : Prop := ∀ b, H b = none ∨ ∃ o xs, H b = some (.frz o (.lst xs))

/-- THE HEAD: the law's promise, at the heap behind the top. F, the promise of the law's def, may use that base is part of the heap (so K.In base, base.Ns mainGlobals mg stand in Mod) -/
theorem law_call {P : Program} {w : World} {K : PySem.W.Frag} {mg mb : Str → Option Value} {CX : CXT} {k : Nat} {fa a : Addr} {fd : FuncData} {x : Str} {sp : Sp} {s₁ : Shared} {vs : List Value} {ns : List Int}
    (KX : K.In s₁.heap) (hns : s₁.heap.Ns mainGlobals mg) (hb : s₁.heap.Ns builtinsNs mb) (hbb : ∀ x : Str, x ≠ "__name__" → mb x = bootBuiltins x) (hlim : s₁.heap.NoLimit) (hg : s₁.gens = #[])
    (ha : s₁.heap.get? a = some { cls := .type "list", data := .seq vs.toArray }) (hi : IntsAre vs ns) (hl : ns.length ≤ sizeLine) (hr : Room k callerA)
    (F : ∀ base : Heap, K.In base → base.Ns mainGlobals mg → FnOk P w K mg base CX k fa fd [x] sp) (hbind : ∀ (s : Shared) (u : Value), BindsTo s fd ⟨[u], []⟩ [(x, u)])
    (hsp : ∀ H : Hp, Only H → SqL K H a (ns.map V.int) → sp [.ref a] H (fun v _ => v = .bl true) fun _ _ _ => False)
    (hCX : ∀ H e s', CX [] H s₁ (fun _ _ _ => False) e s' → False) :
    codeAny (model P w) callerA (.call (.ref fa) ⟨[.ref a], []⟩) (fun r s' => r = .ok (.ret (.bool true)) ∧ OldK s₁.heap s'.heap ∧ s'.os = s₁.os ∧ AllBare s'.gens) s₁ := by
  have rv := vals_ints hi
  have lenV := hi.length
  -- from an abstract heap in which nothing but the script may be tracked
  have core : ∀ H : Hp, Only H → SqL K H a (ns.map V.int) → HOk P w H s₁.heap → (∀ b, H b ≠ none → b = a) → (H a ≠ none → K.lookup a = none) →
      codeAny (model P w) callerA (.call (.ref fa) ⟨[.ref a], []⟩) (fun r s' => r = .ok (.ret (.bool true)) ∧ OldK s₁.heap s'.heap ∧ s'.os = s₁.os ∧ AllBare s'.gens) s₁ := by
    intro H hO hS hok hA hK
    have base_of : ∀ {b : Addr} {o : Obj}, s₁.heap.get? b = some o → H b = none → (hidT s₁.heap H).get? b = some o := fun e n => hidT_get e n
    have noA : ∀ {b : Addr} {o : Obj} {es : Array DictEntry} {ep : Nat}, s₁.heap.get? b = some o → o.data = .dict es ep → H b = none := fun {b o es ep} e d => by
      cases q : H b with
      | none => rfl
      | some u =>
        have e' : b = a := hA b (by rw [q]; simp)
        subst e'
        rw [ha] at e; cases e
        have d' : Data.seq vs.toArray _ = Data.dict es ep := d
        cases d'
    have nsK : ∀ {b : Addr} {m : Str → Option Value}, s₁.heap.Ns b m → (hidT s₁.heap H).Ns b m := fun {b m} ⟨o, es, ep, e, d, r⟩ => ⟨o, es, ep, base_of e (noA e d), d, r⟩
    have hKb : K.In (hidT s₁.heap H) := fun b o e => base_of (KX b o e) (by
      cases q : H b with
      | none => rfl
      | some u =>
        have e' : b = a := hA b (by rw [q]; simp)
        subst e'
        rw [hK (by rw [q]; simp)] at e; cases e)
    have hM : Mod K mg (hidT s₁.heap H) := ⟨hKb, nsK hns, ⟨mb, nsK hb, hbb⟩, let ⟨mc, h1, h2⟩ := hlim; ⟨mc, nsK h1, h2⟩⟩
    have e0 : Env0 P w K mg (hidT s₁.heap H) callerA [] s₁ H := ⟨rfl, hM, fun b o e => of_hidT e, Nat.le_of_eq (hidT_size _ _), trivial, fun b hb => absurd (show b ∈ ([] : List Addr) from hb) (by simp), hok, .of_eq hg⟩
    refine codeAny_mono ((F _ hKb (nsK hns)).run callerA [] s₁ H ⟨[.ref a], []⟩ [.ref a] [.ref a] _ _ hr e0 (hbind s₁ (.ref a)) (.cons rfl .nil) (hsp H hO hS)) fun r s' h => ?_
    cases r with
    | error e => exact (hCX H e s' h).elim
    | ok fl =>
      cases fl with
      | next => exact False.elim h
      | brk => exact False.elim h
      | cont => exact False.elim h
      | ret u =>
        obtain ⟨v, H', os, bare, un, hok', r', q⟩ := h
        have q' : v = .bl true := q
        subst q'
        obtain rfl : u = Value.bool true := r'
        refine ⟨rfl, OldK.of_keep fun b o e => ?_, os, bare⟩
        cases q : H b with
        | none => exact un.keep b o e q (by intro z; exact absurd (show b ∈ ([] : List Addr) from z) (by simp)) (by simp)
        | some u =>
          rcases hO b with z | ⟨ob, xs, z⟩
          · rw [q] at z; cases z
          · have z2 := un.frzs b ob _ z
            obtain ⟨e1, _⟩ := hok b _ z
            obtain ⟨e2, _⟩ := hok' b _ z2
            rw [e] at e1; cases e1
            exact e2
  cases hk : K.lookup a with
  | some o =>
    -- the script is one of the module's own objects
    have e := KX a o hk
    rw [ha] at e
    cases e
    refine core (fun _ => none) (fun _ => .inl rfl) (.inr ⟨_, vs.toArray, _, hk, rfl, rfl, rfl, by rw [List.size_toArray, lenV]; exact hl, by simpa using rv⟩) (fun b u z => by have z' : (none : Option HO) = some u := z; cases z') (fun b z => absurd rfl z) fun z => absurd rfl z
  | none =>
    refine core (fun b => if b = a then some (.frz { cls := .type "list", data := .seq vs.toArray } (.lst (ns.map V.int))) else none) (fun b => ?_) (.inl (.inr ⟨{ cls := .type "list", data := .seq vs.toArray }, if_pos rfl⟩)) (fun b u z => ?_) (fun b z => ?_) fun _ => hk
    · by_cases hb : b = a
      · exact .inr ⟨_, _, if_pos hb⟩
      · exact .inl (if_neg hb)
    · by_cases hb : b = a
      · have z' := (if_pos hb).symm.trans z
        cases z'
        subst hb
        exact ⟨ha, by rw [List.length_map]; exact hl, vs, _, rv, ha⟩
      · have z' := (if_neg hb).symm.trans z
        cases z'
    · by_cases hb : b = a
      · exact hb
      · exact absurd (if_neg hb) z
end L2

namespace L2
open PySem PySem.Spec PyProof.Rows

abbrev KOf {K : PySem.W.Frag} {h : Heap} (_ : K.In h) : PySem.W.Frag := K

/-- the goal that k_head leaves (case hc), from the law's promise. F gives the function object fd (K's own) once, then the promise over every base -/
theorem walk_of {l : PySem.W.OpenLaw} {n k : Nat} {q : Program} {loose : List Str} {XP : (Str → Option Value) → Heap → Prop} {YP : World → Heap → Prop} {d : DefRec} {K : Params → PySem.W.Frag} {CX : World → CXT} {sp : World → Sp} {x : Str}
    (hn : l.most = some n) (hn2 : n ≤ sizeLine) (hdf : d.params.defaults = []) (hr : Room k callerA)
    (hY : ∀ (w : World) (h : Heap), YP w h → (K w.params).In h)
    (F : ∀ (w : World) (mg : Str → Option Value) (fa : Addr) (h : Heap), (K w.params).In h → h.Ns mainGlobals mg → mg d.name = some (.ref fa) →
      ∃ fd : FuncData, (∀ (s : Shared) (u : Value), BindsTo s fd ⟨[u], []⟩ [(x, u)]) ∧
        ∀ base : Heap, (K w.params).In base → base.Ns mainGlobals mg → FnOk l.prog w (K w.params) mg base (CX w) k fa fd [x] (sp w))
    (hsp : ∀ (w : World) (H : Hp) (a : Addr) (ns : List Int), ns.length ≤ n → Only H → SqL (K w.params) H a (ns.map V.int) → sp w [.ref a] H (fun v _ => v = .bl true) fun _ _ _ => False)
    (hCX : ∀ (w : World) (H : Hp) (s : Shared) (e : Value) (s' : Shared), CX w [] H s (fun _ _ _ => False) e s' → False) :
    PySem.W.WalkO q loose XP YP l.row.toRowW d [] (fun f vs => PySem.call f vs) := by
  refine Att.attach_call hn hdf fun w s₀ s₁ mg mb fa o pm cd doc a vs ns G Y ho hd hcd hmg hobj hints hlen hg => ?_
  have KX := hY w _ Y
  obtain ⟨fd, hb, hF⟩ := F w mg fa _ KX G.T.g hmg
  exact law_call KX G.T.g G.T.b G.T.builtins G.T.nolimit hg hobj hints (Nat.le_trans hlen hn2) hr hF hb (fun H hO hS => hsp w H a ns hlen hO hS) fun H e s' => hCX w H s₁ e s'
end L2

/- THE LAST THEOREM (shape; LID, My.* are yours):
   My.Adr: a structure of the addresses that your layer names (classes, functions); My.Txt K t: a structure (Prop) of the equations over K;
   My.txt_mk : {K} {implicit addresses ..} (e1 : nsIn K mainGlobals "law" = some (some (.ref f))) (e2 : K.lookup f = some ⟨oc, od, .func (fnOf "law" "law" params body scope dV kV doc pm an cdv ct), sl⟩) (e3 : codeIn K cdv "law" = true) .. : ∃ t, My.Txt K t

set_option maxRecDepth 100000 in
set_option maxHeartbeats 0 in
theorem PySem.Challenge.cw_LID_holds : PySem.Challenge.rw_LID.Holds := by
  w_on; o_law; k_head; (case hw => w_witness2)
  k_fill
  refine L2.walk_of (l := PySem.Challenge.rw_LID) (n := 63) (k := 40) (x := "script") (CX := fun w => ..) (sp := fun _ => My.sp_law) rfl (by decide) rfl ⟨rfl, by decide, by decide⟩ (fun w h Y => PySem.W.kIn_of Y) ?F ?S ?C
  case F =>
    intro w mg fa h KX G hmg
    have T : ∃ t, My.Txt (L2.KOf KX) t := by
      dsimp only [L2.KOf]                          -- K must stand as «<heap const> w.params» for k_is
      refine' My.txt_mk ?e1 ?e2 ?e3 ..
      (case e1 => PySem.W.k_is)                    -- in the order: a name -> its address -> its object -> its parts
      (case e2 => PySem.W.k_is)
      ..
    obtain ⟨t, T⟩ := T
    have e0 := hmg.symm.trans (PySem.W.mg_of KX G T.law)
    cases e0                                       -- fa is the law's own address
    exact ⟨_, fun s u => .of_eq rfl, fun base kb nb => My.law_fn T kb nb⟩     -- if «.of_eq rfl» comes too early: refine' ⟨_, ?b, fun base kb nb => My.law_fn T kb nb⟩; exact fun s u => .of_eq rfl
  case S => exact fun w H a ns hl hO hS => ..
  case C => exact ..
(the tactic k_is has no namespace: write k_is) -/

/-! SHORT WORDS over the layer: a def of the text, its body, what a loop and a test want. -/
namespace L2
open PySem PySem.Spec PyProof.Rows

/-! ### the text by places -/
/-- the j-th statement of a class's body -/
def inClass (s : Stmt) (j : Nat) : Stmt := match s with
  | .ClassDef _ _ _ body _ _ _ _ _ _ _ => body.getD j (.Pass ⟨0, 0, 0, 0⟩)
  | _ => .Pass ⟨0, 0, 0, 0⟩
def defArgs (s : Stmt) : Arguments := match s with
  | .FunctionDef _ a _ _ _ _ _ _ _ _ => a
  | _ => { posonlyargs := [], args := [], vararg := none, kwonlyargs := [], kw_defaults := [], kwarg := none, defaults := [] }
def defBody (s : Stmt) : List Stmt := match s with
  | .FunctionDef _ _ b _ _ _ _ _ _ _ => b
  | _ => []
def defScope (s : Stmt) : Scope := match s with
  | .FunctionDef _ _ _ _ _ _ sc _ _ _ => sc
  | _ => { kind := .function, names := [], isGenerator := false, isCoroutine := false }

/-! ### no exception leaves a def -/
abbrev CX0 : CXT := fun _ _ _ _ _ _ => False
abbrev E0 : XK := fun _ _ _ => False
theorem pass0 {X : Cx} : Passes CX0 X E0 := fun _ _ _ _ _ _ _ h => h.elim

/-! ### a def (or method) of the text as it stands behind the top -/
structure Fun (K : PySem.W.Frag) (x qual : Str) (st : Stmt) (f : Addr) (fd : FuncData) : Prop where
  ex : ∃ (oc : Value) (od : Option Addr) (kV doc pm : Value) (an : Option Addr) (cdv ct : Value) (osl : Array (Option Value)),
    fd = PySem.W.fnOf x qual (defArgs st) (defBody st) (defScope st) .none kV doc pm an cdv ct ∧ K.lookup f = some ⟨oc, od, .func fd, osl⟩ ∧ PySem.W.codeIn K cdv qual = true
  kp : PySem.W.keepIn K (.ref f) = true
section
variable {P : Program} {w : World} {K : PySem.W.Frag} {mg : Str → Option Value} {base : Heap}
/-- THE RULE for a def: its body as a term of rules, and the reading of that term -/
theorem Fun.ok {x qual : Str} {st : Stmt} {f : Addr} {fd : FuncData} {N ps : List Str} {k : Nat} {sp : Sp} (F : Fun K x qual st f fd) (S : FnScope N ps (defScope st)) (len : ∀ vs H Q E, sp vs H Q E → vs.length = ps.length)
    (hbody : ∀ (cdv : Value) (A : Around) (outer : List Env) (s : Shared) (H : Hp) (vs : List V) (Q : VK) (E : XK), Room k (A.deeper (envOfC qual (defScope st) s.heap.objs.size f cdv)) → sp vs H Q E →
      ∃ t, PSs (cxOf CX0 P w K mg base N qual (defScope st) f cdv A outer s H E).nox (defBody st) t ∧ t { nx := fun _ H' => Q .non H', rt := Q } (start N vs) H) : FnOk P w K mg base CX0 (k + 1) f fd ps sp := by
  obtain ⟨oc, od, kV, doc, pm, an, cdv, ct, osl, rfl, lk, hcd⟩ := F.ex
  refine fn_of lk hcd S len fun A outer s H vs Q E hr hsp => ?_
  obtain ⟨t, h, q⟩ := hbody cdv A outer s H vs Q E hr hsp
  exact ⟨t, h.nox, q⟩
/-- how its arguments bind (no defaults): h is «fun _ _ _ _ _ _ us hl => match us, hl with | [_, _], _ => rfl», one _ a parameter -/
theorem Fun.binds {x qual : Str} {st : Stmt} {f : Addr} {fd : FuncData} {ps : List Str} (F : Fun K x qual st f fd)
    (h : ∀ (kV doc pm : Value) (an : Option Addr) (cdv ct : Value) (us : List Value), us.length = ps.length → bindArgs (PySem.W.fnOf x qual (defArgs st) (defBody st) (defScope st) .none kV doc pm an cdv ct) ⟨us, []⟩ = pure (ps.zip us)) : Binds K fd ps [] := by
  obtain ⟨oc, od, kV, doc, pm, an, cdv, ct, osl, rfl, lk, hcd⟩ := F.ex
  exact .all (h kV doc pm an cdv ct)
theorem fun_mk {x qual : Str} {st : Stmt} {f : Addr} {oc : Value} {od an : Option Addr} {osl : Array (Option Value)} {kV doc pm cdv ct : Value} (l : K.lookup f = some ⟨oc, od, .func (PySem.W.fnOf x qual (defArgs st) (defBody st) (defScope st) .none kV doc pm an cdv ct), osl⟩)
    (c : PySem.W.codeIn K cdv qual = true) (k : PySem.W.keepIn K (.ref f) = true) : Fun K x qual st f (PySem.W.fnOf x qual (defArgs st) (defBody st) (defScope st) .none kV doc pm an cdv ct) := ⟨⟨oc, od, kV, doc, pm, an, cdv, ct, osl, rfl, l, c⟩, k⟩
end
/-! ### expressions in short: the name that stands in the i-th slot -/
section
variable {X : Cx}
theorem pv (i : Nat) {x : Str} {pos : Pos} (hN : X.N[i]? = some x := by rfl) (hv : Vis X.env.scope x := by first | exact Or.inl rfl | exact Or.inr (Or.inl rfl) | exact Or.inr (Or.inr rfl)) (hd : (x == ("__debug__" : Str)) = false := by decide)
    (hcd : (x == ("__classdict__" : Str)) = false := by decide) : PE X (.Name x pos) (tVar i) := pe_var hN hv hd hcd
end

/-! ### tests -/
theorem iteF {A B : Prop} (h : B) : if false = true then A else B := by
  rw [if_neg Bool.false_ne_true]
  exact h
theorem iteT {A B : Prop} (h : A) : if true = true then A else B := by
  rw [if_pos rfl]
  exact h
theorem iteNS {c A B : Prop} [Decidable c] (hc : c) (h : B) : if (!decide c) = true then A else B := by
  rw [decide_eq_true hc]
  exact iteF h

/-! ### heaps -/
/-- all that was tracked is as it was -/
def Same (H H' : Hp) : Prop := ∀ b o, H b = some o → H' b = some o
theorem Same.refl (H : Hp) : Same H H := fun _ _ h => h
theorem Same.trans {H H1 H2 : Hp} (a : Same H H1) (b : Same H1 H2) : Same H H2 := fun c o h => b c o (a c o h)
theorem Same.free {H H' : Hp} (e : Same H H') {l : Addr} (h : H' l = Option.none) : H l = Option.none := by
  cases q : H l with
  | none => rfl
  | some o =>
    rw [e l o q] at h
    cases h
theorem Same.seq {K : PySem.W.Frag} {H H' : Hp} {a : Addr} {xs : List V} (e : Same H H') (h : SqL K H a xs) : SqL K H' a xs := by
  rcases h with (h | ⟨o, h⟩) | h
  · exact .inl (.inl (e _ _ h))
  · exact .inl (.inr ⟨o, e _ _ h⟩)
  · exact .inr h

end L2

set_option Elab.async false
set_option linter.all false
set_option maxRecDepth 100000
namespace L2
open PySem PySem.Spec PyProof.Rows

/-! ### list comprehensions: one clause, a name as its target, at most one test; no exception leaves it -/
theorem closure_is {scope : Scope} {env : Env} (h : ∀ y ∈ scope.names, y.2 = .free → ∃ c, env.cells.lookup y.1 = some c) :
    ∃ cl, closureFor scope env = pure cl ∧ (∀ x c, cl.lookup x = some c → env.cells.lookup x = some c ∧ (x, NameKind.free) ∈ scope.names) ∧
      ∀ x, (x, NameKind.free) ∈ scope.names → cl.lookup x = env.cells.lookup x := by
  have key : ∀ (l : List (Str × NameKind)) (cs : List (Str × Addr)), (∀ y ∈ l, y.2 = .free → ∃ c, env.cells.lookup y.1 = some c) →
      ∃ cl, (forIn l cs (fun (x : Str × NameKind) (cs : List (Str × Addr)) => do
          if x.2 == .free then
            let c ← cellOf env x.1
            pure (ForInStep.yield ((x.1, c) :: cs))
          else pure (ForInStep.yield cs)) : Sem (List (Str × Addr))) = pure cl ∧
        (∀ x c, cl.lookup x = some c → (env.cells.lookup x = some c ∧ (x, NameKind.free) ∈ l) ∨ cs.lookup x = some c) ∧
        ∀ x, ((x, NameKind.free) ∈ l → cl.lookup x = env.cells.lookup x) ∧ ((cs.lookup x = env.cells.lookup x) → cl.lookup x = env.cells.lookup x) := by
    intro l
    induction l with
    | nil => intro cs _; exact ⟨cs, rfl, fun x c e => .inr e, fun x => ⟨fun z => absurd z (by simp), fun z => z⟩⟩
    | cons y r ih =>
      intro cs hl
      obtain ⟨n, k⟩ := y
      by_cases hk : k = .free
      · subst hk
        obtain ⟨c, hc⟩ := hl (n, .free) List.mem_cons_self rfl
        obtain ⟨cl, e1, e2, e3⟩ := ih ((n, c) :: cs) fun y hy => hl y (List.mem_cons_of_mem _ hy)
        refine ⟨cl, ?_, fun x d e => ?_, fun x => ⟨fun z => ?_, fun z => ?_⟩⟩
        · rw [List.forIn_cons]
          simp only [beq_self_eq_true, if_true, cellOf, hc]
          exact e1
        · rcases e2 x d e with ⟨z1, z2⟩ | z
          · exact .inl ⟨z1, List.mem_cons_of_mem _ z2⟩
          · rw [List.lookup_cons] at z
            by_cases hx : x == n
            · rw [hx] at z
              have hx' : x = n := by simpa using hx
              subst hx'
              refine .inl ⟨?_, List.mem_cons_self⟩
              rw [hc]; exact z
            · have hx' : (x == n) = false := by simpa using hx
              rw [hx'] at z
              exact .inr z
        · rcases List.mem_cons.mp z with z | z
          · injection z with z1 _
            subst z1
            refine (e3 x).2 ?_
            rw [List.lookup_cons, hc]
            simp
          · exact (e3 x).1 z
        · by_cases hx : x = n
          · subst hx
            refine (e3 x).2 ?_
            rw [List.lookup_cons, hc]
            simp
          · refine (e3 x).2 ?_
            rw [List.lookup_cons]
            have hx' : (x == n) = false := by simpa using hx
            rw [hx']
            exact z
      · obtain ⟨cl, e1, e2, e3⟩ := ih cs fun y hy => hl y (List.mem_cons_of_mem _ hy)
        have hb : (k == NameKind.free) = false := by simpa using hk
        refine ⟨cl, ?_, fun x d e => ?_, fun x => ⟨fun z => ?_, (e3 x).2⟩⟩
        · rw [List.forIn_cons]
          simp only [hb, Bool.false_eq_true, if_false]
          exact e1
        · rcases e2 x d e with ⟨z1, z2⟩ | z
          · exact .inl ⟨z1, List.mem_cons_of_mem _ z2⟩
          · exact .inr z
        · rcases List.mem_cons.mp z with z | z
          · injection z with _ z2
            exact absurd z2.symm hk
          · exact (e3 x).1 z
  obtain ⟨cl, e1, e2, e3⟩ := key scope.names [] h
  refine ⟨cl, ?_, fun x c e => ?_, fun x z => (e3 x).1 z⟩
  · unfold closureFor
    have := e1
    simpa using this
  · rcases e2 x c e with z | z
    · exact z
    · simp at z

theorem lookup_relabel {env : Env} (hk : env.scope.kind = .function) : ∀ {names : List (Str × NameKind)} {x : Str} {k : NameKind}, names.lookup x = some k → k ≠ .free →
    (names.map fun (n, k) => if (k == NameKind.free && env.scope.kind == .function && env.kindOf n == some .cell) then (n, NameKind.cell) else (n, k)).lookup x = some k
  | [], _, _, h, _ => by simp at h
  | (n, k') :: r, x, k, h, hf => by
    have ih := @lookup_relabel env hk r x k
    show List.lookup x ((if (k' == NameKind.free && env.scope.kind == .function && env.kindOf n == some .cell) = true then (n, NameKind.cell) else (n, k')) :: _) = _
    cases hx : x == n with
    | true =>
      simp only [List.lookup_cons, hx] at h
      cases h
      have : (k' == NameKind.free) = false := by simpa using hf
      simp [List.lookup_cons, hx, this]
    | false =>
      simp only [List.lookup_cons, hx] at h
      by_cases hc : (k' == NameKind.free && env.scope.kind == .function && env.kindOf n == some .cell) = true
      · rw [if_pos hc]; simp only [List.lookup_cons, hx]; exact ih h hf
      · rw [if_neg hc]; simp only [List.lookup_cons, hx]; exact ih h hf
theorem lookup_relabel_free {env : Env} (hk : env.scope.kind = .function) : ∀ {names : List (Str × NameKind)} {x : Str}, names.lookup x = some .free → env.kindOf x = some .cell →
    (names.map fun (n, k) => if (k == NameKind.free && env.scope.kind == .function && env.kindOf n == some .cell) then (n, NameKind.cell) else (n, k)).lookup x = some .cell
  | [], _, h, _ => by simp at h
  | (n, k') :: r, x, h, hc => by
    have ih := @lookup_relabel_free env hk r x
    show List.lookup x ((if (k' == NameKind.free && env.scope.kind == .function && env.kindOf n == some .cell) = true then (n, NameKind.cell) else (n, k')) :: _) = _
    cases hx : x == n with
    | true =>
      simp only [List.lookup_cons, hx] at h
      cases h
      have hxn : x = n := by simpa using hx
      subst hxn
      simp [List.lookup_cons, hk, hc]
    | false =>
      simp only [List.lookup_cons, hx] at h
      by_cases hd : (k' == NameKind.free && env.scope.kind == .function && env.kindOf n == some .cell) = true
      · rw [if_pos hd]; simp only [List.lookup_cons, hx]; exact ih h hc
      · rw [if_neg hd]; simp only [List.lookup_cons, hx]; exact ih h hc

/-- the context of a comprehension's block; Nc: its own name, then the names it takes from around it -/
def cxComp (X : Cx) (Nc : List Str) (scope : Scope) (cl : List (Str × Addr)) (C : Addr) (fp : List Addr) (s : Shared) (H : Hp) : Cx where
  prog := X.prog
  w := X.w
  K := X.K
  mg := X.mg
  base := X.base
  A := X.A
  N := Nc
  s₀ := s
  H₀ := H
  env := compEnvC scope cl C X.env
  outer := X.stack
  stack := X.stack
  ex := fp
  fn := fun _ => false
  calm := X.calm
  pn := []
  xe := fun _ _ => False

/-- the slots of the names that are taken from around: their values -/
def capV (σ : St) (caps : List Nat) : St := caps.map fun j => (σ[j]?).join

structure CompOk (X : Cx) (x : Str) (Nc : List Str) (caps : List Nat) (scope : Scope) : Prop where
  kind : scope.kind = .function
  cell : ∀ y ∈ scope.names, y.2 ≠ .cell
  names : ∀ y ∈ scope.names, y.2 = .local → scope.names.lookup y.1 = some .local
  fr : ∀ y ∈ scope.names, y.2 = .free → X.env.scope.names.lookup y.1 = some .cell ∧ scope.names.lookup y.1 = some .free
  loc : scope.names.lookup x = some .local
  len : Nc.length = caps.length + 1
  hd : Nc[0]? = some x
  nd : Nc.Nodup
  cap : ∀ k j, caps[k]? = some j → ∃ y, Nc[k + 1]? = some y ∧ X.N[j]? = some y ∧ scope.names.lookup y = some .free

theorem compLoop_any {prog : Program} {w : World} {A : Around} {R : Result → Shared → Prop} {s : Shared} {elt target iter : Expr} {ifs : List Expr} {scope : Scope} {pos : Pos} {it acc : Value} {env : Env} (I : Nat → Shared → Prop)
    (turn : ∀ n s, I n s → wpAny (model prog w) A (pyNext it) (fun r s₁ => match r with
      | none => R (.ok .next) s₁
      | some v => wpAny (model prog w) A (letOwnedTupleGo target it v) (fun _ s1' => wpAny (model prog w) A (assign target env v) (fun _ s₂ =>
          wpAny (model prog w) A (forIn ifs true fun c r => if r = true then do let ok ← isTrue c env (eval c env); pure (ForInStep.yield ok) else pure (ForInStep.yield r)) (fun ok s₃ =>
            if ok = true then wpAny (model prog w) A (eval elt env) (fun x s₄ =>
              wpAny (model prog w) A (call (.builtin "list.append") [acc, x]) (fun _ s₅ => ∃ m, m < n ∧ I m s₅) (notedBy (model prog w) A env fun e s' => R (.error e) s') s₄) (notedBy (model prog w) A env fun e s' => R (.error e) s') s₃
            else ∃ m, m < n ∧ I m s₃) (notedBy (model prog w) A env fun e s' => R (.error e) s') s₂) (notedBy (model prog w) A env fun e s' => R (.error e) s') s1') (notedBy (model prog w) A env fun e s' => R (.error e) s') s₁) (notedBy (model prog w) A env fun e s' => R (.error e) s') s)
    (n : Nat) (h : I n s) :
    codeAny (model prog w) A (.compLoop (.ListComp elt [⟨target, iter, ifs, 0⟩] scope pos) 0 it acc env) R s := by
  refine codeAny_loop rfl I (fun n s hI => ?_) n h
  show wpAny _ A ((compTurn (.ListComp elt [⟨target, iter, ifs, 0⟩] scope pos) 0 it acc env).onRaise (fun x => do noteFrame x env; theTreesLotGoes x)) _ _ s
  refine wpAny_noted ?_
  rw [compTurn_list]
  refine wpAny_bind (wpAny_standAt (wpAny_bind (wpAny_mono (turn n s hI) (fun r s₁ h₁ => ?_) fun _ _ h' => h')))
  cases r with
  | none => exact wpAny_pure h₁
  | some v =>
    refine wpAny_bind (wpAny_mono h₁ (fun _ s1' h₁ => ?_) fun _ _ h' => h')
    refine wpAny_bind (wpAny_mono h₁ (fun _ s₂ h₂ => wpAny_bind (wpAny_mono h₂ (fun ok s₃ h₃ => ?_) fun _ _ h' => h')) fun _ _ h' => h')
    cases ok with
    | false => exact wpAny_pure ⟨rfl, h₃⟩
    | true =>
      exact wpAny_bind (wpAny_bind (wpAny_mono h₃ (fun x s₄ h₄ => wpAny_bind (wpAny_mono h₄ (fun _ s₅ h₅ => wpAny_pure (wpAny_pure ⟨rfl, h₅⟩)) fun _ _ h' => h')) fun _ _ h' => h'))

/-- the test, where there is one -/
def tNoTest : TT := fun _ H Q => Q true H
inductive PIf (X : Cx) : List Expr → TT → Prop where
  | nil : PIf X [] tNoTest
  | one {c : Expr} {t : TT} (h : PT X c t) : PIf X [c] t
theorem PIf.run {X : Cx} {ifs : List Expr} {t : TT} (h : PIf X ifs t) {pins : List (Addr × Obj)} {s : Shared} {σ : St} {H : Hp} {Q : Bool → Hp → Prop} (I : Inv X pins σ H s) (ht : t σ H Q) :
    wpAny (model X.prog X.w) X.A (forIn ifs true fun c r => if r = true then do let ok ← isTrue c X.env (eval c X.env); pure (ForInStep.yield ok) else pure (ForInStep.yield r)) (TP X pins σ Q) X.xe s := by
  cases h with
  | nil => exact wpAny_tests_nil ⟨H, I, ht⟩
  | one h => exact wpAny_tests_one (h pins s σ H Q I ht)

/-- the reading: W by the turn, a measure, what is made so far -/
def tCompW (caps : List Nat) (tc : TT) (te : TE) (J : It) (σ : St) (H : Hp) (Q : VK) : Prop :=
  ∃ W : Nat → Nat → List V → Hp → Prop, (∃ m, W 0 m [] H) ∧ ∀ i m ys H, W i m ys H →
    (J.stop i H ∧ ys.length ≤ sizeLine ∧ ∀ p, H p = none → Q (.ref p) (upd H p (.lst ys))) ∨
    (J.go i H ∧ ys.length < sizeLine ∧ ∀ x H', J.yld i H x H' → tc (some x :: capV σ caps) H' fun b H2 =>
      if b = true then te (some x :: capV σ caps) H2 fun y H3 => ∃ m', m' < m ∧ W (i + 1) m' (ys ++ [y]) H3 else ∃ m', m' < m ∧ W (i + 1) m' ys H2)
def tComp (wi : TI) (caps : List Nat) (tc : TT) (te : TE) : TE := fun σ H Q => wi σ H fun J H1 => tCompW caps tc te J σ H1 Q

section
variable {X : Cx} {pins : List (Addr × Obj)} {σ : St} {H : Hp} {s : Shared}

theorem Un.track {fs ex : List Addr} {H H' : Hp} {h h' : Heap} {a : Addr} {o : HO} (u : Un fs ex H H' h h') (ha : h.objs.size ≤ a) (hn : H' a = none) : Un fs ex H (upd H' a o) h h' where
  keep := u.keep
  slot := u.slot
  free := fun b ob q n hx => by rw [upd_ne (Nat.ne_of_lt (Nat.lt_of_lt_of_le (Heap.lt_size q) ha))]; exact u.free b ob q n hx
  there := u.there
  tups := fun b xs q => by rw [upd_ne (ne_of_none (u.tups b xs q) hn)]; exact u.tups b xs q
  frzs := fun b ob xs q => by rw [upd_ne (ne_of_none (u.frzs b ob xs q) hn)]; exact u.frzs b ob xs q
  tbls := fun b ps q => by
    obtain ⟨m, e⟩ := u.tbls b ps q
    exact ⟨m, by rw [upd_ne (ne_of_none e hn)]; exact e⟩
theorem HOk.track {P : Program} {w : World} {H : Hp} {h : Heap} {a : Addr} {o : HO} (x : HOk P w H h) (hn : H a = none) (new : ObjOk P w (upd H a o) h a o) : HOk P w (upd H a o) h := fun b u e => by
  by_cases hb : b = a
  · subst hb; rw [upd_same] at e; cases e; exact new
  · rw [upd_ne hb] at e
    exact (x b u e).stay (fun c v _ q => q) (fun c q => by rw [upd_ne (ne_of_none q hn)]; exact q) fun c xs q => by rw [upd_ne (ne_of_none q hn)]; exact q

/-- the block's context is good -/
theorem comp_ok {x : Str} {Nc : List Str} {caps : List Nat} {scope : Scope} {cl : List (Str × Addr)} {C : Addr} {fp : List Addr} (I : Inv X pins σ H s) (O : CompOk X x Nc caps scope)
    (hcl : ∀ x c, cl.lookup x = some c → X.env.cells.lookup x = some c ∧ (x, NameKind.free) ∈ scope.names) (hcl2 : ∀ x, (x, NameKind.free) ∈ scope.names → cl.lookup x = X.env.cells.lookup x)
    (hC : s.heap.objs.size ≤ C) (hfp : ∀ b ∈ fp, FpOk X pins H b) (hfo : ∀ b ∈ fp, b < s.heap.objs.size) : (cxComp X Nc scope cl C fp s H).Ok where
  mod := I.ok.mod
  kind := O.kind
  glob := I.ok.glob
  blt := I.ok.blt
  above := hC
  inj := fun a b c e1 e2 => I.ok.inj a b c (hcl a c e1).1 (hcl b c e2).1
  has := fun y hy => by
    have mem : (y, NameKind.free) ∈ scope.names := by
      have hy' : ((relabel scope X.env).names.lookup y = some .cell) ∨ ((relabel scope X.env).names.lookup y = some .free) := hy
      have hm : ∃ k, (y, k) ∈ (relabel scope X.env).names ∧ (k = .cell ∨ k = .free) := by
        rcases hy' with h | h
        · exact ⟨_, PySem.mem_of_lookup h, .inl rfl⟩
        · exact ⟨_, PySem.mem_of_lookup h, .inr rfl⟩
      obtain ⟨k, hm, hk⟩ := hm
      obtain ⟨⟨n, k'⟩, hm', e⟩ := List.mem_map.mp hm
      dsimp only at e
      by_cases hc : (k' == NameKind.free && X.env.scope.kind == .function && X.env.kindOf n == some .cell) = true
      · rw [if_pos hc] at e
        injection e with e1 _
        subst e1
        have : k' = .free := by
          have := (Bool.and_eq_true _ _ ▸ (Bool.and_eq_true _ _ ▸ hc).1).1
          simpa using this
        subst this
        exact hm'
      · rw [if_neg hc] at e
        injection e with e1 e2
        subst e1 e2
        rcases hk with hk | hk
        · subst hk; exact absurd rfl (O.cell _ hm')
        · subst hk; exact hm'
    obtain ⟨c, e⟩ := I.ok.has y (.inl (O.fr _ mem rfl).1)
    exact ⟨c, (hcl2 y mem).trans e⟩
  cab := fun _ _ z => nomatch z
  hd := I.ok.hd
  frames := I.ok.frames
  stk := .inl rfl
  exf := fun b hb => ⟨Nat.ne_of_lt (Nat.lt_of_lt_of_le (hfo b hb) hC), fun y c e => (hfp b hb).2.2.2.2.1 y c (hcl y c e).1⟩
  bs := I.bs
  bsz := Nat.le_trans I.ok.bsz I.sz
  noex := fun b o e hb => by
    rcases (hfp b hb).2.2.2.1 with z | z
    · exact I.ok.noex b o e z
    · exact absurd (Nat.lt_of_lt_of_le (Heap.lt_size e) (Nat.le_trans I.ok.bsz z)) (Nat.lt_irrefl _)
  exfs := fun b hb z => by
    rcases List.mem_cons.mp (I.stkSub b z) with e | e
    · exact (hfp b hb).2.1 e
    · exact (hfp b hb).2.2.1 e
  funs := I.stack
  frf := I.stkFree
end
end L2

set_option Elab.async false
set_option linter.all false
set_option maxRecDepth 100000
namespace L2
open PySem PySem.Spec PyProof.Rows
section
variable {X : Cx} {pins : List (Addr × Obj)} {σ : St} {H : Hp} {s : Shared}

theorem capV_len (σ : St) (caps : List Nat) : (capV σ caps).length = caps.length := by unfold capV; rw [List.length_map]
theorem capV_get {σ : St} {caps : List Nat} {k : Nat} {v : V} (e : (capV σ caps)[k]? = some (some v)) : ∃ j, caps[k]? = some j ∧ σ[j]? = some (some v) := by
  unfold capV at e
  rw [List.getElem?_map] at e
  cases hk : caps[k]? with
  | none => rw [hk] at e; cases e
  | some j =>
    rw [hk] at e
    have e' : (σ[j]?).join = some v := Option.some.inj e
    refine ⟨j, rfl, ?_⟩
    cases hj : σ[j]? with
    | none => rw [hj] at e'; cases e'
    | some o => rw [hj] at e'; rw [show o = some v from e']

theorem Un.but {fs ex : List Addr} {H H' : Hp} {h h1 h2 : Heap} {C : Addr} (u : Un fs ex H H' h h1) (hs : Heap.SameBut C h1 h2) (hC : h.objs.size ≤ C) : Un fs ex H H' h h2 where
  keep := fun b o q n hb hx => (hs.2 b (Nat.ne_of_lt (Nat.lt_of_lt_of_le (Heap.lt_size q) hC))).trans (u.keep b o q n hb hx)
  slot := fun b o q n hb hx => by
    obtain ⟨sl, e⟩ := u.slot b o q n hb hx
    exact ⟨sl, (hs.2 b (Nat.ne_of_lt (Nat.lt_of_lt_of_le (Heap.lt_size q) hC))).trans e⟩
  free := u.free
  there := fun b o q hx => by
    obtain ⟨o', e⟩ := u.there b o q hx
    exact ⟨o', (hs.2 b (Nat.ne_of_lt (Nat.lt_of_lt_of_le (Heap.lt_size q) hC))).trans e⟩
  tups := u.tups
  frzs := u.frzs
  tbls := u.tbls
/-- the block's state at its start -/
theorem comp_start {x : Str} {Nc : List Str} {caps : List Nat} {scope : Scope} {cl : List (Str × Addr)} {C : Addr} {fp : List Addr} {h' : Heap} {tk : Nat} {m0 : Str → Option Value} (I : Inv X pins σ H s) (O : CompOk X x Nc caps scope)
    (hcl : ∀ x c, cl.lookup x = some c → X.env.cells.lookup x = some c ∧ (x, NameKind.free) ∈ scope.names) (hcl2 : ∀ x, (x, NameKind.free) ∈ scope.names → cl.lookup x = X.env.cells.lookup x)
    (hC : s.heap.objs.size ≤ C) (hfp : ∀ b ∈ fp, FpOk X pins H b) (hfo : ∀ b ∈ fp, b < s.heap.objs.size)
    (old : ∀ b o, s.heap.get? b = some o → h'.get? b = some o) (hns : h'.Ns C m0) :
    Inv (cxComp X Nc scope cl C fp s H) [] (none :: capV σ caps) H { s with heap := h', toks := tk } where
  ok := comp_ok I O hcl hcl2 hC hfp hfo
  os := rfl
  bare := I.bare
  base := Un.kept old
  loc := by
    refine ⟨m0, hns, fun i y v hN hσ hv => ?_⟩
    cases i with
    | zero => simp at hσ
    | succ k =>
      rw [List.getElem?_cons_succ] at hσ
      obtain ⟨j, hj, hs⟩ := capV_get hσ
      obtain ⟨z, hz1, hz2, hz3⟩ := O.cap k j hj
      have hN' : Nc[k + 1]? = some y := hN
      rw [hz1] at hN'
      cases hN'
      have mem : (y, NameKind.free) ∈ scope.names := PySem.mem_of_lookup hz3
      have hk := (O.fr _ mem rfl).1
      obtain ⟨m, hn, hl⟩ := I.loc
      obtain ⟨u, r, l⟩ := hl j y v hz2 hs (.inr (.inl hk))
      refine ⟨u, r, ?_⟩
      rcases l with ⟨k', _⟩ | ⟨_, c, hc, z⟩
      · have k'' : X.env.scope.names.lookup y = some .local := k'
        rw [hk] at k''; cases k''
      · obtain ⟨o, ho, hd⟩ := z
        exact .inr ⟨.inl (lookup_relabel_free I.ok.kind hz3 hk), c, (hcl2 y mem).trans hc, o, old _ _ ho, hd⟩
  cell := fun y c e => by
    obtain ⟨v, o, ho, hd⟩ := I.cell y c (hcl y c e).1
    exact ⟨v, o, old _ _ ho, hd⟩
  free := I.hok.fresh hC
  freeC := fun y c e => I.freeC y c (hcl y c e).1
  pin := fun p hp => absurd (show p ∈ ([] : List (Addr × Obj)) from hp) (by simp)
  hok := I.hok.kept old
  len := by
    show (none :: capV σ caps).length = Nc.length
    rw [List.length_cons, capV_len, O.len]

/-- a list that only the block knows, as it stands -/
abbrev rawL (us : List Value) (n : Nat) : Obj := { cls := .type "list", data := .seq us.toArray n }

theorem comp_fr {X : Cx} {sc0 scope : Scope} (h : X.env.scope = sc0) (hd : ∀ y ∈ scope.names, y.2 = .free → sc0.names.lookup y.1 = some .cell ∧ scope.names.lookup y.1 = some .free) :
    ∀ y ∈ scope.names, y.2 = .free → X.env.scope.names.lookup y.1 = some .cell ∧ scope.names.lookup y.1 = some .free := by
  rw [h]
  exact hd

/-- THE BLOCK: the list is made, the variables live, the turns go; RR is what is wanted at the block's end -/
theorem comp_block {x : Str} {px : Pos} {Nc : List Str} {caps : List Nat} {scope : Scope} {cl : List (Str × Addr)} {iter elt : Expr} {ifs : List Expr} {pos : Pos} {tc : TT} {te : TE} {Q : VK} {it : Addr} {fp : List Addr} {tn : Nat → Heap → Prop} {J : It}
    {RR : Value → Addr → Result → Shared → Prop} {E : Value → Shared → Prop}
    (O : CompOk X x Nc caps scope) (hc : X.calm = true)
    (hcl : ∀ x c, cl.lookup x = some c → X.env.cells.lookup x = some c ∧ (x, NameKind.free) ∈ scope.names) (hcl2 : ∀ x, (x, NameKind.free) ∈ scope.names → cl.lookup x = X.env.cells.lookup x)
    (hte : ∀ C fp s H, PE (cxComp X Nc scope cl C fp s H) elt te) (htc : ∀ C fp s H, PIf (cxComp X Nc scope cl C fp s H) ifs tc)
    (I : Inv X pins σ H s) (T : Turn X.prog X.w X.K (.Name x px) J fp it tn) (st : tn 0 s.heap) (hfp : ∀ b ∈ fp, FpOk X pins H b) (h : tCompW caps tc te J σ H Q)
    (hRR : ∀ (D C : Addr) (s' : Shared) (m : Str → Option Value), s'.heap.Ns C m → (∀ h', Heap.SameBut C s'.heap h' → ∃ H', Inv X pins σ H' { s' with heap := h' } ∧ H' C = none ∧ Q (.ref D) H') →
      s.heap.objs.size ≤ C → RR (.ref D) C (.ok .next) s') :
    wpAny (model X.prog X.w) X.A (newList []) (fun acc s₃ => wpAny (model X.prog X.w) X.A (newFunctionEnv scope X.env.globals cl [] X.env.qual none .none (some X.env)) (fun cenv s₄ =>
      codeAny (model X.prog X.w) X.A (.compStart (.ListComp elt [⟨.Name x px, iter, ifs, 0⟩] scope pos) 0 (.ref it) acc { cenv with scope := relabel scope X.env }) (RR acc cenv.locals) s₄) E s₃) E s := by
  refine wpAny_newObj_type (wpAny_newFunctionEnv O.cell (by intro y hy; simp at hy) (fun h₁ hns₁ hsb₁ => ?_) O.kind)
  dsimp only at hns₁ hsb₁ ⊢
  generalize hH2 : s.heap.push { cls := .type "list", dict := none, data := .seq ([] : List Value).toArray } = H2 at hns₁ hsb₁ ⊢
  have hC : H2.objs.size = s.heap.objs.size + 1 := by rw [← hH2, Heap.size_push]
  have hCle : s.heap.objs.size ≤ H2.objs.size := by rw [hC]; exact Nat.le_succ _
  have hDC : s.heap.objs.size ≠ H2.objs.size := by rw [hC]; exact Nat.ne_of_lt (Nat.lt_succ_self _)
  have below : ∀ b, b < s.heap.objs.size → b ≠ H2.objs.size ∧ b ≠ s.heap.objs.size := fun b hb => ⟨by rw [hC]; exact Nat.ne_of_lt (Nat.lt_succ_of_lt hb), Nat.ne_of_lt hb⟩
  have old : ∀ b o, s.heap.get? b = some o → h₁.get? b = some o := fun b o e => hsb₁.extBut b o (below b (Heap.lt_size e)).1 (Heap.get?_push_of_some _ (hH2 ▸ Heap.get?_push_of_some _ e))
  have hacc : h₁.get? s.heap.objs.size = some (rawL [] 0) := hsb₁.extBut _ _ hDC (Heap.get?_push_of_some _ (hH2 ▸ Heap.get?_push_size _ rfl))
  have hfo : ∀ b ∈ fp, b < s.heap.objs.size := fun b hb => by
    obtain ⟨o, e, _⟩ := T.obj _ _ st b hb
    exact Heap.lt_size e
  have st1 : tn 0 h₁ := T.keep _ _ _ st fun b _ o e => old b o e
  generalize hDD : s.heap.objs.size = D at *
  generalize hCC : H2.objs.size = C at *
  have DleC : D ≤ C := hCle
  let Y : Cx := cxComp X Nc scope cl C fp s H
  have I0 : Inv Y [] (none :: capV σ caps) H { s with heap := h₁, toks := s.toks + ([] : List (Str × Value)).length } := comp_start I O hcl hcl2 (by rw [hDD]; exact hCle) hfp (fun b hb => by rw [hDD]; exact hfo b hb) old hns₁
  have Dfree : H D = none := by rw [← hDD]; exact I.hok.fresh (Nat.le_refl _)
  have DneC : D ≠ C := hDC
  -- what stays true of D, of the iterator's objects
  have Dfs : D ∉ Y.fs := fun z => by
    have := I.stack.mem (show D ∈ frs X.stack from z)
    obtain ⟨_, o, e, _⟩ := this
    have := Heap.lt_size e
    rw [hDD] at this
    exact Nat.lt_irrefl _ this
  have Dcell : ∀ y c, Y.env.cells.lookup y = some c → c ≠ D := fun y c e z => by
    obtain ⟨v, q⟩ := I.cell y c (hcl y c e).1
    have := q.lt
    rw [z, hDD] at this
    exact Nat.lt_irrefl _ this
  have Dfp : ∀ b ∈ fp, b ≠ D := fun b hb => Nat.ne_of_lt (hfo b hb)
  have fpY : ∀ {H' : Hp}, (∀ b ∈ fp, H' b = none) → ∀ b ∈ fp, FpOk Y [] H' b := fun hn b hb =>
    ⟨hn b hb, Nat.ne_of_lt (Nat.lt_of_lt_of_le (hfo b hb) DleC), fun z => I0.ok.exfs b hb z, .inl hb, fun y c e => (I0.ok.exf b hb).2 y c e, fun p hp => absurd (show p ∈ ([] : List (Addr × Obj)) from hp) (by simp)⟩
  obtain ⟨W, ⟨m0, w0⟩, turn⟩ := h
  have loop : ∀ s₃ : Shared, s₃ = { s with heap := h₁, toks := s.toks + ([] : List (Str × Value)).length } →
      codeAny (model X.prog X.w) X.A (.compLoop (.ListComp elt [⟨.Name x px, iter, ifs, 0⟩] scope pos) 0 (.ref it) (.ref D) (compEnvC scope cl C X.env)) (RR (.ref D) C) s₃ := by
    rintro s₃ rfl
    refine compLoop_any (fun n s' => ∃ (i : Nat) (o : Option V) (H' : Hp) (ys : List V) (us : List Value) (k : Nat), Inv Y [] (o :: capV σ caps) H' s' ∧ tn i s'.heap ∧ (∀ b ∈ fp, H' b = none) ∧ s'.heap.get? D = some (rawL us k) ∧ H' D = none ∧ Vals ys us ∧ W i n ys H')
      ?_ m0 ⟨0, none, H, [], [], 0, I0, st1, fun b hb => (hfp b hb).1, hacc, Dfree, .nil, w0⟩
    rintro n s3 ⟨i, o3, H3, ys, us, k, I3, st3, fr3, hD3, nD3, rv, w3⟩
    have fpP : ∀ {H' : Hp} {ob : Obj}, (∀ b ∈ fp, H' b = none) → ∀ b ∈ fp, FpOk Y [(D, ob)] H' b := fun hn b hb => by
      obtain ⟨g0, g1, g2, g3, g4, _⟩ := fpY hn b hb
      refine ⟨g0, g1, g2, g3, g4, fun p hp => ?_⟩
      have e : p = (D, _) := List.mem_singleton.mp (show p ∈ [(D, _)] from hp)
      rw [e]
      exact Ne.symm (Dfp b hb)
    have IP : Inv Y [(D, rawL us k)] (o3 :: capV σ caps) H3 s3 := I3.pins_of fun p hp => by
      have e : p = (D, rawL us k) := List.mem_singleton.mp hp
      subst e
      exact ⟨hD3, nD3, DneC, Dfs, fun v z => by cases z⟩
    have pinD : ∀ {σ' : St} {H' : Hp} {s' : Shared} {pl : List (Addr × Obj)}, Inv Y ([(D, rawL us k)] ++ pl) σ' H' s' → s'.heap.get? D = some (rawL us k) ∧ H' D = none := fun I' => by
      have z := I'.pin (D, rawL us k) (List.mem_append_right _ (List.mem_append_left _ List.mem_cons_self))
      exact ⟨z.1, z.2.1⟩
    rcases turn i n ys H3 w3 with ⟨stop, hlen, fin⟩ | ⟨go, hlen, step⟩
    · -- the end
      refine wpAny_mono (T.done Y rfl rfl rfl hc i _ s3 _ H3 (fun _ _ => False) IP (fpP fr3) st3 stop) (fun r s4 hr => ?_) fun _ _ z => z.elim
      obtain ⟨hr, I4⟩ := hr
      subst hr
      obtain ⟨gD, nD⟩ := pinD (pl := []) (by simpa using I4)
      obtain ⟨m, hn, _⟩ := I4.loc
      refine hRR D C s4 m hn (fun h' hs' => ⟨upd H3 D (.lst ys), ?_, (upd_ne (Ne.symm DneC)).trans I4.free, fin D nD⟩) hCle
      have nt : ∀ b ob, H3 b = some ob → b ≠ C := fun b ob e z => by
        have := I4.free
        rw [z] at e
        rw [show H3 C = none from this] at e
        cases e
      have u1 : Un (frs X.stack) fp H H3 s.heap h' := Un.but I4.base hs' (show s.heap.objs.size ≤ C by rw [hDD]; exact hCle)
      have ok1 : HOk X.prog X.w H3 h' := fun b ob e => (I4.hok b ob e).stay (fun c v hc q => (hs'.2 c (by
        rcases hc with z | z
        · rw [z]; exact nt b ob e
        · exact nt c _ z)).trans q) (fun _ q => q) fun _ _ q => q
      have gD' : h'.get? D = some (rawL us k) := (hs'.2 D DneC).trans gD
      exact I.call' (s' := { s4 with heap := h' }) (ch := fp) I4.os (u1.track (Nat.le_of_eq hDD) nD) (ok1.track nD ⟨hlen, us, k, rv, gD'⟩) I4.bare fun b hb => by
        obtain ⟨_, g1, _, g3, g4, g5⟩ := hfp b hb
        exact ⟨g3, g1, g4, g5⟩
    · -- a turn
      refine wpAny_mono (T.item Y rfl rfl rfl hc i _ s3 _ H3 (fun _ _ => False) IP (fpP fr3) st3 go) (fun r s4 hr => ?_) fun _ _ z => z.elim
      obtain ⟨u0, hr, h4⟩ := hr
      subst hr
      refine wpAny_mono h4 (fun _ s5 h5 => ?_) fun _ _ z => z.elim
      obtain ⟨x5, H5, I5, r5, y5, st5, fr5⟩ := h5
      have I5' := I5.pinned (fpP fr5) (T.obj _ _ st5)
      have tgt : PG Y (.Name x px) (gName 0) := pg_name (i := 0) O.nd O.hd (.inl (lookup_relabel I.ok.kind O.loc (by intro z; cases z))) (.inr (lookup_relabel I.ok.kind O.loc (by intro z; cases z)))
      refine wpAny_mono (tgt _ s5 _ H5 x5 u0 (fun σ2 H2 => σ2 = some x5 :: capV σ caps ∧ H2 = H5) I5' r5 ⟨rfl, rfl⟩) (fun _ s6 h6 => ?_) fun _ _ z => z.elim
      obtain ⟨_, _, I6, rfl, rfl⟩ := h6
      refine wpAny_mono ((htc C fp s H).run I6 (step x5 _ y5)) (fun b s7 h7 => ?_) fun _ _ z => z.elim
      obtain ⟨H7, I7, q7⟩ := h7
      have keepT : ∀ {σ' : St} {H' : Hp} {s' : Shared}, Inv Y ([(D, rawL us k)] ++ pinsAt fp s5.heap) σ' H' s' → tn (i + 1) s'.heap ∧ ∀ b ∈ fp, H' b = none := fun I' =>
        ⟨T.keep _ _ _ st5 fun b hb o e => (I'.pin (b, o) (List.mem_append_right _ (List.mem_append_right _ (mem_pinsAt hb e)))).1, fun b hb => by
          obtain ⟨o, e, d⟩ := T.obj _ _ st5 b hb
          exact (I'.pin (b, o) (List.mem_append_right _ (List.mem_append_right _ (mem_pinsAt hb e)))).2.1⟩
      cases b with
      | false =>
        rw [if_neg Bool.false_ne_true] at q7
        rw [if_neg Bool.false_ne_true]
        obtain ⟨m', hm, w7⟩ := q7
        obtain ⟨gD, nD⟩ := pinD I7
        obtain ⟨k1, k2⟩ := keepT I7
        exact ⟨m', hm, i + 1, some x5, H7, ys, us, k, I7.pins_of (fun p hp => nomatch hp), k1, k2, gD, nD, rv, w7⟩
      | true =>
        rw [if_pos rfl] at q7
        rw [if_pos rfl]
        refine wpAny_mono (hte C fp s H _ s7 _ H7 _ I7 q7) (fun u8 s8 h8 => ?_) fun _ _ z => z.elim
        obtain ⟨y8, H8, I8, r8, m', hm, w8⟩ := h8
        obtain ⟨gD, nD⟩ := pinD I8
        obtain ⟨k1, k2⟩ := keepT I8
        refine call_meets F.slot_list_append ⟨_, gD, rfl⟩ F.entry_list_append (F.args_list_append_2 _ _) (PySem.list_append D us.toArray k u8 (by rw [List.size_toArray, ← rv.length]; omega)) ⟨gD, ?_⟩
        have q := PySem.IsL.update gD (·.push u8)
        have e1 : us.toArray.push u8 = (us ++ [u8]).toArray := by simp
        rw [e1] at q
        have I8' : Inv Y [] (some x5 :: capV σ caps) H8 s8 := I8.pins_of (fun p hp => nomatch hp)
        have I9 : Inv Y [] (some x5 :: capV σ caps) H8 { s8 with heap := s8.heap.update D (Obj.mapSeq (·.push u8)), toks := s8.toks } :=
          I8'.turned (it := D) (fun b o hb e => (Heap.get?_update_other s8.heap (Obj.mapSeq (·.push u8)) (Ne.symm hb)).trans e) nD DneC (.inr (Nat.le_of_eq hDD)) Dcell (fun p hp => nomatch hp)
        refine ⟨m', hm, i + 1, some x5, H8, ys ++ [y8], us ++ [u8], _, I9, T.keep _ _ _ k1 fun b hb o e => (Heap.get?_update_other s8.heap (Obj.mapSeq (·.push u8)) (Ne.symm (Dfp b hb))).trans e, k2, q, nD, rv.append (.cons r8 .nil), w8⟩
  exact codeAny_compStart_list (loop _ rfl) (T.self X.A 0 _ _ _ st1 (loop _ rfl))

/-- [elt for x in iter if test] -/
theorem pe_comp {x : Str} {px pos : Pos} {Nc : List Str} {caps : List Nat} {scope : Scope} {iter elt : Expr} {ifs : List Expr} {wi : TI} {tc : TT} {te : TE} (O : CompOk X x Nc caps scope) (hc : X.calm = true) (hi : PI X (.Name x px) iter wi)
    (htc : ∀ cl C fp s H, PIf (cxComp X Nc scope cl C fp s H) ifs tc) (hte : ∀ cl C fp s H, PE (cxComp X Nc scope cl C fp s H) elt te) (hs : ∀ x, foldedSetIterable iter X.env x = pure x := by intro _; rfl) :
    PE X (.ListComp elt [⟨.Name x px, iter, ifs, 0⟩] scope pos) (tComp wi caps tc te) := by
  intro pins s σ H Q I h
  rw [eval_ListComp]
  obtain ⟨cl, e1, e2, e3⟩ := closure_is (scope := scope) (env := X.env) fun y hy hf => I.ok.has y.1 (.inl (O.fr y hy hf).1)
  refine wpAny_comprehension_free (use := none) rfl hs e1 O.kind O.names (thn (hi pins s σ H _ I h) fun v s1 h1 => thn h1 fun itv s2 h2 => ?_)
  obtain ⟨it, fp, tn, J, H2, e, I2, T, st2, f2, w2⟩ := h2
  subst e
  refine comp_block (RR := fun acc C => compPost (model X.prog X.w) X.A X.xe none (EP X pins σ Q) acc C) O hc e2 e3 (hte cl) (htc cl) I2 T st2 f2 w2 ?_
  intro D C s' m hn hq hC
  refine ⟨m, hn, fun h' hs' => ?_⟩
  obtain ⟨H', I', _, q⟩ := hq h' hs'
  exact ⟨.ref D, H', I', rfl, q⟩

/-- y = [elt for x in iter if test], where the value is stored ahead of the variables' going -/
theorem ps_setC {i : Nat} {y x : Str} {px py pos spos : Pos} {Nc : List Str} {caps : List Nat} {scope : Scope} {iter elt : Expr} {ifs : List Expr} {wi : TI} {tc : TT} {te : TE} (O : CompOk X x Nc caps scope) (hc : X.calm = true)
    (hN : X.N.Nodup) (hy : X.N[i]? = some y) (hx : X.env.scope.names.lookup y = some .local) (hi : PI X (.Name x px) iter wi)
    (htc : ∀ cl C fp s H, PIf (cxComp X Nc scope cl C fp s H) ifs tc) (hte : ∀ cl C fp s H, PE (cxComp X Nc scope cl C fp s H) elt te)
    (hsw : swapsWith (.ListComp elt [⟨.Name x px, iter, ifs, 0⟩] scope pos) (some (.Name y py)) spos.line X.env = pure true) (hs : ∀ x, foldedSetIterable iter X.env x = pure x := by intro _; rfl) :
    PS X (.Assign [.Name y py] (.ListComp elt [⟨.Name x px, iter, ifs, 0⟩] scope pos) spos) (tAsg (tComp wi caps tc te) (gName i)) := by
  intro pins s σ H Dn I h
  rw [exec_Assign_Name_used _ _ _ _ hsw]
  refine wpAny_bind (wpAny_standAt (wpAny_bind ?_))
  obtain ⟨cl, e1, e2, e3⟩ := closure_is (scope := scope) (env := X.env) fun y hy hf => I.ok.has y.1 (.inl (O.fr y hy hf).1)
  show wpAny _ X.A (do let _ ← comprehension (.ListComp elt [⟨.Name x px, iter, ifs, 0⟩] scope pos) scope X.env _ (newList []) false (eval iter X.env) (some (assign (.Name y py) X.env))) _ _ s
  refine wpAny_bind (wpAny_mono (wpAny_comprehension_free (use := some (assign (.Name y py) X.env)) (Q := fun _ s' => SP X pins Dn .next s') rfl hs e1 O.kind O.names
    (thn (hi pins s σ H _ I h) fun v s1 h1 => thn h1 fun itv s2 h2 => ?_)) (fun _ s' hq => wpAny_pure (wpAny_pure hq)) fun _ _ e => e)
  obtain ⟨it, fp, tn, J, H2, e, I2, T, st2, f2, w2⟩ := h2
  subst e
  refine comp_block (RR := fun acc C => compPost (model X.prog X.w) X.A X.xe (some (assign (.Name y py) X.env)) (fun _ s' => SP X pins Dn .next s') acc C) O hc e2 e3 (hte cl) (htc cl) I2 T st2 f2 w2 ?_
  intro D C s' m hn hq hC
  show wpAny _ X.A (assign (.Name y py) X.env (.ref D)) _ _ _
  obtain ⟨H', I', nC, q⟩ := hq s'.heap (.refl ..)
  have I'' : Inv X pins σ H' s' := I'
  have CL : C ≠ X.env.locals := Nat.ne_of_gt (Nat.lt_of_lt_of_le I2.lt hC)
  have Ccell : ∀ y c, X.env.cells.lookup y = some c → c ≠ C := fun y c e z => by
    obtain ⟨v, q⟩ := I2.cell y c e
    have := Nat.lt_of_lt_of_le q.lt hC
    rw [z] at this
    exact Nat.lt_irrefl _ this
  refine wpAny_assign_Name (store_ok2 I'' hN hy (.inl hx) (show RelV (.ref D) (.ref D) from rfl) (fun s3 I3 hsb => ?_) (.inr hx))
  obtain ⟨a, hsb, ha⟩ := hsb
  have aC : C ≠ a := by
    rcases ha with z | z
    · rw [z]; exact CL
    · exact Ne.symm (Ccell _ _ z)
  refine ⟨m, hn.sameBut hsb aC, fun h4 hs4 => ?_⟩
  refine ⟨_, H', I3.turned (it := C) (t' := s3.toks) (fun b o hb e => (hs4.2 b hb).trans e) nC CL (.inr (Nat.le_trans I2.sz hC)) Ccell (fun p hp z => ?_), q⟩
  · have := Nat.lt_of_lt_of_le (Heap.lt_size (I2.pin p hp).1) hC
    rw [z] at this
    exact Nat.lt_irrefl _ this
end
end L2

set_option Elab.async false
set_option linter.all false
set_option maxRecDepth 100000
namespace L2
open PySem PySem.Spec PyProof.Rows

/-! ### for c in text -/
def Its (x : Str) : It := ⟨fun i _ => i < x.cps.size, fun i H v H' => H' = H ∧ ∃ c, x.cps[i]? = some c ∧ v = .str ⟨#[c]⟩, fun i _ => x.cps.size ≤ i⟩
theorem turn_strA {P : Program} {w : World} {K : PySem.W.Frag} {tg : Expr} (it : Addr) (x : Str) (t : Tok) : Turn P w K tg (Its x) [it] it (fun i h => i ≤ x.cps.size ∧ h.IsStrIter it "str_ascii_iterator" x t i) where
  mem := by simp
  obj := fun i h st b hb => by
    have e : b = it := by simpa using hb
    subst e
    obtain ⟨_, o, e, c, d⟩ := st
    exact ⟨o, e, fun v z => by rw [d] at z; cases z⟩
  keep := fun i h h' st k => by
    obtain ⟨hl, o, e, c, d⟩ := st
    exact ⟨hl, o, k it (by simp) o e, c, d⟩
  item := by
    intro X hP hw hK hc i pins s σ H E I hf st hg
    subst hP hw hK
    obtain ⟨hl, st⟩ := st
    have hg : i < x.cps.size := hg
    obtain ⟨f0, f1, f2, f3, f4, f5⟩ := hf it (by simp)
    have hx : x.cps[i]? = some x.cps[i] := by simp [hg]
    refine wpAny_pyNext_ascii_item st hx fun h' st' sb => ?_
    have I1 : Inv X pins σ H { s with heap := h', toks := s.toks + 1 } := I.turned (fun b o hb e => (sb.2 b hb).trans e) f0 f1 f3 f4 f5
    obtain ⟨o, e, c, d⟩ := id st'
    exact ⟨_, rfl, go_of (s := { s with heap := h', toks := s.toks + 1 }) e c d (by decide) ⟨.str ⟨#[x.cps[i]]⟩, H, I1, ⟨_, rfl⟩, ⟨rfl, _, hx, rfl⟩, ⟨hg, st'⟩, fun b hb => (hf b hb).1⟩⟩
  done := by
    intro X hP hw hK hc i pins s σ H E I hf st hg
    subst hP hw hK
    obtain ⟨hl, st⟩ := st
    have hg : x.cps.size ≤ i := hg
    obtain ⟨f0, f1, f2, f3, f4, f5⟩ := hf it (by simp)
    exact wpAny_pyNext_ascii_end (I.ok.hd hc) st (by simp; omega) fun h' eb => ⟨rfl, I.turned (t' := s.toks) (fun b o hb e => eb b o hb e) f0 f1 f3 f4 f5⟩
  self := fun _ _ _ _ _ st h => wpAny_pyIter_striter_ascii st.2 h
theorem turn_strW {P : Program} {w : World} {K : PySem.W.Frag} {tg : Expr} (it : Addr) (x : Str) (t : Tok) : Turn P w K tg (Its x) [it] it (fun i h => i ≤ x.cps.size ∧ h.IsStrIter it "str_iterator" x t i) where
  mem := by simp
  obj := fun i h st b hb => by
    have e : b = it := by simpa using hb
    subst e
    obtain ⟨_, o, e, c, d⟩ := st
    exact ⟨o, e, fun v z => by rw [d] at z; cases z⟩
  keep := fun i h h' st k => by
    obtain ⟨hl, o, e, c, d⟩ := st
    exact ⟨hl, o, k it (by simp) o e, c, d⟩
  item := by
    intro X hP hw hK hc i pins s σ H E I hf st hg
    subst hP hw hK
    obtain ⟨hl, st⟩ := st
    have hg : i < x.cps.size := hg
    obtain ⟨f0, f1, f2, f3, f4, f5⟩ := hf it (by simp)
    have hx : x.cps[i]? = some x.cps[i] := by simp [hg]
    refine wpAny_pyNext_wide_item st hx fun h' st' sb => ?_
    have I1 : Inv X pins σ H { s with heap := h', toks := s.toks + 1 } := I.turned (fun b o hb e => (sb.2 b hb).trans e) f0 f1 f3 f4 f5
    obtain ⟨o, e, c, d⟩ := id st'
    exact ⟨_, rfl, go_of (s := { s with heap := h', toks := s.toks + 1 }) e c d (by decide) ⟨.str ⟨#[x.cps[i]]⟩, H, I1, ⟨_, rfl⟩, ⟨rfl, _, hx, rfl⟩, ⟨hg, st'⟩, fun b hb => (hf b hb).1⟩⟩
  done := by
    intro X hP hw hK hc i pins s σ H E I hf st hg
    subst hP hw hK
    obtain ⟨hl, st⟩ := st
    have hg : x.cps.size ≤ i := hg
    obtain ⟨f0, f1, f2, f3, f4, f5⟩ := hf it (by simp)
    exact wpAny_pyNext_wide_end (I.ok.hd hc) st (by simp; omega) fun h' eb => ⟨rfl, I.turned (t' := s.toks) (fun b o hb e => eb b o hb e) f0 f1 f3 f4 f5⟩
  self := fun _ _ _ _ _ st h => wpAny_pyIter_striter_wide st.2 h
section
variable {X : Cx} {tg : Expr}
def iStr (tl : TE) : TI := fun σ H R => tl σ H fun x H1 => ∃ z, x = .str z ∧ R (Its z) H1
theorem pi_str {l : Expr} {tl : TE} (hl : PE X l tl) : PI X tg l (iStr tl) := by
  intro pins s σ H R I h
  refine thn (hl pins s σ H _ I h) fun v s1 ⟨x, H1, I1, r1, q1⟩ => ?_
  obtain ⟨z, e, q⟩ := q1
  subst e
  obtain ⟨t, rfl⟩ := r1
  have fpn : ∀ b ∈ [s1.heap.objs.size], FpOk X pins H1 b := fun b hb => by
    have e : b = s1.heap.objs.size := by simpa using hb
    subst e
    exact I1.fpOk (Nat.le_refl _) (I1.hok.fresh (Nat.le_refl _))
  cases ha : z.cps.all (· < 128)
  · refine wpAny_pyIter_wide ha ?_
    exact ⟨s1.heap.objs.size, [s1.heap.objs.size], _, _, H1, rfl, I1.kept (t' := s1.toks) fun b o e => Heap.get?_push_of_some _ e, turn_strW _ z t, ⟨Nat.zero_le _, _, Heap.get?_push_size _ rfl, rfl, rfl⟩, fpn, q⟩
  · refine wpAny_pyIter_ascii ha ?_
    exact ⟨s1.heap.objs.size, [s1.heap.objs.size], _, _, H1, rfl, I1.kept (t' := s1.toks) fun b o e => Heap.get?_push_of_some _ e, turn_strA _ z t, ⟨Nat.zero_le _, _, Heap.get?_push_size _ rfl, rfl, rfl⟩, fpn, q⟩
end
/-- over a text -/
theorem for_str {z : Str} {g : TG} {tb : TS} {D : Ends} {σ : St} {H : Hp} (Pv : Nat → St → Hp → Prop) (h0 : Pv 0 σ H)
    (hs : ∀ i c σ H, z.cps[i]? = some c → Pv i σ H → g (.str ⟨#[c]⟩) σ H fun σ2 H2 => tb { D with nx := Pv (i + 1), ct := Pv (i + 1), bk := D.nx } σ2 H2) (hd : ∀ σ H, Pv z.cps.size σ H → D.nx σ H) :
    ∃ W : Nat → Nat → St → Hp → Prop, (∃ m, W 0 m σ H) ∧ ∀ i m σ H, W i m σ H →
      ((Its z).stop i H ∧ D.nx σ H) ∨ ((Its z).go i H ∧ ∃ N : St → Hp → Prop, (∀ σ' H', N σ' H' → ∃ m', m' < m ∧ W (i + 1) m' σ' H') ∧ ∀ x H', (Its z).yld i H x H' → g x σ H' fun σ2 H2 => tb { D with nx := N, ct := N, bk := D.nx } σ2 H2) := by
  refine ⟨fun i m σ H => m = z.cps.size - i ∧ i ≤ z.cps.size ∧ Pv i σ H, ⟨z.cps.size, by simp, Nat.zero_le _, h0⟩, ?_⟩
  rintro i m σ H ⟨rfl, hi, p⟩
  by_cases hlt : i < z.cps.size
  · refine .inr ⟨hlt, Pv (i + 1), fun σ' H' p' => ⟨z.cps.size - (i + 1), by omega, rfl, hlt, p'⟩, fun x H' y => ?_⟩
    obtain ⟨e, c, hc, rfl⟩ := y
    subst e
    exact hs i c σ _ hc p
  · have e : i = z.cps.size := by omega
    subst e
    exact .inl ⟨Nat.le_refl _, hd σ H p⟩

/-! ### the forms of a comprehension that one uses: what stands behind i items -/
/-- one item more is behind -/
def CN (n : Nat) (Pv : Nat → List V → Hp → Prop) (i : Nat) (ys : List V) (H : Hp) : Prop := ∃ m', m' < n - i ∧ m' = n - (i + 1) ∧ i + 1 ≤ n ∧ Pv (i + 1) ys H
theorem CN.of {n : Nat} {Pv : Nat → List V → Hp → Prop} {i : Nat} {ys : List V} {H : Hp} (h : i < n) (p : Pv (i + 1) ys H) : CN n Pv i ys H := ⟨n - (i + 1), by omega, rfl, h, p⟩
/-- a turn: the test, then the element -/
def CTurn (n : Nat) (Pv : Nat → List V → Hp → Prop) (tc : TT) (te : TE) (σ : St) (i : Nat) (ys : List V) (H : Hp) : Prop :=
  tc σ H fun b H2 => if b = true then te σ H2 fun y H3 => CN n Pv i (ys ++ [y]) H3 else CN n Pv i ys H2
theorem CTurn.no {n : Nat} {Pv : Nat → List V → Hp → Prop} {te : TE} {σ : St} {i : Nat} {ys : List V} {H : Hp} (h : te σ H fun y H3 => CN n Pv i (ys ++ [y]) H3) : CTurn n Pv tNoTest te σ i ys H := by
  unfold CTurn tNoTest
  exact iteT h
theorem comp_list {K : PySem.W.Frag} {a : Addr} {xs : List V} {caps : List Nat} {tc : TT} {te : TE} {σ : St} {H : Hp} {Q : VK} (Pv : Nat → List V → Hp → Prop) (h0 : Pv 0 [] H) (hl : ∀ i ys H, i ≤ xs.length → Pv i ys H → SqL K H a xs ∧ ys.length ≤ i)
    (hz : xs.length ≤ sizeLine) (hs : ∀ i x ys H, i < xs.length → xs[i]? = some x → Pv i ys H → CTurn xs.length Pv tc te (some x :: capV σ caps) i ys H)
    (hd : ∀ ys H p, Pv xs.length ys H → H p = none → Q (.ref p) (upd H p (.lst ys))) : tCompW caps tc te (Itl K a) σ H Q := by
  refine ⟨fun i m ys H => m = xs.length - i ∧ i ≤ xs.length ∧ Pv i ys H, ⟨xs.length, by simp, Nat.zero_le _, h0⟩, ?_⟩
  rintro i m ys H ⟨rfl, hi, p⟩
  obtain ⟨q, hy⟩ := hl i ys H hi p
  by_cases hlt : i < xs.length
  · refine .inr ⟨⟨xs, xs[i], q, by simp [hlt]⟩, by omega, fun x H' y => ?_⟩
    obtain ⟨e, y⟩ := y
    subst e
    exact hs i x ys _ hlt (y xs q) p
  · have e : i = xs.length := by omega
    subst e
    exact .inl ⟨⟨xs, q, Nat.le_refl _⟩, by omega, fun p' hp => hd ys H p' p hp⟩
theorem comp_range {lo : Int} {n : Nat} {caps : List Nat} {tc : TT} {te : TE} {σ : St} {H : Hp} {Q : VK} (Pv : Nat → List V → Hp → Prop) (h0 : Pv 0 [] H) (hl : ∀ i ys H, i ≤ n → Pv i ys H → ys.length ≤ i)
    (hz : n ≤ sizeLine) (hs : ∀ i ys H, i < n → Pv i ys H → CTurn n Pv tc te (some (.int (lo + i)) :: capV σ caps) i ys H)
    (hd : ∀ ys H p, Pv n ys H → H p = none → Q (.ref p) (upd H p (.lst ys))) : tCompW caps tc te (Itr lo n) σ H Q := by
  refine ⟨fun i m ys H => m = n - i ∧ i ≤ n ∧ Pv i ys H, ⟨n, by simp, Nat.zero_le _, h0⟩, ?_⟩
  rintro i m ys H ⟨rfl, hi, p⟩
  have hy := hl i ys H hi p
  by_cases hlt : i < n
  · refine .inr ⟨hlt, by omega, fun x H' y => ?_⟩
    obtain ⟨e, y⟩ := y
    subst e y
    exact hs i ys _ hlt p
  · have e : i = n := by omega
    subst e
    exact .inl ⟨Nat.le_refl _, by omega, fun p' hp => hd ys H p' p hp⟩
/-! ### sep.join(list of texts) -/
theorem strsAre_of {ys : List Str} : ∀ {us : List Value}, Vals (ys.map V.str) us → StrsAre us ys := by
  induction ys with
  | nil => intro us r; rw [List.map_nil] at r; cases r; exact .nil
  | cons n ns ih =>
    intro us r
    rw [List.map_cons] at r
    cases r with
    | cons r1 r2 =>
      obtain ⟨t, e⟩ := r1
      subst e
      exact .cons n t (ih r2)
def rJoin (K : PySem.W.Frag) : V → List V → Hp → VK → Prop := fun x vs H Q => ∃ z a ys, x = .str z ∧ vs = [.ref a] ∧ SqL K H a (ys.map V.str) ∧ (ys.map (·.length)).sum + ys.length * z.length ≤ 16777216 ∧ Q (.str (Txt.join z ys)) H
section
variable {X : Cx}
theorem mt_join : MtR X "str.join" (rJoin X.K) := by
  intro pins s σ H x vs v us Q I rx rv h
  obtain ⟨z, a, ys, rfl, rfl, hq, hz, q⟩ := h
  obtain ⟨t, rfl⟩ := rx
  obtain ⟨u, rfl, ru⟩ := rv.one
  cases ru
  obtain ⟨its, r, pl, hl⟩ := I.list hq
  exact join_list pl.isList (strsAre_of (by simpa using r)) hz fun t' k => ⟨.str _, H, I.tok _, ⟨_, rfl⟩, q⟩

/-! ### isinstance(x, C) -/
def rIsi (K : PySem.W.Frag) : List V → Hp → VK → Prop := fun vs H Q => ∃ x t b, TyOf K H x t ∧
  ((∃ n, vs = [x, .ty n] ∧ PySem.W.kitOne K t (.type n) = some b) ∨ (∃ a, vs = [x, .ref a] ∧ PySem.W.kitOne K t (.ref a) = some b)) ∧ Q (.bl b) H
theorem call_isi : CallR X (.builtin "isinstance") (rIsi X.K) := by
  intro pins s σ H xs us Q I rv h
  obtain ⟨x, t, b, ty, hv, q⟩ := h
  rcases hv with ⟨n, rfl, e⟩ | ⟨a, rfl, e⟩
  · obtain ⟨u1, u2, rfl, r1, r2⟩ := rv.two
    cases r2
    exact isinst_ok I r1 ty e fun tk => ⟨.bl b, H, I.tok _, rfl, q⟩
  · obtain ⟨u1, u2, rfl, r1, r2⟩ := rv.two
    cases r2
    exact isinst_ok I r1 ty e fun tk => ⟨.bl b, H, I.tok _, rfl, q⟩

/-! ### == of two lists of flat values -/
def eqL : List V → List V → Bool
  | [], [] => true
  | x :: xs, y :: ys => eqV x y && eqL xs ys
  | _, _ => false
theorem eqV_refl {x : V} (h : flatV x = true) : eqV x x = true := by
  cases x with
  | non => rfl
  | bl b => simp [eqV]
  | int i => simp [eqV]
  | str z => simp [eqV]
  | _ => exact absurd (show false = true from h) Bool.false_ne_true
theorem eqL_refl : ∀ {xs : List V}, xs.all flatV = true → eqL xs xs = true
  | [], _ => rfl
  | x :: xs, h => by
    rw [List.all_cons, Bool.and_eq_true] at h
    rw [eqL, eqV_refl h.1, eqL_refl h.2]
    rfl
theorem eqL_len : ∀ {xs ys : List V}, xs.length ≠ ys.length → eqL xs ys = false
  | [], [], h => absurd rfl h
  | [], _ :: _, _ => rfl
  | _ :: _, [], _ => rfl
  | x :: xs, y :: ys, h => by
    rw [eqL, eqL_len (xs := xs) (ys := ys) (fun z => h (by rw [List.length_cons, List.length_cons, z])), Bool.and_false]
theorem eqL_range : ∀ {xs ys : List V}, xs.length = ys.length → (List.range xs.length).all (fun j => eqV (xs.getD j .non) (ys.getD j .non)) = eqL xs ys
  | [], [], _ => rfl
  | [], _ :: _, h => by simp at h
  | _ :: _, [], h => by simp at h
  | x :: xs, y :: ys, h => by
    have h' : xs.length = ys.length := by simpa using h
    rw [List.length_cons, List.range_succ_eq_map, List.all_cons, List.all_map]
    rw [eqL, ← eqL_range h']
    rfl
def rEqL (K : PySem.W.Frag) : R2 := fun x y H Q => ∃ p q xs ys, x = .ref p ∧ y = .ref q ∧ SqL K H p xs ∧ SqL K H q ys ∧ xs.all flatV = true ∧ ys.all flatV = true ∧ Q (.bl (eqL xs ys)) H
end
end L2

namespace L2
open PySem
/-- a text by its codes -/
def tx (l : List Nat) : Str := ⟨l.toArray⟩
theorem tx_len (l : List Nat) : (tx l).length = l.length := by simp [tx, Str.length]
theorem tx_list (l : List Nat) : (tx l).cps.toList = l := by simp [tx]
theorem tx_get (l : List Nat) (i : Nat) : (tx l).cps[i]? = l[i]? := by simp [tx]
theorem tx_app (a b : List Nat) : tx a ++ tx b = tx (a ++ b) := by
  show Str.append (tx a) (tx b) = _
  simp [tx, Str.append]
theorem tx_one (c : Nat) : (⟨#[c]⟩ : Str) = tx [c] := rfl
theorem glue_fold : ∀ (ys : List (List Nat)) (acc : Array Nat), (ys.map tx).foldl (fun acc p => acc ++ (tx []).cps ++ p.cps) acc = acc ++ ys.flatten.toArray
  | [], acc => by simp
  | y :: ys, acc => by
    rw [List.map_cons, List.foldl_cons, glue_fold ys]
    simp [tx]
theorem tx_join : ∀ (ys : List (List Nat)), Txt.join (tx []) (ys.map tx) = tx ys.flatten
  | [] => by simp [Txt.join, Builtin.Str.glued, tx, Str.empty]
  | y :: ys => by
    show Str.mk _ = _
    simp only [List.map_cons, List.drop_one, List.tail_cons, List.headD_cons]
    rw [glue_fold]
    simp [tx]
theorem flat1 {α : Type} (f : α → Nat) : ∀ (l : List α), (l.map fun c => [f c]).flatten = l.map f
  | [] => rfl
  | a :: l => by rw [List.map_cons, List.flatten_cons, flat1 f l]; rfl
theorem sum1 {α : Type} (f : α → Nat) : ∀ (l : List α), (((l.map fun c => [f c]).map tx).map (·.length)).sum = l.length
  | [] => rfl
  | a :: l => by
    rw [List.map_cons, List.map_cons, List.map_cons, List.sum_cons, sum1 f l, tx_len, List.length_cons]
    show 1 + l.length = l.length + 1
    omega
end L2

set_option maxRecDepth 100000
set_option linter.all false
namespace PySem
open Sem (wp)
open Builtin Builtin.Str Builtin.Int
namespace RV
end RV
def revS (x : Str) (t : Tok) (i : Int) : Obj := { cls := .type "reversed", data := .fields #[.str x t, rawInt i] }
def Heap.IsRevS (h : Heap) (a : Addr) (x : Str) (t : Tok) (i : Int) : Prop := ∃ o, h.get? a = some o ∧ o.cls = .type "reversed" ∧ o.data = .fields #[.str x t, rawInt i]
section
variable {prog : Program} {w : World} {A : Around} {E : Value → Shared → Prop} {s : Shared}
end
end PySem

set_option Elab.async false
set_option linter.all false
set_option maxRecDepth 100000
namespace L2
open PySem PySem.Spec PyProof.Rows
/-! ### sep.join(reversed(text)) -/
def revO (p : Addr) (x : Str) : HO := .ext fun h => ∃ t, h.IsRevS p x t ((x.length : Int) - 1)
def anyO (p : Addr) : HO := .ext fun h => ∃ o, h.get? p = some o
section
variable {X : Cx}
end
end L2

set_option Elab.async false
set_option linter.all false
set_option maxRecDepth 100000
namespace L2
open PySem PySem.Spec PyProof.Rows
/-! ### tests that are known -/
theorem iteDn {c A B : Prop} [Decidable c] (h : ¬ c) (k : B) : if decide c = true then A else B := by rw [decide_eq_false h]; exact iteF k
theorem iteDp {c A B : Prop} [Decidable c] (h : c) (k : A) : if decide c = true then A else B := by rw [decide_eq_true h]; exact iteT k
theorem iteNp {c A B : Prop} [Decidable c] (h : ¬ c) (k : A) : if (!decide c) = true then A else B := by rw [decide_eq_false h]; exact iteT k
theorem iteB {b : Bool} {A B : Prop} (h1 : b = true → A) (h2 : b = false → B) : if b = true then A else B := by
  cases b with
  | true => exact iteT (h1 rfl)
  | false => exact iteF (h2 rfl)
theorem ite2D {c A B : Prop} [Decidable c] (h1 : c → A) (h2 : ¬ c → B) : if decide c = true then A else B := by
  by_cases h : c
  · exact iteDp h (h1 h)
  · exact iteDn h (h2 h)
/-! ### heaps -/
theorem Same.upd {H : Hp} {p : Addr} {o : HO} (h : H p = none) : Same H (L2.upd H p o) := fun b o' e => by rw [upd_ne (ne_of_none e h)]; exact e
theorem Same.new {H H1 : Hp} {p : Addr} {o : HO} (e : Same H H1) (h : H1 p = none) : Same H (L2.upd H1 p o) := e.trans (.upd h)
/-- a write at p, which was not there at H -/
theorem Same.over {H H1 : Hp} {p : Addr} {o : HO} (e : Same H H1) (h : H p = none) : Same H (L2.upd H1 p o) := fun b o' q => by rw [upd_ne (ne_of_none q h)]; exact e b o' q
/-! ### Python's own names -/
theorem bt_len : bootBuiltins "len" = some (.builtin "len") := by decide +kernel
theorem bt_isinstance : bootBuiltins "isinstance" = some (.builtin "isinstance") := by decide +kernel
theorem bt_sum : bootBuiltins "sum" = some (.builtin "sum") := by decide +kernel
theorem bt_sorted : bootBuiltins "sorted" = some (.builtin "sorted") := by decide +kernel
theorem bt_all : bootBuiltins "all" = some (.builtin "all") := by decide +kernel
theorem bt_list : bootBuiltins "list" = some (.type "list") := by decide +kernel
theorem bt_int : bootBuiltins "int" = some (.type "int") := by decide +kernel
theorem bt_zip : bootBuiltins "zip" = some (.type "zip") := by decide +kernel
theorem bt_bool : bootBuiltins "bool" = some (.type "bool") := by decide +kernel
theorem bt_range : bootBuiltins "range" = some (.type "range") := by decide +kernel
/-! ### a def of the text, its name, its parameters -/
structure Df (K : PySem.W.Frag) (mg : Str → Option Value) (x : Str) (st : Stmt) (ps : List Str) (f : Addr) (fd : FuncData) : Prop where
  F : Fun K x x st f fd
  m : mg x = some (.ref f)
  b : Binds K fd ps []
/-! ### lists of texts, of ints -/
def vS (cl : List (List Nat)) : List V := cl.map fun t => V.str (tx t)
def vI (ns : List Int) : List V := ns.map V.int
theorem vS_len (cl : List (List Nat)) : (vS cl).length = cl.length := by unfold vS; rw [List.length_map]
theorem vI_len (ns : List Int) : (vI ns).length = ns.length := by unfold vI; rw [List.length_map]
theorem vS_get {cl : List (List Nat)} {i : Nat} {t : List Nat} (h : cl[i]? = some t) : (vS cl)[i]? = some (.str (tx t)) := by unfold vS; rw [List.getElem?_map, h]; rfl
theorem vI_get {ns : List Int} {i : Nat} {n : Int} (h : ns[i]? = some n) : (vI ns)[i]? = some (.int n) := by unfold vI; rw [List.getElem?_map, h]; rfl
theorem vS_got {cl : List (List Nat)} {i : Nat} {v : V} (h : (vS cl)[i]? = some v) : ∃ t, cl[i]? = some t ∧ v = .str (tx t) := by
  unfold vS at h
  rw [List.getElem?_map] at h
  cases e : cl[i]? with
  | none => rw [e] at h; cases h
  | some t => rw [e] at h; exact ⟨t, rfl, (Option.some.inj h).symm⟩
theorem vI_got {ns : List Int} {i : Nat} {v : V} (h : (vI ns)[i]? = some v) : ∃ t, ns[i]? = some t ∧ v = .int t := by
  unfold vI at h
  rw [List.getElem?_map] at h
  cases e : ns[i]? with
  | none => rw [e] at h; cases h
  | some t => rw [e] at h; exact ⟨t, rfl, (Option.some.inj h).symm⟩
theorem vS_flat (cl : List (List Nat)) : (vS cl).all flatV = true := by unfold vS; rw [List.all_map]; exact List.all_eq_true.mpr fun _ _ => rfl
theorem vS_map (cl : List (List Nat)) : vS cl = (cl.map tx).map V.str := by unfold vS; rw [List.map_map]; rfl
theorem vI_set (ns : List Int) (j : Nat) (n : Int) : (vI ns).set j (.int n) = vI (ns.set j n) := by unfold vI; rw [List.map_set]
theorem vI_app (ns : List Int) (n : Int) : vI ns ++ [.int n] = vI (ns ++ [n]) := by unfold vI; rw [List.map_append]; rfl
theorem vS_app (cl : List (List Nat)) (t : List Nat) : vS cl ++ [.str (tx t)] = vS (cl ++ [t]) := by unfold vS; rw [List.map_append]; rfl
/-- the item at a place that is there -/
theorem atI_of {α : Type} {xs : List α} {i : Int} {v : α} (h0 : 0 ≤ i) (h : xs[i.toNat]? = some v) : atI xs i = some v := by
  have e : i = (i.toNat : Int) := by omega
  rw [e]
  exact atI_nat h
theorem ixN_of {n : Nat} {i : Int} (h0 : 0 ≤ i) (h : i < n) : ixN n i = some i.toNat := by unfold ixN; rw [if_pos h0, if_pos h]
end L2

set_option Elab.async false
set_option linter.all false
set_option maxRecDepth 100000
namespace L2
open PySem PySem.Spec PyProof.Rows
/-! ### the rules that name the written part, with its name given (within a comprehension's block the reading may not lean on the block) -/
section
variable {X : Cx} {K : PySem.W.Frag} {tg : Expr}
theorem ix_listK (hK : X.K = K := by rfl) : IxR X (rIxL K) := by subst hK; exact ix_list
theorem ix_tupK (hK : X.K = K := by rfl) : IxR X (rIxT K) := by subst hK; exact ix_tup
theorem call_len_seqK (hK : X.K = K := by rfl) : CallR X (.builtin "len") (fun xs H Q => ∃ p ys, xs = [.ref p] ∧ (SqL K H p ys ∨ SqT K H p ys) ∧ Q (.int ys.length) H) := by subst hK; exact call_len_seq
theorem call_list_ofK (hK : X.K = K := by rfl) : CallR X (.type "list") (fun xs H Q => ∃ p ys, xs = [.ref p] ∧ (SqL K H p ys ∨ SqT K H p ys) ∧ ∀ l, H l = none → Q (.ref l) (upd H l (.lst ys))) := by subst hK; exact call_list_of
theorem call_isiK (hK : X.K = K := by rfl) : CallR X (.builtin "isinstance") (rIsi K) := by subst hK; exact call_isi
theorem mt_joinK (hK : X.K = K := by rfl) : MtR X "str.join" (rJoin K) := by subst hK; exact mt_join
theorem sl_listK (hK : X.K = K := by rfl) : SlR X (rSlL K) := by subst hK; exact sl_list
theorem pi_listK {l : Expr} {tl : TE} (hl : PE X l tl) (hK : X.K = K := by rfl) : PI X tg l (iList K tl) := by subst hK; exact pi_list hl
variable {o e : Expr} {es : List Expr} {to : TE} {t : TA} {name : Str} {apos cpos : Pos} {T id : String} {r : V → List V → Hp → VK → Prop}
theorem pe_bmK (pa : PlainAttrs T) (slot : Slot T name id) (hty : typeOf (.builtin id) = pure (.type "method_descriptor")) (hm : MtR X id r) (ho : PE X o to) (ha : PA X (e :: es) t)
    (hbase : attributeBase o name X.env (eval o X.env) = eval o X.env := by rfl)
    (hfew : ((backTo cpos (starEach (e :: es) X.env)).all (fun x => !x.1) && (backToKw cpos (keywordEach [] X.env)).all (fun x => x.1.isSome)
      && decide ((e :: es).length + ([] : List Keyword).length + (if ([] : List Keyword).isEmpty then 0 else 1) < 30)) = true := by rfl)
    (hline : (apos.endLine == cpos.line) = true := by rfl) (hs : starEach (e :: es) X.env = (false, eval e X.env) :: starEach es X.env := by rfl) (hplain : (backTo cpos (starEach es X.env)).any (·.1) = false := by rfl) (hK : X.K = K := by rfl) :
    PE X (.Call (.Attribute o name apos) (e :: es) [] cpos) (tBM K T r to t) := by
  subst hK
  exact pe_bm pa slot hty hm ho ha hbase hfew hline hs hplain
end
end L2

set_option Elab.async false
set_option linter.all false
set_option maxRecDepth 100000
namespace L2
open PySem PySem.Spec PyProof.Rows

/-! ### an exception of an own class, on its way through the frames: its whole record is known but for where its trace stands -/
abbrev exO (C t : Addr) (tb : Value) : Obj := { cls := .ref C, data := .fields #[.ref t, tb, .none, .none, .bool false, .none] }
/-- B: all that stood at the raise but the frames; fl: what the newest entry of the trace says of the flight -/
structure Fx (B : Heap) (l : List Env) (e C t : Addr) (fl : Value) (h : Heap) : Prop where
  st : B.StaysIn h
  ne : B.get? e = none
  fr : h.FunFrames B l
  ob : ∃ (T : Addr) (oT : Obj) (ts : Array Value), h.get? e = some (exO C t (.ref T)) ∧ B.get? T = none ∧ T ≠ e ∧ h.get? T = some oT ∧ oT.data = .fields ts ∧ ts[3]? = some fl
section
variable {M : Model} {A : Around} {E : Value → Shared → Prop} {s : Shared} {B : Heap} {env : Env} {l : List Env} {e C t L : Addr}
end
end L2

set_option Elab.async false
set_option linter.all false
set_option maxRecDepth 100000
namespace L2
open PySem PySem.Spec PyProof.Rows

section
variable {M : Model} {A : Around} {E : Value → Shared → Prop} {s : Shared} {B : Heap} {env : Env} {l : List Env} {e C t L : Addr}
end

/-! ### what an exception leaves behind: B (all but the frames) holds the abstract heap -/
structure Bk (P : Program) (w : World) (outer : List Env) (H : Hp) (h : Heap) (H' : Hp) (B h' : Heap) : Prop where
  ok : HOk P w H' B
  keep : ∀ b o, h.get? b = some o → H b = none → b ∉ frs outer → B.get? b = some o
  slot : ∀ b o, h.get? b = some o → b ∈ frs outer → ∃ sl, h'.get? b = some { o with slots := sl }
  free : ∀ b o, h.get? b = some o → H b = none → H' b = none
  there : ∀ b o, h.get? b = some o → b ∉ frs outer → ∃ o', B.get? b = some o'
  tups : ∀ b xs, H b = some (.tup xs) → H' b = some (.tup xs)
  frzs : ∀ b o u, H b = some (.frz o u) → H' b = some (.frz o u)
  tbls : ∀ b ps, H b = some (.tbl ps) → ∃ more, H' b = some (.tbl (ps ++ more))
/-- behind a call that raised -/
def CX1 (P : Program) (w : World) : CXT := fun outer H s E e s' => ∃ ea C t H' B, e = .ref ea ∧ Fx B outer ea C t .none s'.heap ∧ s'.os = s.os ∧ AllBare s'.gens ∧ Bk P w outer H s.heap H' B s'.heap ∧ E (.ref C) none H'
/-- how an exception lies in a body -/
inductive Fly (B : Heap) (l : List Env) (L ea C t : Addr) (h : Heap) : Prop where
  | new (st : B.StaysIn h) (ne : B.get? ea = none) (fr : h.FunFrames B l) (ob : h.get? ea = some (exO C t .none))
  | came (x : Fx B l ea C t .none h)
  | seen (x : Fx B l ea C t (rawInt L) h)
def FlX (X : Cx) (E : XK) : Value → Shared → Prop := fun e s' => ∃ ea C t H' B, e = .ref ea ∧ Fly B X.stack X.env.locals ea C t s'.heap ∧ s'.os = X.s₀.os ∧ AllBare s'.gens ∧ Bk X.prog X.w X.outer X.H₀ X.s₀.heap H' B s'.heap ∧ E (.ref C) none H'
/-- a body, not a comprehension's block -/
structure Body (X : Cx) : Prop where
  stack : X.stack = X.env :: X.outer
  frame : X.env.frame = some X.env.locals
  ex : X.ex = []

section
variable {X : Cx} {pins : List (Addr × Obj)} {σ : St} {H : Hp} {s s' : Shared} {E : XK} {e : Value}
end
end L2

set_option Elab.async false
set_option linter.all false
set_option maxRecDepth 100000
namespace L2
open PySem PySem.Spec PyProof.Rows

/-! ### own exception classes -/
def mroK (K : PySem.W.Frag) (C : Addr) : List Value := match K.lookup C with
  | some ⟨_, _, .cls cd, _⟩ => cd.mro
  | _ => []
/-! ### raise C(e, ..) -/
def tRaise (C : Addr) (E : XK) (t : TA) : TS := fun _ σ H => t σ H fun vs H1 => vs.length ≤ sizeLine ∧ E (.ref C) none H1
section
variable {X : Cx} {x : Str} {C : Addr} {bmB bmN : List Value} {B Bn nid nid' iid iid' : String} {E : XK} {e : Expr} {es : List Expr} {t : TA} {np cpos pos : Pos}
end

/-! ### a def whose exceptions matter -/
abbrev cx1 (P : Program) (w : World) (K : PySem.W.Frag) (mg : Str → Option Value) (base : Heap) (N : List Str) (qual : Str) (scope : Scope) (f : Addr) (cd : Value) (A : Around) (outer : List Env) (s : Shared) (H : Hp) (E : XK) : Cx :=
  (cxOf (CX1 P w) P w K mg base N qual scope f cd A outer s H E).wish (FlX (cxOf (CX1 P w) P w K mg base N qual scope f cd A outer s H E) E)
section
variable {P : Program} {w : World} {K : PySem.W.Frag} {mg : Str → Option Value} {base : Heap}
end
/-! ### an expression that may raise, tried -/
def PEX (X : Cx) (e : Expr) (t : XK → TE) : Prop := ∀ (pins : List (Addr × Obj)) (s : Shared) (σ : St) (H : Hp) (Q : VK) (E : XK), Inv X pins σ H s → t E σ H Q →
  wpAny (model X.prog X.w) X.A (eval e X.env) (EP X pins σ Q) (fun ex s' => ∃ H1 s1, Inv X pins σ H1 s1 ∧ CX1 X.prog X.w X.stack H1 s1 E ex s') s
section
variable {X : Cx} {k : Nat} {f C : Addr} {fd : FuncData} {ps : List Str} {sp : Sp} {dvs : List V} {ds : List Value} {x m : Str} {p pos apos : Pos} {e o : Expr} {es : List Expr} {ta : TE} {t : TA}
end
end L2

set_option Elab.async false
set_option linter.all false
set_option maxRecDepth 100000
namespace L2
open PySem PySem.Spec PyProof.Rows

/-! ### an exception that was caught, as a tracked thing -/
def exH (C a : Addr) : HO := .ext fun h => ∃ t tb, h.get? a = some (exO C t tb)
section
variable {X : Cx} {pins : List (Addr × Obj)} {σ : St} {H H' : Hp} {s s' : Shared} {B h2 : Heap} {ea C t : Addr} {fl : Value}
/-! ### the handler's context -/
abbrev Cx.hdl (X : Cx) (e : Addr) : Cx := { X with A := X.A.mark (some (.ref e)), calm := false, xe := fun _ _ => False }
end
end L2

set_option Elab.async false
set_option linter.all false
set_option maxRecDepth 100000
namespace L2
open PySem PySem.Spec PyProof.Rows

section
variable {M : Model} {A : Around} {E : Value → Shared → Prop} {h : Heap} {g : Array GenState} {d : Drawn} {t : Nat} {os : OsState}
end

/-! ### a statement that may raise, tried: where it raises the names are as they were -/
abbrev WX (X : Cx) (pins : List (Addr × Obj)) (σ : St) (E : XK) : Value → Shared → Prop := fun ex s' => ∃ H1 s1, Inv X pins σ H1 s1 ∧ CX1 X.prog X.w X.stack H1 s1 E ex s'
def PSX (X : Cx) (st : Stmt) (t : XK → TS) : Prop := ∀ (pins : List (Addr × Obj)) (s : Shared) (σ : St) (H : Hp) (D : Ends) (E : XK), Inv X pins σ H s → t E D σ H → wpAny (model X.prog X.w) X.A (exec st X.env) (SP X pins D) (WX X pins σ E) s
def PSXs (X : Cx) (st : List Stmt) (t : XK → TS) : Prop := ∀ (pins : List (Addr × Obj)) (s : Shared) (σ : St) (H : Hp) (D : Ends) (E : XK), Inv X pins σ H s → t E D σ H → wpAny (model X.prog X.w) X.A (execs st X.env) (SP X pins D) (WX X pins σ E) s
section
variable {X : Cx} {e : Expr} {t u : XK → TS} {te : XK → TE} {pos : Pos} {st : Stmt}
/-! ### try: .. except D as n: .. -/
abbrev Ends.un (D : Ends) (j : Nat) : Ends := { nx := fun σ H => D.nx (σ.set j none) H, rt := D.rt, bk := fun σ H => D.bk (σ.set j none) H, ct := fun σ H => D.ct (σ.set j none) H }
/-- the class C is one that D's name catches -/
def Sub (K : PySem.W.Frag) (C D : Addr) : Prop := (∃ bm nid, PySem.W.excIn K C bm nid = true) ∧ (mroK K C).contains (.ref D) = true
def tTry (K : PySem.W.Frag) (Ch : Addr) (j : Nat) (t : XK → TS) (ts : TS) : TS := fun D σ H => t (fun c _ H' => ∃ C, c = .ref C ∧ Sub K C Ch ∧ ∀ ea, H' ea = none → ts (D.un j) (σ.set j (some (.ref ea))) (upd H' ea (exH C ea))) D σ H
end
end L2

set_option Elab.async false
set_option linter.all false
set_option maxRecDepth 100000
namespace L2
open PySem PySem.Spec PyProof.Rows

/-! ### an own exception class that was made of a built-in one: what is asked of its things -/
structure ExC (K : PySem.W.Frag) (C : Addr) : Prop where
  ga : PySem.W.findIn K (.ref C) "__getattribute__" = some (some (.builtin "BaseException.__getattribute__"))
  gt : PySem.W.findIn K (.ref C) "__getattr__" = some none
  cl : PySem.W.findIn K (.ref C) "__class__" = some (some (.builtin "object.__class__"))
  gc : PySem.W.specialIn K (.builtin "object.__class__") "__get__" = some (some (.builtin "getset_descriptor.__get__"))
  tk : PySem.W.takesIn K (.builtin "object.__class__") = some true
  ob : PySem.W.mroIn K C (.type "object") = some true
  be : PySem.W.mroIn K C (.type "BaseException") = some true
  is : (PySem.W.clsIn K C).isSome = true

section
variable {prog : Program} {w : World} {A : Around} {E : Value → Shared → Prop} {s : Shared} {K : PySem.W.Frag} {x C t : Addr} {tb : Value}
end

/-! ### isinstance(e, D) and e.m() of a caught one -/
def rIsX (K : PySem.W.Frag) : List V → Hp → VK → Prop := fun vs H Q => ∃ a C b, H a = some (exH C a) ∧ ExC K C ∧
  ((∃ n, vs = [.ref a, .ty n] ∧ PySem.W.kitOne K (.ref C) (.type n) = some b) ∨ (∃ D, vs = [.ref a, .ref D] ∧ PySem.W.kitOne K (.ref C) (.ref D) = some b)) ∧ Q (.bl b) H
section
variable {X : Cx} {K : PySem.W.Frag}
variable {CX : CXT} {k : Nat} {ps : List Str} {sp : Addr → Sp} {E : XK} {m : Str} {pos apos : Pos} {o : Expr} {ta : TE}
/-- e.m(), the class being known by the heap -/
def tMethX (K : PySem.W.Frag) (m : Str) (sp : Addr → Sp) (E : XK) (ta : TE) : TE := fun σ H Q => ta σ H fun x H1 => ∃ a C, x = .ref a ∧ H1 a = some (exH C a) ∧ sp C [x] H1 Q E
end
end L2

set_option Elab.async false
set_option linter.all false
set_option maxRecDepth 100000
namespace L2
open PySem PySem.Spec PyProof.Rows

/-! ### the refusals of a text: classes under ValueError, each with a called() -/
abbrev vE : List Value := [.type "ValueError", .type "Exception", .type "BaseException", .type "object"]
abbrev vN : String := "ValueError.__new__"
structure Exn (K : PySem.W.Frag) (C : Addr) : Prop where
  q : PySem.W.excIn K C vE vN = true
  c : ExC K C
  ty : PySem.W.typeIn K (.ref C) = some (.type "type")
  ve : PySem.W.mroIn K C (.type "ValueError") = some true
theorem exn_mk {K : PySem.W.Frag} {C : Addr} (q : PySem.W.excIn K C vE vN = true) (ga : PySem.W.findIn K (.ref C) "__getattribute__" = some (some (.builtin "BaseException.__getattribute__"))) (gt : PySem.W.findIn K (.ref C) "__getattr__" = some none)
    (cl : PySem.W.findIn K (.ref C) "__class__" = some (some (.builtin "object.__class__"))) (gc : PySem.W.specialIn K (.builtin "object.__class__") "__get__" = some (some (.builtin "getset_descriptor.__get__"))) (tk : PySem.W.takesIn K (.builtin "object.__class__") = some true)
    (ob : PySem.W.mroIn K C (.type "object") = some true) (be : PySem.W.mroIn K C (.type "BaseException") = some true) (is : PySem.W.isClsIn K C = true) (ty : PySem.W.typeIn K (.ref C) = some (.type "type")) (ve : PySem.W.mroIn K C (.type "ValueError") = some true) : Exn K C :=
  ⟨q, ⟨ga, gt, cl, gc, tk, ob, be, is⟩, ty, ve⟩
section
variable {X : Cx} {CX : CXT} {k : Nat} {C f : Addr} {fd : FuncData} {ps : List Str} {sp : Sp} {E : XK} {m : Str} {pos apos : Pos} {o : Expr} {ta : TE}
/-- e.m(), e of the class C -/
def tMethE (C : Addr) (sp : Sp) (E : XK) (ta : TE) : TE := fun σ H Q => ta σ H fun x H1 => ∃ a, x = .ref a ∧ H1 a = some (exH C a) ∧ sp [x] H1 Q E
end
/-! ### a method of the text -/
def clsBody (s : Stmt) : List Stmt := match s with
  | .ClassDef _ _ _ b _ _ _ _ _ _ _ => b
  | _ => []
structure Mf (K : PySem.W.Frag) (x q : Str) (st : Stmt) (ps : List Str) (C f : Addr) (fd : FuncData) : Prop where
  F : Fun K x q st f fd
  m : Meth K C x f
  b : Binds K fd ps []
theorem kit_ib (K : PySem.W.Frag) : PySem.W.kitOne K (.type "int") (.type "bool") = some false := by
  unfold PySem.W.kitOne PySem.W.kitCls PySem.W.subIn
  rw [if_neg (by simp)]
  show (if _ then _ else _) = _
  rw [if_pos (by decide +kernel)]
  show Option.map (fun x => x.contains (Value.type "bool")) (fastBuiltinMro "int") = some false
  decide +kernel
end L2

set_option Elab.async false
set_option linter.all false
set_option maxRecDepth 100000
namespace L2
open PySem PySem.Spec PyProof.Rows
open Builtin Builtin.Str
/-! ### slices of texts -/
def cutT (u : List Nat) (lo hi : Option Int) : List Nat := (u.drop (HT.sIx u.length 0 lo)).take (HT.sIx u.length u.length hi - HT.sIx u.length 0 lo)
section
variable {X : Cx}
end
end L2

set_option Elab.async false
set_option linter.all false
set_option maxRecDepth 100000
namespace L2
open PySem PySem.Spec PyProof.Rows
theorem vals_ptw : ∀ (xs : List V) (us : List Value), xs.length = us.length → (∀ (i : Nat) x u, xs[i]? = some x → us[i]? = some u → RelV x u) → Vals xs us
  | [], [], _, _ => .nil
  | [], _ :: _, h, _ => by simp at h
  | _ :: _, [], h, _ => by simp at h
  | x :: xs, u :: us, h, p => .cons (p 0 x u rfl rfl) (vals_ptw xs us (by simpa using h) fun i y v e1 e2 => p (i + 1) y v e1 e2)
/-! ### range objects as values, list(range(..)) -/
def rngO (p : Addr) (a b c : Int) : HO := .ext fun h => ∃ t u v, IsRange h p a b c t u v
def rngL (a c : Int) (n : Nat) : List Int := (List.range n).map fun (i : Nat) => a + (i : Int) * c
section
variable {X : Cx} {K : PySem.W.Frag}
theorem laid_rng {pins : List (Addr × Obj)} {σ : St} {H : Hp} {s : Shared} {a b c : Int} {t u v : Tok} {Q : VK} {tk : Nat} (I : Inv X pins σ H s) (q : ∀ p, H p = none → Q (.ref p) (upd H p (rngO p a b c))) :
    EP X pins σ Q (.ref s.heap.objs.size) { s with heap := s.heap.push { cls := .type "range", data := .fields #[.int a t, .int b u, .int c v] }, toks := tk } := by
  have hg : (s.heap.push { cls := .type "range", data := .fields #[.int a t, .int b u, .int c v] }).get? s.heap.objs.size = some { cls := .type "range", data := .fields #[.int a t, .int b u, .int c v] } := Heap.get?_push_size _ rfl
  refine ⟨.ref s.heap.objs.size, _, I.laid (o := rngO s.heap.objs.size a b c) (fun b o e => Heap.get?_push_of_some _ e) (Nat.le_refl _) ?_, rfl, q _ (I.hok.fresh (Nat.le_refl _))⟩
  exact ⟨⟨t, u, v, hg⟩, ⟨_, hg⟩, fun h1 h2 y k => by
    obtain ⟨t', u', v', y⟩ := y
    exact ⟨t', u', v', k _ y⟩⟩
theorem call_rng2 : CallR X (.type "range") (fun xs H Q => ∃ a b, xs = [.int a, .int b] ∧ ∀ p, H p = none → Q (.ref p) (upd H p (rngO p a b 1))) := by
  intro pins s σ H xs us Q I rv h
  obtain ⟨a, b, rfl, q⟩ := h
  obtain ⟨u1, u2, rfl, r1, r2⟩ := rv.two
  obtain ⟨t, rfl⟩ := r1
  obtain ⟨t', rfl⟩ := r2
  exact call_range_2 (laid_rng I q)
/-! ### int(text), sum(list) -/
theorem call_sumI (hK : X.K = K := by rfl) (hc : X.calm = true := by rfl) : CallR X (.builtin "sum") (fun xs H Q => ∃ a ns, xs = [.ref a] ∧ SqL K H a (vI ns) ∧ Q (.int ns.sum) H) := by
  subst hK
  intro pins s σ H xs us Q I rv h
  obtain ⟨a, ns, rfl, hq, q⟩ := h
  obtain ⟨u, rfl, ru⟩ := rv.one
  cases ru
  obtain ⟨its, r, pl, hl⟩ := I.list hq
  have hi : IntsAre its ns := intsAre_of r
  obtain ⟨xs, hx⟩ := hi.allInts.items
  have hL : s.heap.IsList a (intItems xs) := by rw [← hx]; exact pl.isList
  refine sum_intListG (I.ok.hd hc) hL fun h' tk t' hk => ?_
  have e1 : xs.toList.map (·.1) = ns := by
    have z : numsOf its.toArray.toList = ns := hi.numsOf
    rw [hx, nums_intItems] at z
    exact z
  rw [show preSum (numAt xs) xs.size = ns.sum by rw [preSum_eq, List.take_of_length_le (by simp), e1]]
  exact ⟨.int ns.sum, H, I.kept hk, ⟨t', rfl⟩, q⟩
/-! ### a sign among signs -/
end
end L2

set_option Elab.async false
set_option linter.all false
set_option maxRecDepth 100000
namespace L2
open PySem PySem.Spec PyProof.Rows
/-! ### range(a, b) of ints of any size -/
section
variable {X : Cx} {tg : Expr}
def iRng2L (ta : TA) : TI := fun σ H R => ta σ H fun vs H1 => ∃ i j : Int, vs = [.int i, .int j] ∧ R (Itr i (j - i).toNat) H1
end
section
variable {X : Cx}
/-! ### a * b of ints of up to 250 bits -/
/-! ### text * n -/
theorem rep_fold (l : List Nat) : ∀ (k : Nat) (acc : List Nat), List.foldl (fun x1 x2 => x1 ++ x2) acc.toArray (List.replicate k l.toArray) = (acc ++ (List.replicate k l).flatten).toArray
  | 0, acc => by simp
  | k + 1, acc => by
    have e : acc.toArray ++ l.toArray = (acc ++ l).toArray := by simp
    have e2 : (acc ++ l) ++ (List.replicate k l).flatten = acc ++ (List.replicate (k + 1) l).flatten := by
      rw [List.replicate_succ, List.flatten_cons, List.append_assoc]
    rw [← e2, ← rep_fold l k (acc ++ l), ← e, List.replicate_succ, List.foldl_cons]
def rRepS : R2 := fun x y H Q => ∃ u n, x = .str (tx u) ∧ y = .int n ∧ 0 ≤ n ∧ n ≤ 1000000 ∧ u.length * n.toNat ≤ sizeLine ∧ Q (.str (tx (List.replicate n.toNat u).flatten)) H
theorem op_repS : OpR X (binaryOp .Mult) rRepS := by
  intro pins s σ H x y v z Q I rx ry h
  obtain ⟨u, n, rfl, rfl, h0, h1, h2, q⟩ := h
  obtain ⟨t, rfl⟩ := rx
  obtain ⟨t', rfl⟩ := ry
  have hsz : sizeLine = 16777216 := sizeLine_eq
  have hlen : (tx u).length = u.length := tx_len u
  refine P.mul_str ?_ (fun c1 c2 => ?_) (fun c1 c2 => ?_) ?_
  · rw [decide_eq_false (by omega), decide_eq_false (by omega)]
    rfl
  · rw [hlen]
    have hn : 0 < n := by omega
    have hm : (u.length : Int) * n ≤ 16777216 := by
      have e : n = (n.toNat : Int) := by omega
      rw [e, ← Int.natCast_mul]
      omega
    have : (u.length : Int) ≤ (2 ^ 63 - 1) / n := (Int.le_ediv_iff_mul_le hn).mpr (by omega)
    omega
  · rw [hlen]
    exact decide_eq_false (by omega)
  · split
    · next c =>
      have e : n = 0 := by omega
      rw [e] at q
      exact ⟨by decide, .str (tx []), H, I.tok _, ⟨_, rfl⟩, q⟩
    · split
      · next c =>
        have e : tx (List.replicate n.toNat u).flatten = tx u := by
          simp only [Bool.or_eq_true, beq_iff_eq] at c
          rcases c with c | c
          · rw [c]; simp
          · rw [hlen] at c
            rw [List.eq_nil_of_length_eq_zero c]
            simp
        rw [e] at q
        exact ⟨.str (tx u), H, I, ⟨_, rfl⟩, q⟩
      · have hf : (⟨(List.replicate n.toNat (tx u).cps).foldl (· ++ ·) #[]⟩ : Str) = tx (List.replicate n.toNat u).flatten := by
          have := rep_fold u n.toNat []
          simp only [List.nil_append] at this
          exact congrArg Str.mk this
        rw [hf]
        refine ⟨?_, .str (tx (List.replicate n.toNat u).flatten), H, I.tok _, ⟨_, rfl⟩, q⟩
        rw [tx_len, len_rep, Nat.mul_comm]
        exact h2
/-! ### text.count(sign) -/
theorem occ_run (x : Str) (c limit : Nat) : ∀ (k i : Nat) (acc : Array Nat) (free : Nat), free ≤ i → acc.size + k ≤ limit →
    (forIn (List.range' i k) (acc, free) (StrLaws.occBody x ⟨#[c]⟩ x.length limit)).run.fst.size = acc.size + ((x.cps.toList.drop i).take k).count c
  | 0, i, acc, free, _, _ => by simp
  | k + 1, i, acc, free, hf, hl => by
    rw [List.range'_succ, List.forIn_cons]
    by_cases hc : x.cps.toList[i]? = some c
    · have h1 := (StrLaws.subAt_one x c i).mpr hc
      have e : StrLaws.occBody x ⟨#[c]⟩ x.length limit i (acc, free) = pure (ForInStep.yield (acc.push i, i + (⟨#[c]⟩ : Str).length)) := by
        unfold StrLaws.occBody
        rw [if_pos ⟨⟨⟨by show acc.size < limit; omega, hf⟩, h1.1⟩, h1.2⟩]
      rw [e]
      have ih := occ_run x c limit k (i + 1) (acc.push i) (i + (⟨#[c]⟩ : Str).length) (Nat.le_refl _) (by rw [Array.size_push]; omega)
      have hd : x.cps.toList.drop i = c :: x.cps.toList.drop (i + 1) := by
        obtain ⟨hlt, he⟩ := List.getElem?_eq_some_iff.mp hc
        rw [List.drop_eq_getElem_cons hlt, he]
      rw [hd, List.take_succ_cons, List.count_cons_self]
      rw [Array.size_push] at ih
      refine Eq.trans ih ?_
      omega
    · have h1 : ¬ (i + (⟨#[c]⟩ : Str).length ≤ x.length ∧ Builtin.Str.subAt x ⟨#[c]⟩ i = true) := fun z => hc ((StrLaws.subAt_one x c i).mp z)
      have e : StrLaws.occBody x ⟨#[c]⟩ x.length limit i (acc, free) = pure (ForInStep.yield (acc, free)) := by
        unfold StrLaws.occBody
        rw [if_neg fun z => h1 ⟨z.1.2, z.2⟩]
      rw [e]
      have ih := occ_run x c limit k (i + 1) acc free (by omega) (by omega)
      refine Eq.trans ih ?_
      congr 1
      by_cases hlt : i < x.cps.toList.length
      · rw [List.drop_eq_getElem_cons hlt, List.take_succ_cons, List.count_cons_of_ne]
        intro z
        exact hc (by rw [List.getElem?_eq_getElem hlt]; exact congrArg some z)
      · rw [List.drop_eq_nil_of_le (by omega), List.drop_eq_nil_of_le (by omega)]
        simp
theorem count_one (l : List Nat) (c : Nat) : (Builtin.Str.occurrences (tx l) ⟨#[c]⟩ 0 (tx l).length ((tx l).length + 1)).length = l.count c := by
  rw [StrLaws.occ_eq]
  have := occ_run (tx l) c ((tx l).length + 1) ((tx l).length + 1 - 0) 0 #[] 0 (Nat.le_refl _) (by simp)
  rw [Array.length_toList, this, tx_list, tx_len]
  simp [List.take_of_length_le]
def rCount : V → List V → Hp → VK → Prop := fun x vs H Q => ∃ u c, x = .str (tx u) ∧ vs = [.str ⟨#[c]⟩] ∧ Q (.int (u.count c : Nat)) H
theorem mt_count : MtR X "str.count" rCount := by
  intro pins s σ H x vs v us Q I rx rv h
  obtain ⟨u, c, rfl, rfl, q⟩ := h
  obtain ⟨t, rfl⟩ := rx
  obtain ⟨u', rfl, ru⟩ := rv.one
  obtain ⟨t', rfl⟩ := ru
  refine call_gives F.slot_str_count (typeIs_str s _ t) F.entry_str_count (F.args_str_count_2 _ _) (gives_str_count _ _ t t') ?_
  rw [count_one]
  exact ⟨.int _, H, I.tok _, ⟨_, rfl⟩, q⟩
end
end L2

set_option Elab.async false
set_option linter.all false
set_option maxRecDepth 100000
namespace L2
open PySem PySem.Spec PyProof.Rows
/-! ### isinstance(e, (C, D, ..)) of a caught one -/
section
variable {X : Cx} {K : PySem.W.Frag}
def rIsXT (K : PySem.W.Frag) : List V → Hp → VK → Prop := fun vs H Q => ∃ (a C p : Addr) (Ds : List Addr) (b : Bool), vs = [.ref a, .ref p] ∧ H a = some (exH C a) ∧ ExC K C ∧ H p = some (.tup (Ds.map V.ref)) ∧ PySem.W.kitAny K (.ref C) (Ds.map Value.ref) = some b ∧ Q (.bl b) H
end
end L2

set_option Elab.async false
set_option linter.all false
set_option maxRecDepth 100000
namespace L2
open PySem PySem.Spec PyProof.Rows
section
variable {X : Cx} {K : PySem.W.Frag}
/-! ### != of two lists of flat values -/
def rNeL (K : PySem.W.Frag) : R2 := fun x y H Q => ∃ p q xs ys, x = .ref p ∧ y = .ref q ∧ SqL K H p xs ∧ SqL K H q ys ∧ xs.all flatV = true ∧ ys.all flatV = true ∧ Q (.bl (!eqL xs ys)) H
theorem op_neLK (hu : X.A.units < cLine) (hK : X.K = K := by rfl) : OpR X (compareOp .NotEq) (rNeL K) := by
  subst hK
  intro pins s σ H x y v u Q I rx ry h
  obtain ⟨p, q, xs, ys, rfl, rfl, hx, hy, fx, fy, k⟩ := h
  cases rx
  cases ry
  obtain ⟨its, r, pl, hz⟩ := I.list hx
  obtain ⟨its2, r2, pl2, hz2⟩ := I.list hy
  have l1 := r.length
  have l2 := r2.length
  by_cases hl : xs.length = ys.length
  · refine SeqAt.RcNeAt.lists (e := fun j => eqV (xs.getD j .non) (ys.getD j .non)) pl.isList pl2.isList (by simp only [List.size_toArray]; omega) hu (fun j h1 h2 => ?_) _ _ _ _ ?_
    · have j1 : j < xs.length := by simp only [List.size_toArray] at h1; omega
      have j2 : j < ys.length := by omega
      obtain ⟨w1, e1, q1⟩ := r.get (i := j) (x := xs[j]) (by simp [j1])
      obtain ⟨w2, e2, q2⟩ := r2.get (i := j) (x := ys[j]) (by simp [j2])
      have g1 : its.toArray[j] = w1 := by
        have : its.toArray[j]? = some w1 := by simpa using e1
        exact Option.some.inj ((Array.getElem?_eq_getElem h1).symm.trans this)
      have g2 : its2.toArray[j] = w2 := by
        have : its2.toArray[j]? = some w2 := by simpa using e2
        exact Option.some.inj ((Array.getElem?_eq_getElem h2).symm.trans this)
      rw [g1, g2]
      have d1 : xs.getD j .non = xs[j] := by simp [List.getD, j1]
      have d2 : ys.getD j .non = ys[j] := by simp [List.getD, j2]
      show SeqAt.EqAt _ _ _ _ (eqV (xs.getD j .non) (ys.getD j .non))
      rw [d1, d2]
      exact eqAt_V q1 q2 (List.all_eq_true.mp fx _ (List.getElem_mem j1)) (List.all_eq_true.mp fy _ (List.getElem_mem j2))
    · refine ⟨.bl (!eqL xs ys), H, I, ?_, k⟩
      show Value.bool _ = Value.bool _
      rw [List.size_toArray, ← l1, eqL_range hl]
  · refine SeqAt.RcNeAt.lists_lengths pl.isList pl2.isList (by simp only [List.size_toArray, bne_iff_ne]; omega) hu _ _ _ _ ?_
    exact ⟨.bl (!eqL xs ys), H, I, by rw [eqL_len hl]; rfl, k⟩
end
end L2

set_option Elab.async false
set_option linter.all false
set_option maxRecDepth 100000
namespace L2
open PySem PySem.Spec PyProof.Rows
theorem Room.units100 {k : Nat} {A : Around} (r : Room k A) : A.units + 100 < cLine := by have := r.un; omega
/-! ### lists of lists with the same contents -/
def SamL (K : PySem.W.Frag) (H : Hp) (p q : Addr) : Prop := ∃ as bs : List Addr, SqL K H p (as.map V.ref) ∧ SqL K H q (bs.map V.ref) ∧ as.length = bs.length ∧
  ∀ (i : Nat) (a b : Addr), as[i]? = some a → bs[i]? = some b → ∃ xs : List V, xs.all flatV = true ∧ SqL K H a xs ∧ SqL K H b xs
section
variable {X : Cx} {K : PySem.W.Frag}
def rNeLL (K : PySem.W.Frag) : R2 := fun x y H Q => ∃ p q, x = .ref p ∧ y = .ref q ∧ SamL K H p q ∧ Q (.bl false) H
def rEqLL (K : PySem.W.Frag) : R2 := fun x y H Q => ∃ p q, x = .ref p ∧ y = .ref q ∧ SamL K H p q ∧ Q (.bl true) H
/-! ### a number in a list of numbers -/
end
end L2

set_option Elab.async false
set_option linter.all false
set_option maxRecDepth 100000
namespace L2
open PySem PySem.Spec PyProof.Rows
def vB (bs : List Bool) : List V := bs.map V.bl
theorem vB_len (bs : List Bool) : (vB bs).length = bs.length := by unfold vB; rw [List.length_map]
theorem vB_app (bs : List Bool) (b : Bool) : vB bs ++ [.bl b] = vB (bs ++ [b]) := by unfold vB; rw [List.map_append]; rfl
theorem vals_bools {bs : List Bool} : ∀ {us : List Value}, Vals (bs.map V.bl) us → us = bs.map Value.bool := by
  induction bs with
  | nil => intro us r; rw [List.map_nil] at r; cases r; rfl
  | cons n ns ih =>
    intro us r
    rw [List.map_cons] at r
    cases r with
    | cons r1 r2 =>
      cases r1
      rw [ih r2]
      rfl
section
variable {X : Cx} {K : PySem.W.Frag}
/-! ### x is not False -/
end
end L2

set_option Elab.async false
set_option linter.all false
set_option maxRecDepth 100000
namespace L2
open PySem PySem.Spec PyProof.Rows
section
variable {X : Cx} {K : PySem.W.Frag} {o e value : Expr} {f : Str} {pos pos' tpos : Pos} {ta tv : TE} {st : Stmt} {t : TS}
end
/-! ### own classes -/
structure Own (K : PySem.W.Frag) (C f : Addr) : Prop where
  c : Cls K C
  m : Mk K C f
end L2

set_option Elab.async false
set_option linter.all false
set_option maxRecDepth 100000
namespace L2
open PySem PySem.Spec PyProof.Rows
theorem all_range (bs : List Bool) : (List.range bs.length).all (fun i => bs.getD i false) = bs.all id := by
  rw [Bool.eq_iff_iff, List.all_eq_true, List.all_eq_true]
  constructor
  · rintro h b hb
    obtain ⟨i, hi, e⟩ := List.getElem_of_mem hb
    have := h i (List.mem_range.mpr hi)
    rw [List.getD_eq_getElem?_getD, List.getElem?_eq_getElem hi, e] at this
    exact this
  · rintro h i hi
    have hl := List.mem_range.mp hi
    rw [List.getD_eq_getElem?_getD, List.getElem?_eq_getElem hl]
    exact h _ (List.getElem_mem hl)
section
variable {X : Cx} {K : PySem.W.Frag}
theorem call_allB (hK : X.K = K := by rfl) (hc : X.calm = true := by rfl) : CallR X (.builtin "all") (fun xs H Q => ∃ a bs, xs = [.ref a] ∧ SqL K H a (vB bs) ∧ Q (.bl (bs.all id)) H) := by
  subst hK
  intro pins s σ H xs us Q I rv h
  obtain ⟨a, bs, rfl, hq, q⟩ := h
  obtain ⟨u, rfl, ru⟩ := rv.one
  cases ru
  obtain ⟨its, r, pl, hl⟩ := I.list hq
  have ei := vals_bools (bs := bs) r
  subst ei
  obtain ⟨o, eo, _⟩ := id pl.isList
  have alt := Heap.lt_size eo
  refine call_all_walk (wpAny_pyIter_list pl.isList ?_)
  refine ⟨_, _, _, _, _, _, fun i => bs.getD i false, rfl, Walks.list (A := X.A.in1) (I.ok.hd hc) _ a (Nat.ne_of_lt alt) (bs.map Value.bool).toArray, ⟨⟨_, Heap.get?_push_size _ rfl, rfl, rfl⟩, pl.isList.push _⟩, ?_, fun h' tk hk => ?_⟩
  · intro i v s' Q' E' hP hQ
    have hv : (bs.map Value.bool)[i]? = some v := by simpa using hP
    rw [List.getElem?_map] at hv
    cases e : bs[i]? with
    | none => rw [e] at hv; cases hv
    | some b =>
      rw [e] at hv
      cases hv
      have eb : bs.getD i false = b := by rw [List.getD_eq_getElem?_getD, e]; rfl
      have hQ' : Q' (bs.getD i false) s' := hQ
      rw [eb] at hQ'
      exact wpAny_truthy_bool hQ'
  · have e1 : (List.range ((bs.map Value.bool).toArray).size).all (fun i => bs.getD i false) = bs.all id := by
      rw [List.size_toArray, List.length_map]
      exact all_range bs
    rw [e1]
    refine ⟨.bl (bs.all id), H, I.kept (t' := tk) (fun b ob e => hk b ob ?_ (Heap.get?_push_of_some _ e)), rfl, q⟩
    have lt := Heap.lt_size e
    intro hm
    rw [List.mem_singleton.mp hm] at lt
    exact Nat.lt_irrefl _ lt
theorem call_rng1 : CallR X (.type "range") (fun xs H Q => ∃ b, xs = [.int b] ∧ ∀ p, H p = none → Q (.ref p) (upd H p (rngO p 0 b 1))) := by
  intro pins s σ H xs us Q I rv h
  obtain ⟨b, rfl, q⟩ := h
  obtain ⟨u1, rfl, r1⟩ := rv.one
  obtain ⟨t, rfl⟩ := r1
  exact call_range_1 (laid_rng I q)
end
end L2

set_option Elab.async false
set_option linter.all false
set_option maxRecDepth 100000
namespace L2
open PySem PySem.Spec PyProof.Rows
/-! ### several records turned at once -/
theorem Inv.turnedL {X : Cx} {pins : List (Addr × Obj)} {σ : St} {H : Hp} {s : Shared} {h' : Heap} {t' : Nat} {its : List Addr} (I : Inv X pins σ H s)
    (k : ∀ b o, b ∉ its → s.heap.get? b = some o → h'.get? b = some o) (hf : ∀ b ∈ its, FpOk X pins H b) : Inv X pins σ H { s with heap := h', toks := t' } := by
  have nit : ∀ b u, H b = some u → b ∉ its := fun b u e z => by
    have := (hf b z).1
    rw [this] at e
    cases e
  have nL : X.env.locals ∉ its := fun z => (hf _ z).2.1 rfl
  refine I.step (g' := s.gens) (d' := s.drawn) (ch := its) (fun b hb => ?_) (fun b o _ _ hc e _ => k b o hc e) (fun b o _ _ hc e _ => ⟨o.slots, k b o hc e⟩) (fun _ _ _ _ n => n)
    (fun b o hc e => ⟨o, k b o hc e⟩) (fun _ _ e => e) (fun _ _ _ e => e) (fun b ps e => ⟨#[], by rw [e]; simp⟩) (fun m hm => ?_) (fun b u e => ?_) I.bare
  · obtain ⟨_, h2, _, h4, h5, h6⟩ := hf b hb
    exact ⟨h4, h2, h5, h6⟩
  · obtain ⟨o, es, ep, ho, r⟩ := hm
    exact ⟨o, es, ep, k _ o nL ho, r⟩
  · refine (I.hok b u e).stay (fun c v hc q => k c v ?_ q) (fun _ q => q) fun _ _ q => q
    rcases hc with z | z
    · rw [z]; exact nit b u e
    · exact nit c _ z
/-! ### zip(a, b) of two lists, its pairs unpacked -/
def Itz (K : PySem.W.Frag) (a b : Addr) : It where
  go := fun i H => ∃ xs ys x y, SqL K H a xs ∧ SqL K H b ys ∧ xs[i]? = some x ∧ ys[i]? = some y
  yld := fun i H x H' => ∃ T, x = .ref T ∧ H T = none ∧ ∀ xs ys u v, SqL K H a xs → SqL K H b ys → xs[i]? = some u → ys[i]? = some v → H' = upd H T (.tup [u, v])
  stop := fun i H => ∃ xs ys, SqL K H a xs ∧ SqL K H b ys ∧ (xs.length ≤ i ∨ ys.length ≤ i)
def ZipSt (z TI TO i1 i2 a b : Addr) (i : Nat) (h : Heap) : Prop := IsZip h z TI TO .none ∧ IsPair h TI (.ref i1) (.ref i2) ∧ (∃ p q, IsPair h TO p q) ∧ h.IsListIter i1 a i ∧ h.IsListIter i2 b i
theorem turn_zip {P : Program} {w : World} {K : PySem.W.Frag} {es : List Expr} {kx : Nat} {tp : Pos} {z TI TO i1 i2 a b : Addr} (D : ZipApart z TI TO i1 i2 a b) :
    Turn P w K (.Tuple es kx tp) (Itz K a b) [z, TI, TO, i1, i2] z (ZipSt z TI TO i1 i2 a b) where
  mem := by simp
  obj := fun i h st c hc => by
    obtain ⟨s1, s2, ⟨p, q, s3⟩, s4, s5⟩ := st
    simp only [List.mem_cons, List.not_mem_nil, or_false] at hc
    rcases hc with e | e | e | e | e
    · subst e; exact ⟨_, s1, fun v z => by cases (show Data.fields _ = Data.cell v from z)⟩
    · subst e; exact ⟨_, s2, fun v z => by cases (show Data.seq _ _ = Data.cell v from z)⟩
    · subst e; exact ⟨_, s3, fun v z => by cases (show Data.seq _ _ = Data.cell v from z)⟩
    · subst e; obtain ⟨o, e, _, d⟩ := s4; exact ⟨o, e, fun v z => by rw [d] at z; cases z⟩
    · subst e; obtain ⟨o, e, _, d⟩ := s5; exact ⟨o, e, fun v z => by rw [d] at z; cases z⟩
  keep := fun i h h' st k => by
    obtain ⟨s1, s2, ⟨p, q, s3⟩, s4, s5⟩ := st
    exact ⟨k _ (by simp) _ s1, k _ (by simp) _ s2, ⟨p, q, k _ (by simp) _ s3⟩, s4.at fun o e => k _ (by simp) o e, s5.at fun o e => k _ (by simp) o e⟩
  item := by
    intro X hP hw hK hc i pins s σ H E I hf st hg
    subst hP hw hK
    obtain ⟨xs, ys, x, y, hq1, hq2, hx, hy⟩ := hg
    obtain ⟨its1, rv1, p1, _⟩ := I.list hq1
    obtain ⟨its2, rv2, p2, _⟩ := I.list hq2
    obtain ⟨u, hu, ru⟩ := rv1.get hx
    obtain ⟨v, hv, rw'⟩ := rv2.get hy
    obtain ⟨s1, s2, ⟨p, q, s3⟩, s4, s5⟩ := st
    refine wpAny_pyNext_zip_item D s1 s2 s3 s4 s5 p1.isList p2.isList (x := u) (y := v) (by simpa using hu) (by simpa using hv) fun h1 z1 t1 j1 j2 hT hsz kk => ?_
    refine ⟨_, rfl, wpAny_letOwnedTupleGo_zip z1 fun h2 z2 sb => ?_⟩
    have zl : z < s.heap.objs.size := Heap.lt_size s1
    have TIl : TI < s.heap.objs.size := Heap.lt_size s2
    have TOl : TO < s.heap.objs.size := Heap.lt_size s3
    have i1l : i1 < s.heap.objs.size := by obtain ⟨_, e, _⟩ := s4; exact Heap.lt_size e
    have i2l : i2 < s.heap.objs.size := by obtain ⟨_, e, _⟩ := s5; exact Heap.lt_size e
    have up : ∀ c o, c ≠ z → h1.get? c = some o → h2.get? c = some o := fun c o c1 e => (sb.2 c c1).trans e
    have hTn : H s.heap.objs.size = none := I.hok.fresh (Nat.le_refl _)
    have I1 : Inv X pins σ (upd H s.heap.objs.size (.tup [x, y])) { s with heap := s.heap.push { cls := .type "tuple", data := .seq #[u, v] }, toks := s.toks } :=
      I.laid (fun c o e => Heap.get?_push_of_some _ e) (Nat.le_refl _) ⟨by show 2 ≤ sizeLine; decide, [u, v], .cons ru (.cons rw' .nil), ⟨_, Heap.get?_push_size _ rfl, rfl, _, rfl⟩⟩
    have fp2 : ∀ c ∈ [z, TI, TO, i1, i2], FpOk X pins (upd H s.heap.objs.size (.tup [x, y])) c := fun c hc => by
      obtain ⟨f0, f⟩ := hf c hc
      refine ⟨?_, f⟩
      have lt : c < s.heap.objs.size := by
        simp only [List.mem_cons, List.not_mem_nil, or_false] at hc
        rcases hc with e | e | e | e | e <;> subst e <;> assumption
      rw [upd_ne (Nat.ne_of_lt lt)]
      exact f0
    have I2 : Inv X pins σ (upd H s.heap.objs.size (.tup [x, y])) { s with heap := h2 } := by
      refine Inv.turnedL (s := { s with heap := s.heap.push { cls := .type "tuple", data := .seq #[u, v] }, toks := s.toks }) (h' := h2) (t' := s.toks) (its := [z, TI, TO, i1, i2]) I1 (fun c o hc e => ?_) fp2
      simp only [List.mem_cons, List.not_mem_nil, or_false, not_or] at hc
      refine up c o hc.1 ?_
      by_cases hcs : c = s.heap.objs.size
      · subst hcs
        have e' : (s.heap.push { cls := .type "tuple", data := .seq #[u, v] }).get? s.heap.objs.size = some { cls := .type "tuple", data := .seq #[u, v] } := Heap.get?_push_size _ rfl
        rw [e'] at e
        cases e
        exact hT
      · have e' : s.heap.get? c = some o := by
          rw [← e]
          exact (Heap.get?_push_ne _ _ _ hcs).symm
        exact kk c o hc.1 hc.2.2.1 hc.2.2.2.1 hc.2.2.2.2 e'
    refine ⟨.ref s.heap.objs.size, _, I2, rfl, ⟨s.heap.objs.size, rfl, hTn, fun xs' ys' u' v' a1 a2 a3 a4 => ?_⟩, ⟨z2, up _ _ D.TIz (kk _ _ D.TIz D.TITO D.TIi1 D.TIi2 s2), ⟨u, v, up _ _ D.TOz t1⟩, j1.at fun o e => up _ o D.i1z e, j2.at fun o e => up _ o D.i2z e⟩, fun c hc => (fp2 c hc).1⟩
    rw [I.list_inj a1 hq1, hx] at a3
    rw [I.list_inj a2 hq2, hy] at a4
    cases a3
    cases a4
    rfl
  done := by
    intro X hP hw hK hc i pins s σ H E I hf st hg
    subst hP hw hK
    obtain ⟨xs, ys, hq1, hq2, hend⟩ := hg
    obtain ⟨its1, rv1, p1, _⟩ := I.list hq1
    obtain ⟨its2, rv2, p2, _⟩ := I.list hq2
    have l1 := rv1.length
    have l2 := rv2.length
    obtain ⟨s1, s2, ⟨p, q, s3⟩, s4, s5⟩ := st
    refine wpAny_pyNext_zip_end (I.ok.hd hc) D s1 s2 s3 s4 s5 p1.isList p2.isList ?_ fun h' kk => ⟨rfl, I.turnedL (t' := s.toks) (its := [z, TI, TO, i1, i2]) (fun c o hc e => ?_) hf⟩
    · rcases hend with e | e
      · exact .inl (by simp; omega)
      · exact .inr (by simp; omega)
    · simp only [List.mem_cons, List.not_mem_nil, or_false, not_or] at hc
      exact kk c o hc.1 hc.2.2.1 hc.2.2.2.1 hc.2.2.2.2 e
  self := fun _ _ _ _ _ st h => wpAny_pyIter_zip st.1 h
section
variable {X : Cx} {es : List Expr} {kx : Nat} {tp : Pos}
def iZip (K : PySem.W.Frag) (ta : TA) : TI := fun σ H R => ta σ H fun vs H1 => ∃ a b, vs = [.ref a, .ref b] ∧ (∃ xs, SqL K H1 a xs) ∧ (∃ ys, SqL K H1 b ys) ∧ R (Itz K a b) H1
theorem pi_zip {K : PySem.W.Frag} {a b : Expr} {ta : TA} {p pos : Pos} (hg : Gl X "zip") (hm : X.mg "zip" = none) (ha : PA X [a, b] ta) (hK : X.K = K := by rfl) (hs : starEach [a, b] X.env = [(false, eval a X.env), (false, eval b X.env)] := by rfl) (hs2 : starEach [b] X.env = [(false, eval b X.env)] := by rfl) :
    PI X (.Tuple es kx tp) (.Call (.Name "zip" p) [a, b] [] pos) (iZip K ta) := by
  subst hK
  intro pins s σ H R I h
  refine Call_ (ld_blt I hg hm bt_zip (PyProof.Rows.callWith_type1 (thn (ha pos pins s σ H _ I h) fun us s1 ⟨vs, H1, I1, r1, q1⟩ => ?_) (by rw [hs, hs2]) (by rw [hs2]; rfl)))
  obtain ⟨a, b, e, ⟨xs, hq1⟩, ⟨ys, hq2⟩, q⟩ := q1
  subst e
  cases r1 with
  | cons r rr =>
    cases rr with
    | cons r' rr =>
      cases rr
      cases r
      cases r'
      obtain ⟨its1, rv1, p1, _⟩ := I1.list hq1
      obtain ⟨its2, rv2, p2, _⟩ := I1.list hq2
      obtain ⟨o1, e1, _⟩ := id p1.isList
      obtain ⟨o2, e2, _⟩ := id p2.isList
      refine call_zip_2 p1.isList p2.isList fun h' hz hTI hTO j1 j2 hsz kk => wpAny_pyIter_zip hz ?_
      refine ⟨_, [s1.heap.objs.size + 4, s1.heap.objs.size + 2, s1.heap.objs.size + 3, s1.heap.objs.size, s1.heap.objs.size + 1], _, _, H1, rfl, I1.kept (t' := s1.toks) kk, turn_zip (zipApart_new (Heap.lt_size e1) (Heap.lt_size e2)),
        ⟨hz, hTI, ⟨_, _, hTO⟩, j1, j2⟩, fun c hc => ?_, q⟩
      have le : s1.heap.objs.size ≤ c := by
        simp only [List.mem_cons, List.not_mem_nil, or_false] at hc
        rcases hc with e | e | e | e | e <;> subst e <;> omega
      exact I1.fpOk le (I1.hok.fresh le)
theorem for_zip {K : PySem.W.Frag} {a b : Addr} {xs ys : List V} {g : TG} {tb : TS} {D : Ends} {σ : St} {H : Hp} {n : Nat} (hn : n = min xs.length ys.length) (Pv : Nat → St → Hp → Prop) (h0 : Pv 0 σ H) (hl : ∀ i σ H, Pv i σ H → SqL K H a xs ∧ SqL K H b ys)
    (hs : ∀ i x y σ H T, xs[i]? = some x → ys[i]? = some y → Pv i σ H → H T = none → g (.ref T) σ (upd H T (.tup [x, y])) fun σ2 H2 => tb { D with nx := Pv (i + 1), ct := Pv (i + 1), bk := D.nx } σ2 H2) (hd : ∀ σ H, Pv n σ H → D.nx σ H) :
    ∃ W : Nat → Nat → St → Hp → Prop, (∃ m, W 0 m σ H) ∧ ∀ i m σ H, W i m σ H →
      ((Itz K a b).stop i H ∧ D.nx σ H) ∨ ((Itz K a b).go i H ∧ ∃ N : St → Hp → Prop, (∀ σ' H', N σ' H' → ∃ m', m' < m ∧ W (i + 1) m' σ' H') ∧ ∀ x H', (Itz K a b).yld i H x H' → g x σ H' fun σ2 H2 => tb { D with nx := N, ct := N, bk := D.nx } σ2 H2) := by
  refine ⟨fun i m σ H => m = n - i ∧ i ≤ n ∧ Pv i σ H, ⟨n, by simp, Nat.zero_le _, h0⟩, ?_⟩
  rintro i m σ H ⟨rfl, hi, p⟩
  obtain ⟨q1, q2⟩ := hl i σ H p
  by_cases hlt : i < n
  · have x1 : i < xs.length := by omega
    have y1 : i < ys.length := by omega
    refine .inr ⟨⟨xs, ys, xs[i], ys[i], q1, q2, List.getElem?_eq_getElem x1, List.getElem?_eq_getElem y1⟩, Pv (i + 1), fun σ' H' p' => ⟨n - (i + 1), by omega, rfl, hlt, p'⟩, fun x H' y => ?_⟩
    obtain ⟨T, rfl, hT, y⟩ := y
    have e := y xs ys _ _ q1 q2 (List.getElem?_eq_getElem x1) (List.getElem?_eq_getElem y1)
    subst e
    exact hs i _ _ σ H T (List.getElem?_eq_getElem x1) (List.getElem?_eq_getElem y1) p hT
  · have e : i = n := by omega
    subst e
    exact .inl ⟨⟨xs, ys, q1, q2, by omega⟩, hd σ H p⟩
end
end L2

set_option Elab.async false
set_option linter.all false
set_option maxRecDepth 100000
namespace L2
open PySem PySem.Spec PyProof.Rows
/-! ### a tuple of numbers in a list of such tuples, one of which has the same contents -/
def rInT (K : PySem.W.Frag) : R2 := fun x y H Q => ∃ (p q : Addr) (as : List Addr) (ks : List Int), x = .ref p ∧ y = .ref q ∧ SqL K H q (as.map V.ref) ∧ SqT K H p (vI ks) ∧
  (∀ a ∈ as, ∃ js : List Int, SqT K H a (vI js)) ∧ (∃ a ∈ as, SqT K H a (vI ks)) ∧ Q (.bl true) H
section
variable {X : Cx} {K : PySem.W.Frag}
end
end L2

set_option Elab.async false
set_option linter.all false
set_option maxRecDepth 100000
namespace L2
open PySem PySem.Spec PyProof.Rows
/-! ### zip of lists and texts: each side draws by itself -/
section
variable {prog : Program} {w : World} {A : Around} {E : Value → Shared → Prop} {s : Shared}
structure Apart2 (z TI TO i1 i2 : Addr) : Prop where
  TIz : TI ≠ z
  TOz : TO ≠ z
  i1z : i1 ≠ z
  i2z : i2 ≠ z
  TITO : TI ≠ TO
  TIi1 : TI ≠ i1
  TIi2 : TI ≠ i2
  TOi1 : TO ≠ i1
  TOi2 : TO ≠ i2
  i12 : i1 ≠ i2
/-! ### the making -/
abbrev strIt (x : Str) (t : Tok) : Obj := { cls := .type (strIterType x), data := .fields #[.str x t, .int 0 0] }
abbrev lstIt (l : Addr) : Obj := { cls := .type "list_iterator", data := .fields #[.ref l, .int 0 0] }
abbrev zHeap (h : Heap) (o1 o2 : Obj) : Heap := ((((h.push o1).push o2).push { cls := .type "tuple", data := .seq #[.ref h.objs.size, .ref (h.push o1).objs.size] }).push { cls := .type "tuple", data := .seq #[.none, .none] }).push
  { cls := .type "zip", data := .fields #[.none, .bool false, .bool false, .ref ((h.push o1).push o2).objs.size, .ref (((h.push o1).push o2).push { cls := .type "tuple", data := .seq #[.ref h.objs.size, .ref (h.push o1).objs.size] }).objs.size] }
abbrev zAddr (h : Heap) (o1 o2 : Obj) : Addr := ((((h.push o1).push o2).push { cls := .type "tuple", data := .seq #[.ref h.objs.size, .ref (h.push o1).objs.size] }).push { cls := .type "tuple", data := .seq #[.none, .none] }).objs.size
end
end L2

set_option Elab.async false
set_option linter.all false
set_option maxRecDepth 100000
namespace L2
open PySem PySem.Spec PyProof.Rows
/-- a side of zip: a list or a text -/
inductive Src where
  | l (a : Addr)
  | s (z : Str)
def srcV : Src → V
  | .l a => .ref a
  | .s z => .str z
def srcOk (K : PySem.W.Frag) (H : Hp) : Src → Prop
  | .l a => ∃ xs, SqL K H a xs
  | .s _ => True
def srcAt (K : PySem.W.Frag) (H : Hp) : Src → Nat → V → Prop
  | .l a, i, v => ∃ xs, SqL K H a xs ∧ xs[i]? = some v
  | .s z, i, v => ∃ c, z.cps[i]? = some c ∧ v = .str ⟨#[c]⟩
def srcEnd (K : PySem.W.Frag) (H : Hp) : Src → Nat → Prop
  | .l a, i => ∃ xs, SqL K H a xs ∧ xs.length = i
  | .s z, i => z.cps.size = i
def srcSt (it : Addr) (t : Tok) : Src → Nat → Heap → Prop
  | .l a, i, h => h.IsListIter it a i
  | .s z, i, h => h.IsStrIter it (strIterType z) z t i
def srcFp (it : Addr) : Src → List Addr
  | .l a => [it, a]
  | .s _ => [it]
def srcIt (t : Tok) : Src → Obj
  | .l a => lstIt a
  | .s z => strIt z t
def Itz2 (K : PySem.W.Frag) (S1 S2 : Src) : It where
  go := fun i H => (∃ u, srcAt K H S1 i u) ∧ ∃ v, srcAt K H S2 i v
  yld := fun i H x H' => ∃ T, x = .ref T ∧ H T = none ∧ ∀ u v, srcAt K H S1 i u → srcAt K H S2 i v → H' = upd H T (.tup [u, v])
  stop := fun i H => srcOk K H S1 ∧ srcOk K H S2 ∧ (srcEnd K H S1 i ∨ ((∃ u, srcAt K H S1 i u) ∧ srcEnd K H S2 i))
def Zip2St (z TI TO i1 i2 : Addr) (t1 t2 : Tok) (S1 S2 : Src) (i : Nat) (h : Heap) : Prop := IsZip h z TI TO .none ∧ IsPair h TI (.ref i1) (.ref i2) ∧ (∃ p q, IsPair h TO p q) ∧ srcSt i1 t1 S1 i h ∧ srcSt i2 t2 S2 i h
theorem lne {a n : Nat} (h : a < n) (k : Nat) : @Ne Addr a (n + k) := fun z => by have z : a = n + k := z; omega
section
variable {X : Cx} {es : List Expr} {kx : Nat} {tp : Pos}
/-- which pairs there is a rule for -/
def zOk : Src → Src → Prop
  | .s _, .l _ => False
  | _, _ => True
def iZip2 (K : PySem.W.Frag) (ta : TA) : TI := fun σ H R => ta σ H fun vs H1 => ∃ S1 S2, vs = [srcV S1, srcV S2] ∧ zOk S1 S2 ∧ srcOk K H1 S1 ∧ srcOk K H1 S2 ∧ R (Itz2 K S1 S2) H1
end
end L2

set_option Elab.async false
set_option linter.all false
set_option maxRecDepth 100000
namespace L2
open PySem PySem.Spec PyProof.Rows
/-! ### a comprehension whose target is a pair of names -/
structure CompOk2 (X : Cx) (x x' : Str) (Nc : List Str) (caps : List Nat) (scope : Scope) : Prop where
  kind : scope.kind = .function
  cell : ∀ y ∈ scope.names, y.2 ≠ .cell
  names : ∀ y ∈ scope.names, y.2 = .local → scope.names.lookup y.1 = some .local
  fr : ∀ y ∈ scope.names, y.2 = .free → X.env.scope.names.lookup y.1 = some .cell ∧ scope.names.lookup y.1 = some .free
  loc : scope.names.lookup x = some .local
  loc2 : scope.names.lookup x' = some .local
  len : Nc.length = caps.length + 2
  hd : Nc[0]? = some x
  hd2 : Nc[1]? = some x'
  nd : Nc.Nodup
  cap : ∀ k j, caps[k]? = some j → ∃ y, Nc[k + 2]? = some y ∧ X.N[j]? = some y ∧ scope.names.lookup y = some .free
def tCompW2 (K : PySem.W.Frag) (caps : List Nat) (tc : TT) (te : TE) (J : It) (σ : St) (H : Hp) (Q : VK) : Prop :=
  ∃ W : Nat → Nat → List V → Hp → Prop, (∃ m, W 0 m [] H) ∧ ∀ i m ys H, W i m ys H →
    (J.stop i H ∧ ys.length ≤ sizeLine ∧ ∀ p, H p = none → Q (.ref p) (upd H p (.lst ys))) ∨
    (J.go i H ∧ ys.length < sizeLine ∧ ∀ x H', J.yld i H x H' → ∃ a u v, x = .ref a ∧ SqT K H' a [u, v] ∧ tc (some u :: some v :: capV σ caps) H' fun b H2 =>
      if b = true then te (some u :: some v :: capV σ caps) H2 fun y H3 => ∃ m', m' < m ∧ W (i + 1) m' (ys ++ [y]) H3 else ∃ m', m' < m ∧ W (i + 1) m' ys H2)
def tComp2 (K : PySem.W.Frag) (wi : TI) (caps : List Nat) (tc : TT) (te : TE) : TE := fun σ H Q => wi σ H fun J H1 => tCompW2 K caps tc te J σ H1 Q
section
variable {X : Cx} {pins : List (Addr × Obj)} {σ : St} {H : Hp} {s : Shared}
end
end L2

set_option Elab.async false
set_option linter.all false
set_option maxRecDepth 100000
namespace L2
open PySem PySem.Spec PyProof.Rows
/-! ### list.count of a number -/
section
variable {X : Cx}
def rCountL (K : PySem.W.Frag) : V → List V → Hp → VK → Prop := fun x vs H Q => ∃ a ns k, x = .ref a ∧ vs = [.int k] ∧ SqL K H a (vI ns) ∧ Q (.int (ns.count k : Nat)) H
end
/-! ### enumerate(list), its pairs unpacked -/
def Ite (K : PySem.W.Frag) (a : Addr) : It where
  go := fun i H => ∃ xs x, SqL K H a xs ∧ xs[i]? = some x
  yld := fun i H x H' => ∃ T, x = .ref T ∧ H T = none ∧ ∀ xs u, SqL K H a xs → xs[i]? = some u → H' = upd H T (.tup [.int (i : Int), u])
  stop := fun i H => ∃ xs, SqL K H a xs ∧ xs.length = i
def EnSt (e it a : Addr) (i : Nat) (h : Heap) : Prop := (∃ old, IsEnum h e it i old) ∧ h.IsListIter it a i
section
variable {X : Cx} {es : List Expr} {kx : Nat} {tp : Pos}
def iEnum (K : PySem.W.Frag) (ta : TA) : TI := fun σ H R => ta σ H fun vs H1 => ∃ a, vs = [.ref a] ∧ (∃ xs, SqL K H1 a xs) ∧ R (Ite K a) H1
end
end L2

set_option Elab.async false
set_option linter.all false
set_option maxRecDepth 100000
namespace L2
open PySem PySem.Spec PyProof.Rows
/-! ### values of the same contents, lists and tuples within one another -/
inductive SamV (K : PySem.W.Frag) (H : Hp) : Nat → V → V → Prop where
  | flat {n : Nat} {x : V} (h : flatV x = true) : SamV K H n x x
  | lst {n : Nat} {p q : Addr} {xs ys : List V} (hp : SqL K H p xs) (hq : SqL K H q ys) (hl : xs.length = ys.length) (hi : ∀ (i : Nat) (x y : V), xs[i]? = some x → ys[i]? = some y → SamV K H n x y) : SamV K H (n + 1) (.ref p) (.ref q)
  | tup {n : Nat} {p q : Addr} {xs ys : List V} (hp : SqT K H p xs) (hq : SqT K H q ys) (hl : xs.length = ys.length) (hi : ∀ (i : Nat) (x y : V), xs[i]? = some x → ys[i]? = some y → SamV K H n x y) : SamV K H (n + 1) (.ref p) (.ref q)
section
variable {X : Cx} {K : PySem.W.Frag}
theorem vals_get {xs : List V} {us : List Value} (r : Vals xs us) {j : Nat} (h : j < us.toArray.size) : ∃ x, xs[j]? = some x ∧ RelV x us.toArray[j] := by
  have l := r.length
  simp only [List.size_toArray] at h
  obtain ⟨u, e, q⟩ := r.get (i := j) (x := xs[j]) (by simp [show j < xs.length by omega])
  refine ⟨xs[j], by simp [show j < xs.length by omega], ?_⟩
  have : us.toArray[j] = u := by
    have h2 : us.toArray[j]? = some u := by simpa using e
    exact Option.some.inj ((Array.getElem?_eq_getElem (by simpa using h)).symm.trans h2)
  rw [this]
  exact q
theorem eqAt_sam {pins : List (Addr × Obj)} {σ : St} {H : Hp} {s : Shared} (I : Inv X pins σ H s) {n : Nat} {x y : V} (S : SamV X.K H n x y) : ∀ {A : Around} {u v : Value}, RelV x u → RelV y v → A.units + n < cLine → SeqAt.EqAt A s u v true := by
  induction S with
  | flat h =>
    intro A u v r1 r2 hu
    have := eqAt_V (A := A) (s := s) r1 r2 h h
    rw [eqV_refl h] at this
    exact this
  | lst hp hq hl hi ih =>
    intro A u v r1 r2 hu
    rename_i n p q xs ys
    cases r1
    cases r2
    by_cases e : p = q
    · subst e; exact SeqAt.EqAt.same _
    · refine SeqAt.EqAt.of_refs e ?_
      obtain ⟨its, r, pl, hz⟩ := I.list hp
      obtain ⟨its2, r2, pl2, hz2⟩ := I.list hq
      have l1 := r.length
      have l2 := r2.length
      have key := SeqAt.RcAt.lists (A := A) (s := s) (e := fun _ => true) pl.isList pl2.isList (by simp only [List.size_toArray]; omega) (by omega) (fun j h1 h2 => ?_)
      · have e1 : (List.range its.toArray.size).all (fun _ => true) = true := by simp
        rw [e1] at key
        exact key
      · obtain ⟨x, ex, qx⟩ := vals_get r h1
        obtain ⟨y, ey, qy⟩ := vals_get r2 h2
        exact ih j x y ex ey qx qy (by show A.units + 1 + n < cLine; omega)
  | tup hp hq hl hi ih =>
    intro A u v r1 r2 hu
    rename_i n p q xs ys
    cases r1
    cases r2
    by_cases e : p = q
    · subst e; exact SeqAt.EqAt.same _
    · refine SeqAt.EqAt.of_refs e ?_
      obtain ⟨its, r, pl, hz⟩ := I.tuple hp
      obtain ⟨its2, r2, pl2, hz2⟩ := I.tuple hq
      have l1 := r.length
      have l2 := r2.length
      have key := SeqAt.RcAt.tuples (A := A) (s := s) (e := fun _ => true) pl pl2 (by omega) (fun j h1 h2 => ?_)
      · have e1 : ((List.range (min its.toArray.size its2.toArray.size)).all (fun _ => true) && its.toArray.size == its2.toArray.size) = true := by
          have e2 : its.length = its2.length := by omega
          simp [e2]
        rw [e1] at key
        exact key
      · obtain ⟨x, ex, qx⟩ := vals_get r h1
        obtain ⟨y, ey, qy⟩ := vals_get r2 h2
        exact ih j x y ex ey qx qy (by show A.units + 1 + n < cLine; omega)
def SamS (K : PySem.W.Frag) (H : Hp) (p q : Addr) : Prop := ∃ xs ys : List V, SqL K H p xs ∧ SqL K H q ys ∧ xs.length = ys.length ∧ ∀ (i : Nat) (x y : V), xs[i]? = some x → ys[i]? = some y → SamV K H 50 x y
def rEqS (K : PySem.W.Frag) : R2 := fun x y H Q => ∃ p q, x = .ref p ∧ y = .ref q ∧ SamS K H p q ∧ Q (.bl true) H
theorem op_eqS (hu : X.A.units + 100 < cLine) (hK : X.K = K := by rfl) : OpR X (compareOp .Eq) (rEqS K) := by
  subst hK
  intro pins s σ H x y v u Q I rx ry h
  obtain ⟨p, q, rfl, rfl, ⟨xs, ys, hx, hy, hl, hi⟩, k⟩ := h
  cases rx
  cases ry
  obtain ⟨its, r, pl, hz⟩ := I.list hx
  obtain ⟨its2, r2, pl2, hz2⟩ := I.list hy
  have l1 := r.length
  have l2 := r2.length
  refine SeqAt.eq_listAt (e := fun _ => true) pl.isList pl2.isList (by simp only [List.size_toArray]; omega) (by omega) (fun j h1 h2 => ?_) ?_
  · obtain ⟨x, ex, qx⟩ := vals_get r h1
    obtain ⟨y, ey, qy⟩ := vals_get r2 h2
    exact eqAt_sam I (hi j x y ex ey) qx qy (by show X.A.units + 1 + 50 < cLine; omega)
  refine ⟨.bl true, H, I, ?_, k⟩
  show Value.bool _ = Value.bool _
  simp
def rNeS (K : PySem.W.Frag) : R2 := fun x y H Q => ∃ p q, x = .ref p ∧ y = .ref q ∧ SamS K H p q ∧ Q (.bl false) H
end
end L2

set_option Elab.async false
set_option linter.all false
set_option maxRecDepth 100000
namespace L2
open PySem PySem.Spec PyProof.Rows
section
variable {X : Cx} {K : PySem.W.Frag}
/-! ### tuples of numbers: != -/
def rNeTI (K : PySem.W.Frag) : R2 := fun x y H Q => ∃ (p q : Addr) (js ks : List Int), x = .ref p ∧ y = .ref q ∧ SqT K H p (vI js) ∧ SqT K H q (vI ks) ∧ Q (.bl (!decide (js = ks))) H
end
end L2

set_option Elab.async false
set_option linter.all false
set_option maxRecDepth 100000
namespace L2
open PySem PySem.Spec PyProof.Rows
section
variable {X : Cx} {K : PySem.W.Frag}
/-! ### sorted(list), sorted(list, reverse=True) of numbers; max(list), min(list) of numbers -/
theorem sorted_put {pins : List (Addr × Obj)} {σ : St} {H : Hp} {s : Shared} {vs : List Value} {out : Array Value} {ns' : List Int} {Q : VK} (I : Inv X pins σ H s) (hi : IntsAre out.toList ns') (hz : ns'.length ≤ sizeLine)
    (q : ∀ l, H l = none → Q (.ref l) (upd H l (.lst (vI ns')))) : EP X pins σ Q (.ref (s.heap.objs.size + 1)) { s with heap := sortedAll s.heap vs out } := by
  obtain ⟨e, he⟩ := sortedAll_at s.heap vs out
  refine ⟨.ref (s.heap.objs.size + 1), _, I.laid (t' := s.toks) (o := .lst (vI ns')) (fun b u => sortedAll_old) (Nat.le_succ _) ?_, rfl, q _ (I.hok.fresh (Nat.le_succ _))⟩
  refine ⟨by rw [vI_len]; exact hz, out.toList, e, vals_ints hi, ?_⟩
  rw [he]
theorem call_sortI (hK : X.K = K := by rfl) : CallR X (.builtin "sorted") (fun xs H Q => ∃ a ns, xs = [.ref a] ∧ SqL K H a (vI ns) ∧ ns.length < 64 ∧ ∀ l ns', ns'.Perm ns → ns'.Pairwise (· ≤ ·) → H l = none → Q (.ref l) (upd H l (.lst (vI ns')))) := by
  subst hK
  intro pins s σ H xs us Q I rv h
  obtain ⟨a, ns, rfl, hq, h64, q⟩ := h
  obtain ⟨u, rfl, ru⟩ := rv.one
  cases ru
  obtain ⟨its, r, pl, hl⟩ := I.list hq
  have hi : IntsAre its ns := intsAre_of r
  have hsz : sizeLine = 16777216 := sizeLine_eq
  refine sorted_ints pl.isList hi (by rw [hi.length]; exact h64) fun out ns' a1 a2 a3 => ?_
  exact sorted_put I a1 (by have := a2.length_eq; omega) fun l hl => q l ns' a2 a3 hl
def tSortR (K : PySem.W.Frag) (tl : TE) : TE := fun σ H Q => tl σ H fun x H1 => ∃ a ns, x = .ref a ∧ SqL K H1 a (vI ns) ∧ ns.length < 64 ∧ ∀ l ns', ns'.Perm ns → ns'.Pairwise (· ≥ ·) → H1 l = none → Q (.ref l) (upd H1 l (.lst (vI ns')))
theorem pe_sortR {e : Expr} {tl : TE} {p pos kp cp : Pos} {j : Nat} (hg : Gl X "sorted") (hm : X.mg "sorted" = none) (hl : PE X e tl) (hK : X.K = K := by rfl)
    (he : backTo pos (starEach [e] X.env) = (false, eval e X.env) :: backTo pos (starEach [] X.env) := by rfl)
    (hplain : (backTo pos (starEach [e] X.env)).any (·.1) = false := by rfl) : PE X (.Call (.Name "sorted" p) [e] [⟨some "reverse", .Constant (.bool true) j cp, kp⟩] pos) (tSortR K tl) := by
  subst hK
  intro pins s σ H Q I h
  refine wpAny_Call_Name_kw (ld_blt I hg hm bt_sorted ?_ (by decide) (by decide))
  refine callWith_kw ?_ he hplain rfl rfl
  rw [he]
  refine Calls.spliced_cons (thn (hl pins s σ H _ I h) fun u s1 ⟨x, H1, I1, r1, q1⟩ => Calls.spliced_nil ?_)
  refine kws_cons (Constant_bool (kws_nil ?_))
  obtain ⟨a, ns, rfl, hq, h64, q⟩ := q1
  cases r1
  obtain ⟨its, r, pl, hz⟩ := I1.list hq
  have hi : IntsAre its ns := intsAre_of r
  have hsz : sizeLine = 16777216 := sizeLine_eq
  show wpAny _ _ (call (.builtin "sorted") [.ref a] [(Str.ofString "reverse", .bool true)]) _ _ _
  refine sorted_ints_rev pl.isList hi (by rw [hi.length]; exact h64) fun out ns' a1 a2 a3 => ?_
  exact sorted_put I1 a1 (by have := a2.length_eq; omega) fun l hl => q l ns' a2 (by unfold Ordered at a3; rw [if_pos rfl] at a3; exact a3) hl
end
end L2

set_option maxRecDepth 100000
set_option maxHeartbeats 4000000
namespace Stab
open PySem PyProof.Rows

/-- the number that is sorted (the key is `K`) -/
def V (xs : Array Keyed) (i : Nat) : Int := match xs[i]? with
  | some p => numOf p.2
  | none => 0
theorem V_congr {xs ys : Array Keyed} {i j : Nat} (h : xs[i]? = ys[j]?) : V xs i = V ys j := by unfold V; rw [h]
def Lx (xs : Array Keyed) (i j : Nat) : Prop := K xs i < K xs j ∨ (K xs i = K xs j ∧ V xs i < V xs j)
def St (xs : Array Keyed) (k : Nat) : Prop := ∀ i j, i < j → j < k → Lx xs i j
def De (xs : Array Keyed) (k : Nat) : Prop := ∀ i j, i < j → j < k → Lx xs j i
def Inc (xs : Array Keyed) : Prop := ∀ i j, i < j → j < xs.size → V xs i < V xs j

/-- the first k places hold the first k of the array at the start, the others are as they were -/
structure SB (a₀ : Array Keyed) (st : SortSt) (k : Nat) : Prop where
  base : SBase a₀ st
  tail : ∀ j, k ≤ j → (arrOf st)[j]? = a₀[j]?
  low : ∀ i, i < k → ∃ i', i' < k ∧ (arrOf st)[i]? = a₀[i']?

section
variable {a₀ : Array Keyed} {st : SortSt} {k : Nat}
theorem SB.up (h : SB a₀ st k) {k' : Nat} (hk : k ≤ k') : SB a₀ st k' :=
  ⟨h.base, fun j hj => h.tail j (Nat.le_trans hk hj), fun i hi => by
    by_cases hik : i < k
    · obtain ⟨i', h1, h2⟩ := h.low i hik
      exact ⟨i', Nat.lt_of_lt_of_le h1 hk, h2⟩
    · exact ⟨i, hi, h.tail i (Nat.le_of_not_lt hik)⟩⟩
theorem SB.vlt (h : SB a₀ st k) (inc : Inc a₀) {i j : Nat} (hi : i < k) (hj : k ≤ j) (hs : j < a₀.size) : V (arrOf st) i < V (arrOf st) j := by
  obtain ⟨i', h1, h2⟩ := h.low i hi
  rw [V_congr h2, V_congr (h.tail j hj)]
  exact inc i' j (Nat.lt_of_lt_of_le h1 hj) hs
theorem SB.mir (h : SB a₀ st k) (hk : k ≤ a₀.size) {i j : Nat} (hj : j ≤ k) : SB a₀ (setArr st (mirror (arrOf st) i j ((j - i) / 2))) k := by
  have hz : j ≤ (arrOf st).size := by rw [h.base.size]; omega
  refine ⟨h.base.setArr (mirror_perm _ _ _ _), fun x hx => ?_, fun x hx => ?_⟩
  · show (mirror (arrOf st) i j ((j - i) / 2))[x]? = _
    rw [getElem?_mirror_all hz, if_neg (by omega)]
    exact h.tail x hx
  · show ∃ i', i' < k ∧ (mirror (arrOf st) i j ((j - i) / 2))[x]? = _
    rw [getElem?_mirror_all hz]
    by_cases hc : i ≤ x ∧ x < j
    · rw [if_pos hc]
      exact h.low _ (by omega)
    · rw [if_neg hc]
      exact h.low _ hx
theorem SB.bub (h : SB a₀ st k) (hk : k < a₀.size) {d : Nat} (hd : d ≤ k) : SB a₀ (setArr st (bubble (arrOf st) k d)) (k + 1) := by
  have hz : k < (arrOf st).size := by rw [h.base.size]; exact hk
  have h' := h.up (Nat.le_succ k)
  refine ⟨h.base.setArr (bubble_perm _ _ _), fun x hx => ?_, fun x hx => ?_⟩
  · show (bubble (arrOf st) k d)[x]? = _
    rw [getElem?_bubble hz d hd, if_neg (by omega), if_neg (by omega)]
    exact h'.tail x hx
  · show ∃ i', i' < k + 1 ∧ (bubble (arrOf st) k d)[x]? = _
    rw [getElem?_bubble hz d hd]
    by_cases h1 : x = k - d
    · rw [if_pos h1]; exact h'.low _ (Nat.lt_succ_self k)
    · rw [if_neg h1]
      by_cases h2 : k - d < x ∧ x ≤ k
      · rw [if_pos h2]; exact h'.low _ (by omega)
      · rw [if_neg h2]; exact h'.low _ hx
end

theorem V_mirror {xs : Array Keyed} {i j : Nat} (hj : j ≤ xs.size) (k : Nat) : V (mirror xs i j ((j - i) / 2)) k = if i ≤ k ∧ k < j then V xs (i + j - 1 - k) else V xs k := by
  have e := getElem?_mirror_all (i := i) hj k
  by_cases h1 : i ≤ k ∧ k < j
  · rw [if_pos h1] at e ⊢; exact V_congr e
  · rw [if_neg h1] at e ⊢; exact V_congr e
theorem V_bubble {xs : Array Keyed} {src d : Nat} (hs : src < xs.size) (hd : d ≤ src) (k : Nat) :
    V (bubble xs src d) k = if k = src - d then V xs src else if src - d < k ∧ k ≤ src then V xs (k - 1) else V xs k := by
  have e := getElem?_bubble hs d hd k
  by_cases h1 : k = src - d
  · rw [if_pos h1] at e ⊢; exact V_congr e
  · rw [if_neg h1] at e ⊢
    by_cases h2 : src - d < k ∧ k ≤ src
    · rw [if_pos h2] at e ⊢; exact V_congr e
    · rw [if_neg h2] at e ⊢; exact V_congr e

/-- a falling run, its last neq + 1 alike and not yet turned round -/
structure Dr (xs : Array Keyed) (x neq : Nat) : Prop where
  le : neq + 1 ≤ x
  fst : ∀ i j, i < j → j < x - (neq + 1) → Lx xs j i
  snd : ∀ i j, i < x - (neq + 1) → x - (neq + 1) ≤ j → j < x → K xs j < K xs i
  run : ∀ i j, x - (neq + 1) ≤ i → i < j → j < x → K xs i = K xs j ∧ V xs i < V xs j

section
variable {xs : Array Keyed} {x neq : Nat}
theorem Dr.rev (h : Dr xs x neq) (hx : x ≤ xs.size) : De (mirror xs (x - (neq + 1)) x ((x - (x - (neq + 1))) / 2)) x := by
  intro i j hij hj
  obtain ⟨h1, h2, h3, h4⟩ := h
  unfold Lx
  rw [K_mirror hx, K_mirror hx, V_mirror hx, V_mirror hx]
  by_cases ci : x - (neq + 1) ≤ i
  · rw [if_pos (by omega), if_pos (by omega), if_pos (by omega), if_pos (by omega)]
    obtain ⟨e1, e2⟩ := h4 (x - (neq + 1) + x - 1 - j) (x - (neq + 1) + x - 1 - i) (by omega) (by omega) (by omega)
    exact .inr ⟨e1, e2⟩
  · rw [if_neg (c := _ ≤ i ∧ _) (by omega), if_neg (c := _ ≤ i ∧ _) (by omega)]
    by_cases cj : x - (neq + 1) ≤ j
    · rw [if_pos (by omega), if_pos (by omega)]
      exact .inl (h3 i _ (by omega) (by omega) (by omega))
    · rw [if_neg (by omega), if_neg (by omega)]
      exact h2 i j hij (by omega)
theorem Dr.one (h : Dr xs x 0) : De xs x := by
  intro i j hij hj
  obtain ⟨h1, h2, h3, h4⟩ := h
  by_cases cj : j < x - (0 + 1)
  · exact h2 i j hij cj
  · exact .inl (h3 i j (by omega) (by omega) hj)
theorem De.next (h : De xs x) (h1 : 1 ≤ x) (hl : K xs x < K xs (x - 1)) : Dr xs (x + 1) 0 := by
  refine ⟨by omega, fun i j hij hj => h i j hij (by omega), fun i j hi hj1 hj2 => ?_, fun i j hi hij hj => by omega⟩
  have ej : j = x := by omega
  subst ej
  by_cases hi' : i = j - 1
  · rw [hi']; exact hl
  · have := h i (j - 1) (by omega) (by omega)
    unfold Lx at this
    omega
theorem Dr.eq (h : Dr xs x neq) (he : K xs x = K xs (x - 1)) (hv : ∀ i, i < x → V xs i < V xs x) : Dr xs (x + 1) (neq + 1) := by
  obtain ⟨h1, h2, h3, h4⟩ := h
  have ep : x + 1 - (neq + 1 + 1) = x - (neq + 1) := by omega
  refine ⟨by omega, fun i j hij hj => h2 i j hij (by omega), fun i j hi hj1 hj2 => ?_, fun i j hi hij hj => ?_⟩
  · by_cases hj : j < x
    · exact h3 i j (by omega) (by omega) hj
    · have ej : j = x := by omega
      rw [ej, he]
      exact h3 i (x - 1) (by omega) (by omega) (by omega)
  · by_cases hjx : j < x
    · exact h4 i j (by omega) hij hjx
    · have ej : j = x := by omega
      subst ej
      refine ⟨?_, hv i hij⟩
      rw [he]
      by_cases hi' : i = j - 1
      · rw [hi']
      · exact (h4 i (j - 1) (by omega) (by omega) (by omega)).1
theorem St.all (h : St xs x) (hk : ¬ K xs 0 < K xs (x - 1)) : ∀ i, i < x → K xs i = K xs (x - 1) ∧ (∀ j, i < j → j < x → V xs i < V xs j) := by
  have ge : ∀ i, i < x → K xs i = K xs (x - 1) := fun i hi => by
    have a1 : K xs 0 ≤ K xs i := by
      by_cases h0 : i = 0
      · rw [h0]; exact Int.le_refl _
      · have := h 0 i (by omega) hi; unfold Lx at this; omega
    have a2 : K xs i ≤ K xs (x - 1) := by
      by_cases h0 : i = x - 1
      · rw [h0]; exact Int.le_refl _
      · have := h i (x - 1) (by omega) (by omega); unfold Lx at this; omega
    omega
  refine fun i hi => ⟨ge i hi, fun j hij hj => ?_⟩
  have := h i j hij hj
  have e1 := ge i hi
  have e2 := ge j hj
  unfold Lx at this
  omega
end

section
variable {prog : Program} {w : World} {A : Around} {E : Value → Shared → Prop} {s : Shared} {a₀ : Array Keyed}

theorem st_asc {st : SortSt} {a nrem : Nat} {Q : AscSt → SortSt → Prop} (h0 : IntKeys a₀) (inc : Inc a₀) (hn : nrem ≤ a₀.size) (ha : 1 ≤ a) (han : a ≤ nrem) (hB : SB a₀ st a)
    (hs : St (arrOf st) a) (h : ∀ n, a ≤ n → n ≤ nrem → St (arrOf st) n → (n = nrem ∨ K (arrOf st) n < K (arrOf st) (n - 1)) → Q (none, n) st) :
    wpS (model prog w) A E s (ascLoop a nrem) Q st := by
  unfold ascLoop
  refine wpS_forRange (I := fun x c st' => st' = st ∧ c = (none, x) ∧ St (arrOf st) x) ?step ?fin ⟨rfl, rfl, hs⟩
  case fin =>
    rintro c st' ⟨rfl, rfl, q⟩
    have e : max a nrem = nrem := by omega
    rw [e] at q ⊢
    exact h nrem han (Nat.le_refl _) q (.inl rfl)
  case step =>
    rintro x c st' hax hxn ⟨rfl, rfl, q⟩
    refine wpS_bind (wpS_ltK hB.base h0 (by omega) (by omega) ?_)
    by_cases hl : K (arrOf st') x < K (arrOf st') (x - 1)
    · simp only [hl, decide_true, if_true]
      exact wpS_pure (h x hax (by omega) q (.inr hl))
    · simp only [hl, decide_false, Bool.false_eq_true, if_false]
      refine wpS_pure ⟨rfl, rfl, fun i j hij hj => ?_⟩
      by_cases hjx : j < x
      · exact q i j hij hjx
      · have ej : j = x := by omega
        subst ej
        have v := (hB.up hax).vlt inc hij (Nat.le_refl j) (by omega)
        have kk : K (arrOf st') i ≤ K (arrOf st') (j - 1) := by
          by_cases hi : i = j - 1
          · rw [hi]; exact Int.le_refl _
          · have := q i (j - 1) (by omega) (by omega)
            unfold Lx at this
            omega
        unfold Lx
        omega

theorem st_tail3 {st : SortSt} {n nrem : Nat} {Q : Option Nat → SortSt → Prop} (h0 : IntKeys a₀) (inc : Inc a₀) (hn : nrem ≤ a₀.size) (h1 : 1 ≤ n) (hnn : n ≤ nrem) (hB : SB a₀ st n)
    (hs : De (arrOf st) n) (h : ∀ m st', SB a₀ st' m → 1 ≤ m → m ≤ nrem → St (arrOf st') m → Q (some m) st') :
    wpS (model prog w) A E s (tail3 n nrem) Q st := by
  unfold tail3
  have hz : n ≤ (arrOf st).size := by rw [hB.base.size]; omega
  refine wpS_bind (wpS_reverse ?_)
  have hB' := hB.mir (by omega) (i := 0) (j := n) (Nat.le_refl n)
  refine wpS_bind (st_asc h0 inc hn h1 hnn hB' ?_ fun m a1 a2 a3 _ => wpS_pure (h m _ (hB'.up a1) (by omega) a2 a3))
  intro i j hij hj
  show Lx (mirror (arrOf st) 0 n ((n - 0) / 2)) i j
  unfold Lx
  rw [K_mirror hz, K_mirror hz, V_mirror hz, V_mirror hz, if_pos (by omega), if_pos (by omega), if_pos (by omega), if_pos (by omega)]
  exact hs _ _ (by omega) (by omega)

theorem st_desc {st : SortSt} {n nrem : Nat} {Q : DescSt → SortSt → Prop} (h0 : IntKeys a₀) (inc : Inc a₀) (hn : nrem ≤ a₀.size) (hnn : n ≤ nrem) (hB : SB a₀ st n)
    (hs : Dr (arrOf st) n 0) (h : ∀ m neq st', SB a₀ st' m → n ≤ m → m ≤ nrem → Dr (arrOf st') m neq → Q (none, m, neq) st') :
    wpS (model prog w) A E s (descLoop n nrem) Q st := by
  unfold descLoop
  refine wpS_forRange (I := fun x c st' => ∃ q, c = (none, x, q) ∧ SB a₀ st' x ∧ Dr (arrOf st') x q) ?step ?fin ⟨0, rfl, hB, hs⟩
  case fin =>
    rintro c st' ⟨q, rfl, b, d⟩
    have e : max n nrem = nrem := by omega
    rw [e] at b d ⊢
    exact h nrem q st' b hnn (Nat.le_refl _) d
  case step =>
    rintro x c st' hax hxn ⟨q, rfl, b, d⟩
    have x1 := d.le
    have hz : x ≤ (arrOf st').size := by rw [b.base.size]; omega
    dsimp only
    refine wpS_bind (wpS_ltK b.base h0 (by omega) (by omega) ?_)
    by_cases hl : K (arrOf st') x < K (arrOf st') (x - 1)
    · simp only [hl, decide_true, if_true]
      by_cases hq : q > 0
      · rw [if_pos hq]
        refine wpS_bind (wpS_reverse (wpS_pure ⟨0, rfl, (b.mir (by omega) (Nat.le_refl x)).up (Nat.le_succ x), De.next (d.rev hz) (by omega) ?_⟩))
        show K (mirror (arrOf st') _ _ _) _ < K (mirror (arrOf st') _ _ _) _
        rw [K_mirror hz, K_mirror hz, if_neg (by omega), if_pos (by omega)]
        have := (d.run (x - (q + 1) + x - 1 - (x - 1)) (x - 1) (by omega) (by omega) (by omega)).1
        rw [this]
        exact hl
      · rw [if_neg hq]
        have eq : q = 0 := by omega
        subst eq
        exact wpS_pure ⟨0, rfl, b.up (Nat.le_succ x), d.one.next (by omega) hl⟩
    · simp only [hl, decide_false, Bool.false_eq_true, if_false]
      refine wpS_bind (wpS_ltK b.base h0 (by omega) (by omega) ?_)
      by_cases hg : K (arrOf st') (x - 1) < K (arrOf st') x
      · simp only [hg, decide_true, if_true]
        exact wpS_pure (h x q st' b hax (by omega) d)
      · simp only [hg, decide_false, Bool.false_eq_true, if_false]
        exact wpS_pure ⟨q + 1, rfl, b.up (Nat.le_succ x), d.eq (by omega) fun i hi => b.vlt inc hi (Nat.le_refl x) (by omega)⟩

theorem st_descPart {st : SortSt} {n nrem : Nat} {Q : Option Nat → SortSt → Prop} (h0 : IntKeys a₀) (inc : Inc a₀) (hn : nrem ≤ a₀.size) (hnn : n + 1 ≤ nrem) (hB : SB a₀ st (n + 1))
    (hs : Dr (arrOf st) (n + 1) 0) (h : ∀ m st', SB a₀ st' m → 1 ≤ m → m ≤ nrem → St (arrOf st') m → Q (some m) st') :
    wpS (model prog w) A E s (descPart n nrem) Q st := by
  unfold descPart
  refine wpS_bind (wpS_lift (wpAny_rule ⟨rfl, ?_⟩))
  refine wpS_bind (st_desc h0 inc hn hnn hB hs fun m q st' b m1 m2 d => ?_)
  dsimp only
  have hz : m ≤ (arrOf st').size := by rw [b.base.size]; omega
  by_cases hq : q > 0
  · rw [if_pos hq]
    exact wpS_bind (wpS_reverse (st_tail3 h0 inc hn (by omega) m2 (b.mir (by omega) (Nat.le_refl m)) (d.rev hz) h))
  · rw [if_neg hq]
    have eq : q = 0 := by omega
    subst eq
    exact st_tail3 h0 inc hn (by omega) m2 b d.one h

theorem st_countRun {st : SortSt} {nrem : Nat} {Q : Option Nat → SortSt → Prop} (h0 : IntKeys a₀) (inc : Inc a₀) (hn : nrem ≤ a₀.size) (h1 : 1 ≤ nrem) (hB : SB a₀ st 0)
    (h : ∀ m st', SB a₀ st' m → 1 ≤ m → m ≤ nrem → St (arrOf st') m → Q (some m) st') :
    wpS (model prog w) A E s (countRun' 0 nrem) Q st := by
  rw [countRun0_eq]
  have hB1 : SB a₀ st 1 := hB.up (Nat.zero_le 1)
  refine wpS_bind (st_asc h0 inc hn (Nat.le_refl 1) h1 hB1 (fun i j hij hj => by omega) fun n n1 n2 q hor => ?_)
  dsimp only
  have bn := hB1.up n1
  have hz : n ≤ (arrOf st).size := by rw [hB.base.size]; omega
  by_cases e : n = nrem
  · rw [if_pos (by simpa using e)]
    exact wpS_pure (h n st bn n1 n2 q)
  · rw [if_neg (by simpa using e)]
    have hl := hor.resolve_left e
    by_cases g : n > 1
    · rw [if_pos g]
      refine wpS_bind (wpS_ltK hB.base h0 (by omega) (by omega) ?_)
      by_cases r : K (arrOf st) 0 < K (arrOf st) (n - 1)
      · simp only [r, decide_true, if_true]
        exact wpS_pure (h n st bn n1 n2 q)
      · simp only [r, decide_false, Bool.false_eq_true, if_false]
        have al := q.all r
        have hm := bn.mir (by omega) (i := 0) (j := n) (Nat.le_refl n)
        refine wpS_bind (wpS_reverse (st_descPart h0 inc hn (by omega) (hm.up (Nat.le_succ n)) (De.next ?_ n1 ?_) h))
        · intro i j hij hj
          show Lx (mirror (arrOf st) _ _ _) j i
          unfold Lx
          rw [K_mirror hz, K_mirror hz, V_mirror hz, V_mirror hz, if_pos (by omega), if_pos (by omega), if_pos (by omega), if_pos (by omega)]
          refine .inr ⟨?_, (al _ (by omega)).2 _ (by omega) (by omega)⟩
          rw [(al _ (by omega)).1, (al (0 + n - 1 - i) (by omega)).1]
        · show K (mirror (arrOf st) _ _ _) _ < K (mirror (arrOf st) _ _ _) _
          rw [K_mirror hz, K_mirror hz, if_neg (by omega), if_pos (by omega), (al (0 + n - 1 - (n - 1)) (by omega)).1]
          exact hl
    · rw [if_neg g]
      have e1 : n = 1 := by omega
      subst e1
      exact st_descPart h0 inc hn (by omega) (bn.up (Nat.le_succ 1)) (De.next (fun i j hij hj => by omega) (Nat.le_refl 1) hl) h

theorem st_binary {st : SortSt} {n ok : Nat} {Q : Bool → SortSt → Prop} (h0 : IntKeys a₀) (inc : Inc a₀) (hn : n ≤ a₀.size) (ok1 : 1 ≤ ok) (hok : ok ≤ n) (hB : SB a₀ st ok) (hs : St (arrOf st) ok)
    (h : ∀ st', SB a₀ st' n → St (arrOf st') n → Q true st') : wpS (model prog w) A E s (binarySort' 0 n ok) Q st := by
  rw [binarySort'_eq]
  simp only [Nat.zero_add]
  have em : max ok 1 = ok := by omega
  rw [em]
  refine wpS_bind (wpS_mono (wpS_forRange (I := fun k c st' => c = (none, ()) ∧ SB a₀ st' k ∧ St (arrOf st') k) (Q := fun c st' => c = (none, ()) ∧ SB a₀ st' n ∧ St (arrOf st') n) ?step ?fin ⟨rfl, hB, hs⟩) ?post)
  case post =>
    rintro c st' ⟨rfl, b, q⟩
    exact wpS_pure (h st' b q)
  case fin =>
    rintro c st' ⟨hc, b, q⟩
    have e : max ok n = n := by omega
    rw [e] at b q
    exact ⟨hc, b, q⟩
  case step =>
    rintro k c st' hak hkn ⟨rfl, b, q⟩
    have hk : k < a₀.size := by omega
    have le : ∀ i j, i ≤ j → j < k → K (arrOf st') i ≤ K (arrOf st') j := fun i j hij hj => by
      by_cases e : i = j
      · rw [e]; exact Int.le_refl _
      · have := q i j (by omega) hj
        unfold Lx at this
        omega
    refine wpS_bind (wpS_mono (wpS_forRange (I := fun x c st2 => st2 = st' ∧ ∃ l r, c = (none, l, r) ∧ l ≤ r ∧ r ≤ k ∧ r - l ≤ k - x ∧
        (∀ i, i < l → K (arrOf st') i ≤ K (arrOf st') k) ∧ (∀ i, r ≤ i → i < k → K (arrOf st') k < K (arrOf st') i))
      (Q := fun c st2 => st2 = st' ∧ ∃ l, c = (none, l, l) ∧ l ≤ k ∧ (∀ i, i < l → K (arrOf st') i ≤ K (arrOf st') k) ∧ (∀ i, l ≤ i → i < k → K (arrOf st') k < K (arrOf st') i)) ?istep ?ifin
      ⟨rfl, 0, k, rfl, by omega, by omega, by omega, fun i hi => by omega, fun i h1 h2 => by omega⟩) ?ipost)
    case ifin =>
      rintro c st2 ⟨rfl, l, r, rfl, hlr, hrk, hm, lo, hi⟩
      have e : l = r := by omega
      subst e
      exact ⟨rfl, l, rfl, hrk, lo, hi⟩
    case istep =>
      rintro x c st2 _ hxk ⟨rfl, l, r, rfl, hlr, hrk, hm, lo, hi⟩
      dsimp only
      by_cases g : l ≥ r
      · rw [if_pos g]
        have e : l = r := by omega
        subst e
        exact wpS_pure ⟨rfl, l, rfl, hrk, lo, hi⟩
      · rw [if_neg g]
        refine wpS_bind (wpS_ltK b.base h0 hk (by omega) ?_)
        by_cases hl : K (arrOf st2) k < K (arrOf st2) ((l + r) / 2)
        · simp only [hl, decide_true, if_true]
          exact wpS_pure ⟨rfl, l, (l + r) / 2, rfl, by omega, by omega, by omega, lo, fun i h1 h2 => Int.lt_of_lt_of_le hl (le _ _ h1 h2)⟩
        · simp only [hl, decide_false, Bool.false_eq_true, if_false]
          exact wpS_pure ⟨rfl, (l + r) / 2 + 1, r, rfl, by omega, by omega, by omega, fun i h1 => Int.le_trans (le i ((l + r) / 2) (by omega) (by omega)) (Int.not_lt.mp hl), hi⟩
    case ipost =>
      rintro c st2 ⟨rfl, l, rfl, hlk, lo, hi⟩
      show wpS _ _ _ _ (do moveDown' k l; pure (ForInStep.yield (none, ()))) _ _
      rw [moveDown'_eq]
      refine wpS_bind (wpS_modify (wpS_pure ⟨rfl, b.bub hk (by omega), ?_⟩))
      have hz : k < (arrOf st2).size := by rw [b.base.size]; exact hk
      intro i j hij hj
      show Lx (bubble (arrOf st2) k (k - l)) i j
      have e : k - (k - l) = l := by omega
      have vk : ∀ x, x < k → V (arrOf st2) x < V (arrOf st2) k := fun x hx => b.vlt inc hx (Nat.le_refl k) hk
      unfold Lx
      rw [K_bubble hz (by omega), K_bubble hz (by omega), V_bubble hz (by omega), V_bubble hz (by omega), e]
      by_cases c1 : i = l
      · have d1 : ¬ j = l := by omega
        have d2 : l < j ∧ j ≤ k := by omega
        rw [if_pos c1, if_pos c1, if_neg d1, if_neg d1, if_pos d2, if_pos d2]
        exact .inl (hi _ (by omega) (by omega))
      · rw [if_neg c1, if_neg c1]
        by_cases c2 : l < i ∧ i ≤ k
        · have d1 : ¬ j = l := by omega
          have d2 : l < j ∧ j ≤ k := by omega
          rw [if_pos c2, if_pos c2, if_neg d1, if_neg d1, if_pos d2, if_pos d2]
          exact q _ _ (by omega) (by omega)
        · rw [if_neg c2, if_neg c2]
          by_cases c3 : j = l
          · rw [if_pos c3, if_pos c3]
            have k1 := lo i (by omega)
            have k2 := vk i (by omega)
            omega
          · rw [if_neg c3, if_neg c3]
            by_cases c4 : l < j ∧ j ≤ k
            · rw [if_pos c4, if_pos c4]
              exact q _ _ (by omega) (by omega)
            · rw [if_neg c4, if_neg c4]
              exact q _ _ hij (by omega)

theorem st_sortRuns {st : SortSt} {Q : Unit → SortSt → Prop} (h0 : IntKeys a₀) (inc : Inc a₀) (hB : SBase a₀ st) (same : arrOf st = a₀) (h2 : 2 ≤ a₀.size) (h64 : a₀.size < 64)
    (h : ∀ st', (arrOf st').Perm a₀ → failedOf st' = none → St (arrOf st') a₀.size → Q () st') : wpS (model prog w) A E s sortRuns' Q st := by
  rw [sortRuns'_eq]
  refine wpS_bind (wpS_get ?_)
  dsimp only
  have hmr : minRun' a₀.size a₀.size 0 = a₀.size := by
    obtain ⟨f, hf⟩ : ∃ f, a₀.size = f + 1 := ⟨a₀.size - 1, by omega⟩
    have e : minRun' (f + 1) a₀.size 0 = a₀.size := by rw [minRun'_succ, if_pos h64]; rfl
    rwa [← hf] at e
  have b0 : SB a₀ st 0 := ⟨hB, fun j _ => by rw [same], fun i hi => by omega⟩
  have fini : ∀ st', SB a₀ st' a₀.size → St (arrOf st') a₀.size →
      (arrOf (setPending st' ((pendingOf st').push (0, a₀.size, 0)))).Perm a₀ ∧ failedOf (setPending st' ((pendingOf st').push (0, a₀.size, 0))) = none ∧ (pendingOf (setPending st' ((pendingOf st').push (0, a₀.size, 0)))).size = 1 ∧ St (arrOf (setPending st' ((pendingOf st').push (0, a₀.size, 0)))) a₀.size := fun st' b q =>
    ⟨b.base.perm, b.base.failed, by show ((pendingOf st').push _).size = 1; rw [b.base.pend]; rfl, q⟩
  simp only [hB.size, hmr]
  refine wpS_bind (wpS_mono (wpS_forRange
    (I := fun x c st' => (x = 0 ∧ c = (none, 0) ∧ SB a₀ st' 0) ∨ (1 ≤ x ∧ c = (none, a₀.size) ∧ (arrOf st').Perm a₀ ∧ failedOf st' = none ∧ (pendingOf st').size = 1 ∧ St (arrOf st') a₀.size))
    (Q := fun c st' => c = (none, a₀.size) ∧ (arrOf st').Perm a₀ ∧ failedOf st' = none ∧ (pendingOf st').size = 1 ∧ St (arrOf st') a₀.size) ?step ?fin (.inl ⟨rfl, rfl, b0⟩)) ?post)
  case fin =>
    rintro c st' (⟨hx, _, _⟩ | ⟨_, hc, hD⟩)
    · omega
    · exact ⟨hc, hD⟩
  case step =>
    rintro x c st' _ hx (⟨rfl, rfl, b⟩ | ⟨hx1, rfl, hD⟩)
    · dsimp only
      rw [if_neg (by omega)]
      simp only [Nat.sub_zero, Nat.min_self, Nat.zero_add]
      refine wpS_bind (st_countRun h0 inc (Nat.le_refl _) (by omega) b fun m st2 b2 m1 m2 q2 => ?_)
      dsimp only
      by_cases hlt : m < a₀.size
      · rw [if_pos hlt]
        refine wpS_bind (wpS_lift (wpAny_rule ⟨rfl, ?_⟩))
        refine wpS_bind (st_binary h0 inc (Nat.le_refl _) m1 m2 b2 q2 fun st3 b3 q3 => ?_)
        simp only [Bool.not_true, Bool.false_eq_true, if_false]
        refine wpS_bind (wpS_get ?_)
        have hb : (pendingOf st3).back? = none := by rw [b3.base.pend]; rfl
        rw [hb]
        dsimp only
        exact wpS_bind (wpS_modify (wpS_pure (.inr ⟨by omega, rfl, fini _ b3 q3⟩)))
      · rw [if_neg hlt]
        have hm : m = a₀.size := by omega
        subst hm
        refine wpS_bind (wpS_get ?_)
        have hb : (pendingOf st2).back? = none := by rw [b2.base.pend]; rfl
        rw [hb]
        dsimp only
        exact wpS_bind (wpS_modify (wpS_pure (.inr ⟨by omega, rfl, fini _ b2 q2⟩)))
    · dsimp only
      rw [if_pos (Nat.le_refl _)]
      exact wpS_pure ⟨rfl, hD⟩
  case post =>
    rintro c st' ⟨rfl, hD⟩
    dsimp only
    refine wpS_bind (wpS_mono (wpS_forRange (I := fun _ c st2 => st2 = st' ∧ c = (none, ())) (Q := fun c st2 => st2 = st' ∧ c = (none, ())) ?_ (fun _ _ hh => hh) ⟨rfl, rfl⟩) ?_)
    · rintro x c st2 _ _ ⟨rfl, rfl⟩
      refine wpS_bind (wpS_get ?_)
      rw [if_pos (by rw [hD.2.2.1]; exact Nat.le_refl 1)]
      exact wpS_pure ⟨rfl, rfl⟩
    · rintro c st2 ⟨rfl, rfl⟩
      exact wpS_pure (h _ hD.1 hD.2.1 hD.2.2.2)
end
end Stab

set_option Elab.async false
set_option linter.all false
set_option maxRecDepth 100000
namespace L2
open PySem PySem.Spec PyProof.Rows
/-! ### a lambda: the enclosing code object's table (tracked as tbl), the function object that is made, its call -/
def cdO (c : Addr) (q : Str) : HO := .ext fun h => h.CodeRec (.ref c) q
/-- all codes that the table at P holds are codes of the name q -/
def Tb (P : Addr) (q : Str) (H : Hp) : Prop := ∃ ps : Array Value, H P = some (.tbl ps) ∧ TriplesOk ps.toList ∧ ∀ (pos : Pos) (cv : Value), codeAmong pos ps.toList = some cv → ∃ c, cv = .ref c ∧ H c = some (cdO c q)
/-- all is kept but tables -/
def SameT (H H' : Hp) : Prop := ∀ b o, H b = some o → (∀ ps, o ≠ .tbl ps) → H' b = some o
theorem Same.toT {H H' : Hp} (s : Same H H') : SameT H H' := fun b o h _ => s b o h
theorem SameT.trans {H H1 H2 : Hp} (a : SameT H H1) (b : SameT H1 H2) : SameT H H2 := fun c o h n => b c o (a c o h n) n
theorem Tb.same {P : Addr} {q : Str} {H H' : Hp} (t : Tb P q H) (s : Same H H') : Tb P q H' := by
  obtain ⟨ps, h1, h2, h3⟩ := t
  refine ⟨ps, s _ _ h1, h2, fun pos cv e => ?_⟩
  obtain ⟨c, e1, e2⟩ := h3 pos cv e
  exact ⟨c, e1, s _ _ e2⟩
theorem SameT.lst {H H' : Hp} (s : SameT H H') {a : Addr} {xs : List V} (h : H a = some (.lst xs)) : H' a = some (.lst xs) := s a _ h fun _ z => HO.noConfusion z
theorem SameT.tup {H H' : Hp} (s : SameT H H') {a : Addr} {xs : List V} (h : H a = some (.tup xs)) : H' a = some (.tup xs) := s a _ h fun _ z => HO.noConfusion z
theorem SameT.ext {H H' : Hp} (s : SameT H H') {a : Addr} {φ : Heap → Prop} (h : H a = some (.ext φ)) : H' a = some (.ext φ) := s a _ h fun _ z => HO.noConfusion z
theorem SameT.seq {K : PySem.W.Frag} {H H' : Hp} {a : Addr} {xs : List V} (s : SameT H H') (h : SqL K H a xs) : SqL K H' a xs := by
  rcases h with (h | ⟨o, h⟩) | h
  · exact .inl (.inl (s.lst h))
  · exact .inl (.inr ⟨o, s a _ h fun _ z => HO.noConfusion z⟩)
  · exact .inr h
theorem among_snoc {pos pos' : Pos} {c cv : Value} (l : List Value) (h : TriplesOk l) : codeAmong pos' (l ++ [rawInt pos.line, rawInt pos.col, c]) = some cv → codeAmong pos' l = some cv ∨ cv = c := by
  fun_induction TriplesOk l with
  | case1 =>
    intro e
    simp only [List.nil_append, codeAmong, rawInt] at e
    split at e
    · exact .inr (Option.some.inj e).symm
    · cases e
  | case2 a t b u x rest ih =>
    intro e
    simp only [List.cons_append, codeAmong] at e ⊢
    split at e
    · rename_i hc
      rw [if_pos hc]
      exact .inl e
    · rename_i hc
      rw [if_neg hc]
      exact ih h e
  | case3 l h1 h2 => exact h.elim
theorem cdO_ok {P : Program} {w : World} {H : Hp} {h : Heap} {c : Addr} {q : Str} (r : h.CodeRec (.ref c) q) : ObjOk P w H h c (cdO c q) := by
  obtain ⟨c', o, vs, t, e, g, d, v⟩ := id r
  cases e
  refine ⟨r, ⟨o, g⟩, fun h1 h2 r1 k => ?_⟩
  obtain ⟨c2, o2, vs2, t2, e2, g2, d2, v2⟩ := r1
  cases e2
  exact ⟨c, o2, vs2, t2, rfl, k _ g2, d2, v2⟩
section
variable {X : Cx} {pins : List (Addr × Obj)} {σ : St} {H : Hp} {s : Shared}
theorem Inv.table {h' : Heap} {tk : Nat} {P c' : Addr} {q : Str} {ps more : Array Value} (I : Inv X pins σ H s) (hP : H P = some (.tbl ps)) (hx : Heap.ExtBut P s.heap h') (hsz : s.heap.objs.size ≤ c')
    (hrec : h'.CodeRec (.ref c') q) (htb : h'.get? P = some (PySem.W.tabObj (ps ++ more))) :
    Inv X pins σ (upd (upd H P (.tbl (ps ++ more))) c' (cdO c' q)) { s with heap := h', toks := tk } := by
  have nP : ∀ b, H b = none → b ≠ P := fun b n e => by rw [e, hP] at n; cases n
  have hc : H c' = none := I.hok.fresh hsz
  have cP : c' ≠ P := nP c' hc
  have lt : ∀ b o, s.heap.get? b = some o → b ≠ c' := fun b o e z => absurd (Heap.lt_size e) (by rw [z]; exact Nat.not_lt.mpr hsz)
  have nc : ∀ b u, H b = some u → b ≠ c' := fun b u e z => by rw [z, hc] at e; cases e
  have up : ∀ b, b ≠ P → b ≠ c' → upd (upd H P (.tbl (ps ++ more))) c' (cdO c' q) b = H b := fun b n1 n2 => by rw [upd_ne n2, upd_ne n1]
  refine I.step (ch := []) (g' := s.gens) (d' := s.drawn) (fun _ z => nomatch z) (fun b o _ _ _ e n => hx b o (nP b n) e) (fun b o _ _ _ e n => ⟨o.slots, hx b o (nP b n) e⟩) (fun b o _ e n => by rw [up b (nP b n) (lt b o e)]; exact n)
    (fun b o _ e => ?_) (fun b xs e => ?_) (fun b o u e => ?_) (fun b ps' e => ?_) (fun m hm => hm.extBut hx (nP _ I.free)) (fun b u e => ?_) I.bare
  · by_cases h : b = P
    · rw [h]; exact ⟨_, htb⟩
    · exact ⟨o, hx b o h e⟩
  · rw [up b (fun z => by rw [z, hP] at e; cases e) (nc b _ e)]; exact e
  · rw [up b (fun z => by rw [z, hP] at e; cases e) (nc b _ e)]; exact e
  · by_cases h : b = P
    · rw [h, hP] at e
      cases e
      exact ⟨more, by rw [h, upd_ne (Ne.symm cP), upd_same]⟩
    · exact ⟨#[], by rw [up b h (nc b _ e), e]; simp⟩
  · by_cases h1 : b = c'
    · rw [h1, upd_same] at e
      cases e
      rw [h1]
      exact cdO_ok hrec
    · rw [upd_ne h1] at e
      by_cases h2 : b = P
      · rw [h2, upd_same] at e
        cases e
        rw [h2]
        exact htb
      · rw [upd_ne h2] at e
        refine (I.hok b u e).stay (fun c v hc' r => hx c v ?_ r) (fun c r => ?_) fun c xs r => ?_
        · rcases hc' with z | z
          · rw [z]; exact h2
          · intro z2; rw [z2, hP] at z; cases z
        · rw [up c (fun z => by rw [z, hP] at r; cases r) (nc c _ r)]; exact r
        · rw [up c (fun z => by rw [z, hP] at r; cases r) (nc c _ r)]; exact r
/-- the module __builtins__ -/
def Bm (mg : Str → Option Value) (base : Heap) : Prop := ∃ bm ob, mg "__builtins__" = some (.ref bm) ∧ bm ≠ builtinsNs ∧ base.get? bm = some ob ∧ ob.cls = .type "module" ∧ ob.dict = some builtinsNs ∧ ob.data = .plain
theorem lam_make {P c : Addr} {q : Str} {params : Arguments} {body : Expr} {scope : Scope} {lpos : Pos} {clos : List (Str × Addr)} {R : Value → Shared → Prop} {E : Value → Shared → Prop} {A : Around}
    (I : Inv X pins σ H s) (tb : Tb P q H) (hcode : X.env.code = .ref c) (C : PySem.W.CodeHd X.base c P) (B : Bm X.mg X.base) (hq : X.env.qual ++ "<lambda>" = q)
    (hdef : defaultsOf params X.env = ([], [])) (hcl : closureFor scope X.env = pure clos)
    (k : ∀ (f c' : Addr) (pm ctv : Value) (H' : Hp) (s' : Shared), SameT H H' → Tb P q H' → H' c' = some (cdO c' q) → s.heap.objs.size ≤ s'.heap.objs.size →
      Inv X ((f, PySem.W.kla_obj "<lambda>" q params body scope clos pm c' ctv) :: pins) σ H' s' → R (.ref f) s') :
    wpAny (model X.prog X.w) A (eval (.Lambda params body scope lpos) X.env) R E s := by
  refine PySem.W.kla_eval hdef ?_
  rw [hq]
  obtain ⟨ps, hP, ht, hc⟩ := tb
  have gP : s.heap.get? P = some (PySem.W.tabObj ps) := I.hok P _ hP
  obtain ⟨bm, ob, b1, b2, b3, b4, b5, b6⟩ := B
  have hgP : mainGlobals ≠ P := fun e => by
    obtain ⟨o, es, ep, g, d, _⟩ := I.mod.glob
    have z := (I.bs _ _ g).2
    rw [e, hP] at z
    cases z
  have hbP : bm ≠ P := fun e => by
    have z := (I.bs _ _ b3).2
    rw [e, hP] at z
    cases z
  have hbG : bm ≠ mainGlobals := fun e => by
    obtain ⟨o, es, ep, g, d, _⟩ := I.mod.glob
    rw [e, g] at b3
    cases b3
    rw [d] at b6
    cases b6
  have hB : s.heap.BuiltinsAt X.mg P := ⟨bm, ob, b1, b2, hbG, hbP, I.bk _ _ b3, b4, b5, b6⟩
  have hG : s.heap.Ns mainGlobals X.mg := I.mod.glob.keeps I.bk
  have fin : ∀ (H' : Hp) (h' : Heap) (tk : Nat) (o : Obj), o.isFreed = false → (∀ v, o.data ≠ .cell v) → s.heap.objs.size ≤ h'.objs.size → Inv X pins σ H' { s with heap := h', toks := tk } →
      Inv X ((h'.objs.size, o) :: pins) σ H' { s with heap := h'.push o, toks := tk } := fun H' h' tk o hfr hd hsz J => by
    have J2 : Inv X pins σ H' { s with heap := h'.push o, toks := tk } := J.kept (t' := tk) fun b u e => Heap.get?_push_of_some _ e
    refine J2.pins_of fun p hp => ?_
    rcases List.mem_cons.mp hp with rfl | hp
    · exact ⟨Heap.get?_push_size _ hfr, J.hok.fresh (Nat.le_refl _), Nat.ne_of_gt (Nat.lt_of_lt_of_le I.lt hsz), I.nofs hsz, hd⟩
    · exact J2.pin p (List.mem_append_right _ hp)
  have hsize : ∀ (h' : Heap) (o : Obj), s.heap.objs.size ≤ h'.objs.size → s.heap.objs.size ≤ (h'.push o).objs.size := fun h' o h => by rw [Heap.size_push]; exact Nat.le_succ_of_le h
  cases e : codeAmong lpos ps.toList with
  | none =>
    refine PySem.W.kla_makeFunction (mg := X.mg) (ps := ps) hcl I.ok.glob hG hcode (C.keeps I.bk) gP ht e hgP hB fun c' ctv h' tk hx hge hlt hrec htb => ?_
    have J := I.table (tk := tk) (q := q) hP hx hge hrec htb
    have hcf : H c' = none := I.hok.fresh hge
    have nP : P ≠ c' := fun z => by rw [z, hcf] at hP; cases hP
    refine k _ c' _ ctv _ _ (fun b o h n => ?_) ⟨_, by rw [upd_ne nP, upd_same], ?_, fun pos cv e2 => ?_⟩ upd_same (hsize h' _ (Nat.le_of_lt (Nat.lt_of_le_of_lt hge hlt))) (fin _ h' tk _ rfl (fun v z => by cases z) (Nat.le_of_lt (Nat.lt_of_le_of_lt hge hlt)) J)
    · rw [upd_ne (fun z => by rw [z, hcf] at h; cases h), upd_ne (fun z => by rw [z, hP] at h; exact n _ (Option.some.inj h).symm)]
      exact h
    · rw [Array.toList_append]
      exact TriplesOk_snoc _ _ _ _ ht
    · rw [Array.toList_append] at e2
      rcases among_snoc _ ht e2 with e3 | e3
      · obtain ⟨c1, z1, z2⟩ := hc _ _ e3
        exact ⟨c1, z1, by rw [upd_ne (fun z => by rw [z, hcf] at z2; cases z2), upd_ne (fun z => by rw [z, hP] at z2; cases z2)]; exact z2⟩
      · exact ⟨c', e3, upd_same⟩
  | some cv =>
    obtain ⟨c1, rfl, hc1⟩ := hc _ _ e
    refine PySem.W.kla_makeFunctionHit (mg := X.mg) (ps := ps) hcl I.ok.glob hG hcode (C.keeps I.bk) gP ht e hB fun ctv h' tk hk hsz => ?_
    exact k _ c1 _ ctv H _ (Same.refl H).toT ⟨ps, hP, ht, hc⟩ hc1 (hsize h' _ hsz) (fin H h' tk _ rfl (fun v z => by cases z) hsz (I.kept (t' := tk) hk))
/-- the lambda's body runs -/
def lamX (X : Cx) (A : Around) (N : List Str) (env : Env) (s : Shared) (H : Hp) : Cx where
  prog := X.prog
  w := X.w
  K := X.K
  mg := X.mg
  base := X.base
  A := A.deeper env
  N := N
  s₀ := s
  H₀ := H
  env := env
  outer := X.stack
  stack := env :: X.stack
  ex := []
  calm := true
  fn := fun _ => false
  pn := []
  xe := fun _ _ => False
theorem lam_call {A : Around} {f c' cc : Addr} {q x nm : Str} {params : Arguments} {body : Expr} {scope : Scope} {pm ctv u : Value} {j : Nat} {y v : V} {Q : VK} {t : TE} {E : Value → Shared → Prop}
    (I : Inv X pins σ H s) (hA : A.frames = some X.stack) (hd : A.handled = none) (hroom : A.depth < recursionLimit)
    (hf : (f, PySem.W.kla_obj "<lambda>" q params body scope [(nm, cc)] pm c' ctv) ∈ pins) (hc : H c' = some (cdO c' q))
    (hN : X.N[j]? = some nm) (hv : σ[j]? = some (some v)) (hk : X.env.kindOf nm = some .cell) (hcc : X.env.cells.lookup nm = some cc)
    (hnames : scope.names = [(x, .local), (nm, .free)]) (hxn : x ≠ nm) (hkind : scope.kind = .function) (hco : scope.isCoroutine = false) (hgen : scope.isGenerator = false)
    (hbind : ∀ w : Value, bindArgs (PySem.W.kla_fn "<lambda>" q params body scope [(nm, cc)] pm (.ref c') ctv) ⟨[w], []⟩ = pure [(x, w)])
    (ru : RelV y u) (hb : ∀ (env : Env) (s : Shared) (H : Hp), env.scope = scope → PE (lamX X A [x, nm] env s H) body t) (h : t [some y, some v] H Q) :
    wpAny (model X.prog X.w) A (call (.ref f) [u]) (EP X pins σ Q) E s := by
  have hx1 : scope.names.lookup x = some .local := by rw [hnames]; simp
  have hx2 : scope.names.lookup nm = some .free := by rw [hnames, List.lookup_cons, beq_false_of_ne (Ne.symm hxn)]; simp
  have hpf := I.pin _ (List.mem_append_right _ hf)
  have hrec : s.heap.CodeRec (.ref c') q := (I.hok c' _ hc).1
  have vis : Vis X.env.scope nm := .inr (.inl hk)
  obtain ⟨m, hns, hl⟩ := I.loc
  obtain ⟨u', rv, lk⟩ := hl j nm v hN hv vis
  have hcell : s.heap.IsCell cc (some u') := by
    rcases lk with ⟨z, _⟩ | ⟨_, c2, e2, z⟩
    · have : some NameKind.local = some NameKind.cell := z.symm.trans hk
      cases this
    · rw [hcc] at e2
      cases e2
      exact z
  refine wpAny_call (codeAny_mono (R := fun r s' => match r with | .ok (.ret u) => EP X pins σ Q u s' | _ => False)
    (PySem.W.kla_callFunE hroom hpf.1 rfl hco hgen rfl hrec ?_) fun r s' hq => ?_)
  · rw [hbind u]
    refine wpAny_pure (wpAny_newFunctionEnv (fun p hp => ?_) (fun p hp => ?_) (fun h₁ hn hsb => ⟨I.nolimit.fresh _ hsb, ?_⟩) hkind)
    · rw [show (PySem.W.kla_fn "<lambda>" q params body scope [(nm, cc)] pm (.ref c') ctv).scope = scope from rfl, hnames] at hp
      rcases List.mem_cons.mp hp with rfl | hp
      · intro z; cases z
      · rw [List.mem_singleton.mp hp]; intro z; cases z
    · rw [List.mem_singleton.mp hp]; exact hx1
    · have hk₁ : ∀ b o, s.heap.get? b = some o → h₁.get? b = some o := fun b o e => hsb.extBut b o (Nat.ne_of_lt (Heap.lt_size e)) (Heap.get?_push_of_some _ e)
      show codeAny _ _ (.expr body (PySem.W.envX q scope s.heap.objs.size f (.ref c') [(nm, cc)])) _ _
      have one : ∀ z c, ([(nm, cc)] : List (Str × Addr)).lookup z = some c → z = nm ∧ c = cc := fun z c e => by
        rw [List.lookup_cons] at e
        cases hz : z == nm with
        | true => rw [hz] at e; exact ⟨eq_of_beq hz, (Option.some.inj e).symm⟩
        | false => rw [hz] at e; cases e
      have J : Inv (lamX X A [x, nm] (PySem.W.envX q scope s.heap.objs.size f (.ref c') [(nm, cc)]) s H) [] [some y, some v] H { s with heap := h₁, toks := s.toks + [(x, u)].length } := by
        refine ⟨⟨I.ok.mod, hkind, rfl, rfl, Nat.le_refl _, fun a b c e1 e2 => (one _ _ e1).1.trans (one _ _ e2).1.symm, fun z hz => ?_, fun z c e1 e2 => Bool.noConfusion e1, fun _ => hd, Around.frames_deeper hA, .inr ⟨rfl, rfl⟩,
          fun b z => absurd (show b ∈ ([] : List Addr) from z) (by simp), I.bs, Nat.le_trans I.ok.bsz I.sz, fun b _ _ z => absurd (show b ∈ ([] : List Addr) from z) (by simp), fun b z => absurd (show b ∈ ([] : List Addr) from z) (by simp), I.stack, I.stkFree⟩,
          rfl, I.bare, Un.kept hk₁, ⟨_, hn, fun i n v' e1 e2 e3 => ?_⟩, fun z c e => ?_, I.hok.fresh (Nat.le_refl _), fun z c e => ?_, fun p hp => absurd (show p ∈ ([] : List (Addr × Obj)) from hp) (by simp), I.hok.kept hk₁, rfl⟩
        · have hz' : scope.names.lookup z = some .cell ∨ scope.names.lookup z = some .free := hz
          have hm : (z, NameKind.cell) ∈ scope.names ∨ (z, NameKind.free) ∈ scope.names := hz'.imp PySem.mem_of_lookup PySem.mem_of_lookup
          rw [hnames] at hm
          have hzn : z = nm := by
            rcases hm with hm | hm
            · rcases List.mem_cons.mp hm with e | e
              · cases e
              · cases List.mem_singleton.mp e
            · rcases List.mem_cons.mp hm with e | e
              · cases e
              · exact (Prod.mk.inj (List.mem_singleton.mp e)).1
          exact ⟨cc, by rw [hzn]; show ([(nm, cc)] : List (Str × Addr)).lookup nm = _; simp⟩
        · match i, e1, e2 with
          | 0, e1, e2 =>
            cases e1
            cases e2
            exact ⟨u, ru, .inl ⟨hx1, by simp⟩⟩
          | 1, e1, e2 =>
            cases e1
            cases e2
            obtain ⟨o, g, d⟩ := hcell
            exact ⟨u', rv, .inr ⟨.inr hx2, cc, by show ([(nm, cc)] : List (Str × Addr)).lookup nm = _; simp, o, hk₁ _ _ g, d⟩⟩
          | i + 2, e1, e2 => cases e1
        · obtain ⟨o, g, d⟩ := hcell
          rw [(one z c e).2]
          exact ⟨some u', o, hk₁ _ _ g, d⟩
        · rw [(one z c e).2]
          exact I.freeC nm cc hcc
      refine PySem.W.kla_codeExpr (wpAny_mono (hb (PySem.W.envX q scope s.heap.objs.size f (.ref c') [(nm, cc)]) s H rfl [] _ [some y, some v] H Q J h) (fun u2 s' hq => ?_) fun _ _ z => z.elim)
      obtain ⟨v', H', J', r', q'⟩ := hq
      exact I.after ⟨v', H', J'.os, J'.bare, J'.base, J'.hok, r', q'⟩
  · cases r with
    | error e => exact False.elim hq
    | ok fl =>
      cases fl with
      | ret u => exact hq
      | next => exact False.elim hq
      | brk => exact False.elim hq
      | cont => exact False.elim hq
end
end L2

set_option Elab.async false
set_option linter.all false
set_option maxRecDepth 100000
namespace L2
open PySem PySem.Spec PyProof.Rows
/-! ### list.sort(key=f) of a rising list of numbers, stable; f is any callable whose calls give numbers and change nothing -/
section
variable {prog : Program} {w : World} {A : Around} {E : Value → Shared → Prop} {s : Shared}
theorem collect_rng {Q : List Value → Shared → Prop} {r : Addr} {a b c : Int} {t u v : Tok} {n : Nat} (hh : A.handled = none) (hr : IsRange s.heap r a b c t u v) (hsmall : Builtin.Range.small a b c = true)
    (hn : Builtin.Range.rangeSize a b c = n) (hlen : n ≤ 2 ^ 24)
    (hQ : ∀ h' tk acc, (∀ b o, s.heap.get? b = some o → h'.get? b = some o) → s.heap.objs.size ≤ h'.objs.size → ItemsOf (fun i v => ∃ t, v = .int (a + i * c) t) acc n → Q acc.toList { s with heap := h', toks := tk }) :
    wpAny (model prog w) A (collect (.ref r)) Q E s := by
  unfold collect
  refine wpAny_bind (wpAny_runValue (codeAny_builtin F.entry_proto_collect ?_))
  rw [Around.under_plainId F.plain_proto_collect _]
  show wpAny _ A.in1 (newList [] >>= fun l => again (.builtin "list.__iadd__" ⟨[l, .ref r], []⟩)) _ _ s
  refine wpAny_bind (wpAny_newObj_type ?_)
  refine wpAny_pure ⟨plainId_quiet F.plain_list_iadd _, codeAny_builtin F.entry_list_iadd ?_⟩
  rw [Around.under_plainId F.plain_list_iadd _]
  have hS₁ : (s.heap.push { cls := .type "list", data := .seq ([] : List Value).toArray }).get? s.heap.objs.size = some { cls := .type "list", data := .seq ([] : List Value).toArray } := Heap.get?_push_size _ rfl
  show wpAny _ A.in1 (Builtin.List.listExtendWith (.ref s.heap.objs.size) (.ref r) (.ref s.heap.objs.size)) _ _ _
  have fin : ∀ (r : Result) (s' : Shared), (∃ h' tk acc' c', r = .ok (.ret (.ref s.heap.objs.size)) ∧ s' = { s with heap := h', toks := tk } ∧ (∀ b o, b ≠ s.heap.objs.size → (s.heap.push { cls := .type "list", data := .seq ([] : List Value).toArray }).get? b = some o → h'.get? b = some o) ∧
      h'.get? s.heap.objs.size = some { cls := .type "list", dict := none, data := .seq acc' c', slots := #[] } ∧ ItemsOf (fun i v => ∃ t, v = .int (a + i * c) t) acc' n) → ∃ h' tk acc' c', r = .ok (.ret (.ref s.heap.objs.size)) ∧ s' = { s with heap := h', toks := tk } ∧
      h'.get? s.heap.objs.size = some { cls := .type "list", dict := none, data := .seq acc' c', slots := #[] } ∧ Q acc'.toList s' := by
    rintro r s' ⟨h', tk, acc', c', e1, e2, hk, hS', hacc⟩
    refine ⟨h', tk, acc', c', e1, e2, hS', ?_⟩
    rw [e2]
    exact hQ h' tk acc' (fun b o e => hk b o (Nat.ne_of_lt (Heap.lt_size e)) (Heap.get?_push_of_some _ e)) (Nat.le_of_lt (Heap.lt_size hS')) hacc
  refine wpAny_mono (wpAny_extend_range (s := { s with heap := s.heap.push { cls := .type "list", data := .seq ([] : List Value).toArray } }) (R := fun r s' => ∃ h' tk acc' c', r = .ok (.ret (.ref s.heap.objs.size)) ∧ s' = { s with heap := h', toks := tk } ∧ (∀ b o, b ≠ s.heap.objs.size → (s.heap.push { cls := .type "list", data := .seq ([] : List Value).toArray }).get? b = some o → h'.get? b = some o) ∧
      h'.get? s.heap.objs.size = some { cls := .type "list", dict := none, data := .seq acc' c', slots := #[] } ∧ ItemsOf (fun i v => ∃ t, v = .int (a + i * c) t) acc' n) hh (Heap.get?_push_of_some _ hr) hsmall hn hlen s.heap.objs.size (.ref s.heap.objs.size) 0 hS₁
    fun h' tk acc' c' hk hS' hacc => ⟨h', tk, acc', c', rfl, rfl, hk, hS', hacc⟩) (fun f s' hf => ?_) fun e s' hf => ?_
  · cases f with
    | done f =>
      obtain ⟨h', tk, acc', c', e1, e2, hS', q⟩ := fin _ _ hf
      cases e1
      subst e2
      show wpAny _ A (load s.heap.objs.size >>= _) _ _ _
      exact wpAny_bind (wpAny_load hS' (wpAny_pure q))
    | again c' =>
      refine ⟨hf.1, codeAny_mono hf.2 fun r s' hr => ?_⟩
      obtain ⟨h', tk, acc', c', e1, e2, hS', q⟩ := fin _ _ hr
      subst e1 e2
      show wpAny _ A (load s.heap.objs.size >>= _) _ _ _
      exact wpAny_bind (wpAny_load hS' (wpAny_pure q))
  · obtain ⟨h', tk, acc', c', e1, _⟩ := hf
    cases e1
end
theorem keyed_zip {items : List Value} {ns : List Int} (hi : IntsAre items ns) {g : Int → Int} {keys : Array Value} (hk : IntsAre keys.toList (ns.map g)) {p : Keyed} (hp : p ∈ keys.toList.zip items) :
    ∃ z, z ∈ ns ∧ numOf p.2 = z ∧ numOf p.1 = g z ∧ ∃ t, p.2 = .int z t := by
  obtain ⟨i, hl, e⟩ := List.getElem_of_mem hp
  have h1 := hi.length
  have h2 := hk.length
  rw [List.length_map] at h2
  rw [List.length_zip] at hl
  have hn : i < ns.length := by omega
  obtain ⟨t1, e1⟩ := hi.get i ns[i] (List.getElem?_eq_getElem hn)
  obtain ⟨t2, e2⟩ := hk.get i (g ns[i]) (by rw [List.getElem?_map, List.getElem?_eq_getElem hn]; rfl)
  rw [List.getElem_zip] at e
  have e1' : items[i]'(by omega) = .int ns[i] t1 := Option.some.inj ((List.getElem?_eq_getElem _).symm.trans e1)
  have e2' : keys.toList[i]'(by omega) = .int (g ns[i]) t2 := Option.some.inj ((List.getElem?_eq_getElem _).symm.trans e2)
  rw [e1', e2'] at e
  subst e
  exact ⟨ns[i], List.getElem_mem hn, rfl, rfl, t1, rfl⟩
/-- what the sort leaves -/
theorem srt_out {items : List Value} {ns : List Int} (hi : IntsAre items ns) {g : Int → Int} {keys : Array Value} (hk : IntsAre keys.toList (ns.map g)) {xs : Array Keyed} (hp : xs.Perm (keys.zip items.toArray)) (hs : Stab.St xs xs.size) :
    ∃ ns' : List Int, IntsAre (xs.map (·.2)).toList ns' ∧ ns'.Perm ns ∧ ns'.Pairwise (fun x y => g x < g y ∨ (g x = g y ∧ x < y)) := by
  have hl : xs.toList.Perm (keys.toList.zip items) := by rw [← ksk_zip]; exact Array.perm_iff_toList_perm.mp hp
  have al : ∀ p ∈ xs.toList, ∃ z, z ∈ ns ∧ numOf p.2 = z ∧ numOf p.1 = g z ∧ ∃ t, p.2 = .int z t := fun p h => keyed_zip hi hk (hl.mem_iff.mp h)
  have len : keys.toList.length = items.length := by rw [hk.length, List.length_map, hi.length]
  refine ⟨xs.toList.map fun p => numOf p.2, ?_, ?_, ?_⟩
  · rw [Array.toList_map]
    have := intsAre_map (xs.toList.map (·.2)) fun v hv => by
      obtain ⟨p, hp', rfl⟩ := List.mem_map.mp hv
      obtain ⟨z, _, _, _, t, e⟩ := al p hp'
      exact ⟨z, t, e⟩
    rw [List.map_map] at this
    exact this
  · have h1 := hl.map fun p : Keyed => numOf p.2
    have h2 : (keys.toList.zip items).map (fun p : Keyed => numOf p.2) = ns := by
      rw [← hi.nums, show (fun p : Keyed => numOf p.2) = numOf ∘ Prod.snd from rfl, ← List.map_map, List.map_snd_zip (by omega)]
    rw [h2] at h1
    exact h1
  · rw [List.pairwise_map, List.pairwise_iff_getElem]
    intro i j h1 h2 hij
    have h1' : i < xs.size := by simpa using h1
    have h2' : j < xs.size := by simpa using h2
    have q := hs i j hij h2'
    obtain ⟨z1, _, a1, b1, _⟩ := al xs.toList[i] (List.getElem_mem h1)
    obtain ⟨z2, _, a2, b2, _⟩ := al xs.toList[j] (List.getElem_mem h2)
    rw [a1, a2]
    unfold Stab.Lx at q
    rw [K_eq h1', K_eq h2'] at q
    unfold Stab.V at q
    rw [getElem?_pos xs i h1', getElem?_pos xs j h2'] at q
    simp only [Array.getElem_toList] at a1 a2 b1 b2
    simp only [a1, a2, b1, b2] at q
    exact q
theorem srt_inc {items : List Value} {ns : List Int} (hi : IntsAre items ns) (inc : ns.Pairwise (· < ·)) {keys : Array Value} (hl : keys.size = items.length) : Stab.Inc (keys.zip items.toArray) := by
  intro i j hij hj
  have hz : (keys.zip items.toArray).size = items.length := by rw [Array.size_zip, hl, List.size_toArray, Nat.min_self]
  have h1 := hi.length
  have val : ∀ k (hk : k < items.length), Stab.V (keys.zip items.toArray) k = ns[k]'(by omega) := fun k hk => by
    obtain ⟨t, e⟩ := hi.get k ns[k] (List.getElem?_eq_getElem (by omega))
    unfold Stab.V
    rw [getElem?_pos (keys.zip items.toArray) k (by omega)]
    simp only [Array.getElem_zip, List.getElem_toArray]
    rw [Option.some.inj ((List.getElem?_eq_getElem hk).symm.trans e)]
    rfl
  rw [val i (by omega), val j (by omega)]
  exact List.pairwise_iff_getElem.mp inc i j (by omega) (by omega) hij
section
variable {X : Cx} {A : Around} {pins : List (Addr × Obj)} {σ : St} {E : Value → Shared → Prop} {a kS f : Addr} {items : List Value} {ns : List Int} {g : Int → Int} {e1 : Nat} {Pst : PySem.Fin → Shared → Prop}
theorem srt_tail {H : Hp} {s : Shared} {st : SortSt} {keys : Array Value} (hi : IntsAre items ns) (h64 : ns.length < 64) (hk : IntsAre keys.toList (ns.map g))
    (I : Inv X ((a, seqObj "list" #[] e1) :: pins) σ (upd H kS (.lst (vI (ns.map g)))) s) (hkS : H kS = none) (a0 : X.s₀.heap.objs.size ≤ a) (aC : ∀ x c, X.env.cells.lookup x = some c → c ≠ a) (aP : ∀ p ∈ X.pn ++ pins, p.1 ≠ a)
    (hp : (arrOf st).Perm (keys.zip items.toArray)) (hs : Stab.St (arrOf st) (arrOf st).size) (hfl : failedOf st = none)
    (k : ∀ (H' : Hp) (s' : Shared) (ns' : List Int), Same H H' → H a = none → H' a = some (.lst (vI ns')) → ns'.Perm ns → ns'.Pairwise (fun x y => g x < g y ∨ (g x = g y ∧ x < y)) → Inv X pins σ H' s' → Pst (.done (.ret .none)) s') :
    wpAny (model X.prog X.w) A (ksk_tail a false e1 (.ref kS) st) Pst E s := by
  have hsz : sizeLine = 16777216 := sizeLine_eq
  obtain ⟨ns', o1, o2, o3⟩ := srt_out hi hk hp hs
  have pa := I.pin (a, seqObj "list" #[] e1) (List.mem_append_right _ List.mem_cons_self)
  obtain ⟨ga, na, aL, aF, _⟩ := pa
  have hak : a ≠ kS := fun z => by
    have na' : upd H kS (.lst (vI (ns.map g))) a = none := na
    rw [z, upd_same] at na'
    cases na'
  have hHa : H a = none := by
    have na' : upd H kS (.lst (vI (ns.map g))) a = none := na
    rw [upd_ne hak] at na'
    exact na'
  obtain ⟨z, its, n, rv, hl, gk⟩ := I.lstM (l := kS) upd_same
  have hil : its.length = ns.length := by rw [← hl, vI_len, List.length_map]
  have s1 := Heap.SameBut.update s.heap kS (Obj.mapSeq fun _ => (#[] : Array Value))
  have I1 : Inv X ((a, seqObj "list" #[] e1) :: pins) σ (upd (upd H kS (.lst (vI (ns.map g)))) kS (.lst [])) { s with heap := s.heap.update kS (Obj.mapSeq fun _ => (#[] : Array Value)), toks := s.toks } :=
    I.lset (its' := []) (f := fun _ => #[]) upd_same gk rfl .nil (Nat.zero_le _)
  rw [upd_upd] at I1
  have ga1 : (s.heap.update kS (Obj.mapSeq fun _ => (#[] : Array Value))).get? a = some (seqObj "list" #[] e1) := (s1.2 a hak).trans ga
  have osz : ((arrOf st).map (·.2)).size = ns'.length := by rw [← o1.length, Array.length_toList]
  have o2l := o2.length_eq
  unfold ksk_tail
  try dsimp only
  refine wpAny_bind (listUpdate_at gk rfl ?_ (by rw [List.size_toArray]; omega) (Nat.zero_le _))
  refine wpAny_bind (wpAny_letGo ?_)
  refine wpAny_bind (seqEpoch_at ga1 rfl ?_)
  refine wpAny_bind (listUpdate_at ga1 rfl ?_ (Nat.zero_le _) (by simp only [Bool.false_eq_true, if_false]; rw [osz]; omega))
  rw [hfl]
  simp only [bne_self_eq_false, Bool.false_eq_true, if_false]
  refine wpAny_pure ?_
  have I1' : Inv X pins σ (upd H kS (.lst [])) { s with heap := s.heap.update kS (Obj.mapSeq fun _ => (#[] : Array Value)), toks := s.toks } := I1.pins_of fun p hp => I1.pin p (List.mem_append_right _ (List.mem_cons_of_mem _ hp))
  have ha1 : upd H kS (.lst []) a = none := by rw [upd_ne hak]; exact hHa
  generalize hh1 : s.heap.update kS (Obj.mapSeq fun _ => (#[] : Array Value)) = h1 at ga1 I1' ⊢
  have s2 := Heap.SameBut.update h1 a (Obj.mapSeq fun _ => (arrOf st).map (·.2))
  obtain ⟨c2, hc2⟩ : ∃ c2, (h1.update a (Obj.mapSeq fun _ => (arrOf st).map (·.2))).get? a = some (seqObj "list" ((arrOf st).map (·.2)) c2) := ⟨_, get?_update_seq ga1 fun _ => (arrOf st).map (·.2)⟩
  have nit : ∀ b u, upd H kS (.lst []) b = some u → b ≠ a := fun b u e z => by rw [z, ha1] at e; cases e
  have J : Inv X pins σ (upd (upd H kS (.lst [])) a (.lst (vI ns'))) { s with heap := h1.update a (Obj.mapSeq fun _ => (arrOf st).map (·.2)), toks := s.toks } := by
    refine Inv.step (s := { s with heap := h1, toks := s.toks }) I1' (g' := s.gens) (d' := s.drawn) (ch := [a]) (fun b hb => ?_) (fun b o _ _ hc e _ => (s2.2 b (fun z => hc (by simp [z]))).trans e) (fun b o _ _ hc e _ => ⟨o.slots, (s2.2 b (fun z => hc (by simp [z]))).trans e⟩)
      (fun b o hc e n => by rw [upd_ne (fun z => hc (by simp [z]))]; exact n) (fun b o hc e => ⟨o, (s2.2 b (fun z => hc (by simp [z]))).trans e⟩) (fun b xs e => by rw [upd_ne (nit b _ e)]; exact e) (fun b o u e => by rw [upd_ne (nit b _ e)]; exact e)
      (fun b ps e => ⟨#[], by rw [upd_ne (nit b _ e), e]; simp⟩) (fun m hm => hm.sameBut s2 (Ne.symm aL)) (fun b u e => ?_) I1'.bare
    · have e : b = a := by simpa using hb
      rw [e]
      exact ⟨.inr a0, aL, aC, aP⟩
    · by_cases hb : b = a
      · rw [hb, upd_same] at e
        cases e
        rw [hb]
        exact ⟨by rw [vI_len]; omega, ((arrOf st).map (·.2)).toList, c2, vals_ints o1, hc2⟩
      · rw [upd_ne hb] at e
        refine (I1'.hok b u e).stay (fun c v hc q => (s2.2 c ?_).trans q) (fun c q => by rw [upd_ne (nit c _ q)]; exact q) fun c xs q => by rw [upd_ne (nit c _ q)]; exact q
        rcases hc with z | z
        · rw [z]; exact hb
        · exact nit c _ z
  refine k _ _ ns' (fun b o h => ?_) hHa upd_same o2 o3 J
  rw [upd_ne (fun z => by rw [z, hHa] at h; cases h), upd_ne (fun z => by rw [z, hkS] at h; cases h)]
  exact h
theorem srt_end {H : Hp} {s : Shared} {keys : Array Value} (hi : IntsAre items ns) (inc : ns.Pairwise (· < ·)) (h64 : ns.length < 64) (hk : IntsAre keys.toList (ns.map g))
    (I : Inv X ((a, seqObj "list" #[] e1) :: pins) σ (upd H kS (.lst (vI (ns.map g)))) s) (hkS : H kS = none) (a0 : X.s₀.heap.objs.size ≤ a) (aC : ∀ x c, X.env.cells.lookup x = some c → c ≠ a) (aP : ∀ p ∈ X.pn ++ pins, p.1 ≠ a)
    (k : ∀ (H' : Hp) (s' : Shared) (ns' : List Int), Same H H' → H a = none → H' a = some (.lst (vI ns')) → ns'.Perm ns → ns'.Pairwise (fun x y => g x < g y ∨ (g x = g y ∧ x < y)) → Inv X pins σ H' s' → Pst (.done (.ret .none)) s') :
    wpAny (model X.prog X.w) A (ksk_end a false items.toArray e1 (.ref kS) keys) Pst E s := by
  have h1 := hi.length
  have hsz : keys.size = items.length := by
    have h2 := hk.length
    rw [Array.length_toList, List.length_map] at h2
    omega
  have hzs : (keys.zip items.toArray).size = items.length := by rw [Array.size_zip, hsz, List.size_toArray, Nat.min_self]
  unfold ksk_end
  try dsimp only
  simp only [Bool.false_eq_true, if_false]
  by_cases h2 : items.toArray.size < 2
  · rw [if_pos h2, if_pos h2]
    refine wpAny_bind (wpAny_pure ?_)
    rw [StateT.run_pure]
    refine wpAny_bind (wpAny_pure ?_)
    try dsimp only
    refine srt_tail (st := SortSt.mk' general' (keys.zip items.toArray) #[] 7 none) hi h64 hk I hkS a0 aC aP (Array.Perm.refl _) ?_ rfl k
    intro i j hij hj
    have hj2 : j < (keys.zip items.toArray).size := hj
    rw [hzs] at hj2
    rw [List.size_toArray] at h2
    omega
  · rw [if_neg h2, if_neg h2]
    rw [List.size_toArray] at h2
    rw [ksk_kind hk (by rw [hsz]; omega)]
    refine wpAny_bind (wpAny_pure ?_)
    refine wpAny_bind (wpAny_mono (Stab.st_sortRuns (a₀ := keys.zip items.toArray) (st := SortSt.mk' oneType' (keys.zip items.toArray) #[] 7 none)
      (Q := fun _ st' => (arrOf st').Perm (keys.zip items.toArray) ∧ failedOf st' = none ∧ Stab.St (arrOf st') (keys.zip items.toArray).size)
      (ksk_intKeys hk) (srt_inc hi inc hsz) ⟨Array.Perm.refl _, rfl, rfl, rfl⟩ rfl (by rw [hzs]; omega) (by rw [hzs]; omega) fun st' a1 a2 a3 => ⟨a1, a2, a3⟩) ?_ fun _ _ e => e)
    rintro ⟨⟨⟩, st'⟩ s' ⟨rfl, hp, hf, hs⟩
    try dsimp only
    exact srt_tail hi h64 hk I hkS a0 aC aP hp (by rw [hp.size_eq]; exact hs) hf k
theorem srt_tree {H : Hp} {s : Shared} {n0 : Nat} (I : Inv X pins σ H s) (ha : H a = none) (hoa : s.heap.get? a = some (seqObj "list" items.toArray n0)) (a0 : X.s₀.heap.objs.size ≤ a) (aL : a ≠ X.env.locals) (aF : a ∉ X.fs)
    (aC : ∀ x c, X.env.cells.lookup x = some c → c ≠ a) (aP : ∀ p ∈ X.pn ++ pins, p.1 ≠ a) (hi : IntsAre items ns) (inc : ns.Pairwise (· < ·)) (h64 : ns.length < 64)
    (turn : ∀ (z : Int) (t : Tok) (pl : List (Addr × Obj)) (H' : Hp) (s' : Shared), z ∈ ns → Same H H' → Inv X (pl ++ pins) σ H' s' →
      wpAny (model X.prog X.w) A (call (.ref f) [.int z t]) (fun u s'' => (∃ t', u = .int (g z) t') ∧ Inv X (pl ++ pins) σ H' s'') (fun _ _ => False) s')
    (k : ∀ (H' : Hp) (s' : Shared) (ns' : List Int), Same H H' → H a = none → H' a = some (.lst (vI ns')) → ns'.Perm ns → ns'.Pairwise (fun x y => g x < g y ∨ (g x = g y ∧ x < y)) → Inv X pins σ H' s' → Pst (.done (.ret .none)) s') :
    wpAny (model X.prog X.w) A (ksk_tree a (.ref f) false) Pst E s := by
  have hsz : sizeLine = 16777216 := sizeLine_eq
  have hl := hi.length
  have s1 := Heap.SameBut.update s.heap a (Obj.mapSeq fun _ => (#[] : Array Value))
  obtain ⟨e1, ho1⟩ : ∃ e1, (s.heap.update a (Obj.mapSeq fun _ => (#[] : Array Value))).get? a = some (seqObj "list" #[] e1) := ⟨_, get?_update_seq hoa fun _ => #[]⟩
  have alt : a < s.heap.objs.size := Heap.lt_size hoa
  unfold ksk_tree
  refine wpAny_bind (listItems_at hoa rfl ?_)
  refine wpAny_bind (listUpdate_at hoa rfl ?_ (by rw [List.size_toArray]; omega) (Nat.zero_le _))
  refine wpAny_bind (seqEpoch_at ho1 rfl ?_)
  refine wpAny_bind (wpAny_newTuple ?_ (by show items.length ≤ _; omega))
  refine wpAny_bind (wpAny_newList ?_ (Nat.zero_le _))
  refine wpAny_holding ?_
  have I1 : Inv X pins σ H { s with heap := s.heap.update a (Obj.mapSeq fun _ => (#[] : Array Value)), toks := s.toks } := I.turned (it := a) (fun b o hb e => (s1.2 b hb).trans e) ha aL (.inr a0) aC aP
  have I2 : Inv X pins σ H { s with heap := (s.heap.update a (Obj.mapSeq fun _ => (#[] : Array Value))).push (seqObj "tuple" items.toArray 0), toks := s.toks } := I1.kept (t' := s.toks) fun b u e => Heap.get?_push_of_some _ e
  have I3 := I2.lnew (its := []) (ys := []) (t' := s.toks) .nil (Nat.zero_le _)
  have ho3 := Heap.get?_push_of_some { cls := .type "list", data := .seq ([] : List Value).toArray } (Heap.get?_push_of_some (seqObj "tuple" items.toArray 0) ho1)
  have hkn := I2.fresh
  dsimp only at I3 ho3 hkn ⊢
  generalize hkS : ((s.heap.update a (Obj.mapSeq fun _ => (#[] : Array Value))).push (seqObj "tuple" items.toArray 0)).objs.size = kS at I3 hkn ⊢
  have hak : a ≠ kS := by
    rw [← hkS, size_push', Heap.size_update]
    exact Nat.ne_of_lt (Nat.lt_succ_of_lt alt)
  have I4 : Inv X ((a, seqObj "list" #[] e1) :: pins) σ (upd H kS (.lst (vI ((ns.map g).take 0)))) { s with heap := ((s.heap.update a (Obj.mapSeq fun _ => (#[] : Array Value))).push (seqObj "tuple" items.toArray 0)).push { cls := .type "list", data := .seq ([] : List Value).toArray }, toks := s.toks } :=
    I3.pins_of fun p hp => by
      rcases List.mem_cons.mp hp with rfl | hp
      · exact ⟨ho3, by rw [upd_ne hak]; exact ha, aL, aF, fun v z => by cases z⟩
      · exact I3.pin p (List.mem_append_right _ hp)
  have sameU : ∀ l, Same H (upd H kS (.lst l)) := fun l b o h => by rw [upd_ne (fun z => by rw [z, hkn] at h; cases h)]; exact h
  unfold ksk_rest
  refine wpAny_bind (wpAny_rule ?_)
  first
    | rw [List.forIn_toArray]
    | (rw [← Array.forIn_toList]; simp only [List.toList_toArray])
    | rw [← Array.forIn_toList]
  refine wpAny_bind (ksk_fold (fun i s' => Inv X ((a, seqObj "list" #[] e1) :: pins) σ (upd H kS (.lst (vI ((ns.map g).take i)))) s') items 0 _ I4 ?step ?done)
  case step =>
    rintro j x s' hx J
    simp only [Nat.zero_add] at J ⊢
    have hj : j < items.length := (List.getElem?_eq_some_iff.mp hx).1
    obtain ⟨z, t, rfl, hz⟩ := hi.at j x hx
    refine wpAny_bind (wpAny_attempt (wpAny_mono (turn z t [(a, seqObj "list" #[] e1)] _ s' (List.mem_of_getElem? hz) (sameU _) J) (fun u s'' he => ?_) fun _ _ hF => hF.elim))
    obtain ⟨⟨t', rfl⟩, J2⟩ := he
    try dsimp only
    obtain ⟨_, its, n, rv, hl2, gk⟩ := J2.lstM (l := kS) upd_same
    have hil : its.length ≤ ns.length := by
      rw [← hl2, vI_len, List.length_take, List.length_map]
      exact Nat.min_le_right _ _
    refine wpAny_bind (listUpdate_at gk rfl ?_ (by rw [List.size_toArray]; omega) (Nat.le_trans (Nat.le_of_eq (Array.size_push ..)) (by rw [List.size_toArray]; omega)))
    refine wpAny_pure ⟨rfl, ?_⟩
    have ek : (ns.map g).take (j + 1) = (ns.map g).take j ++ [g z] := by rw [List.take_add_one, List.getElem?_map, hz]; rfl
    have J3 := J2.lset (its' := its ++ [.int (g z) t']) (ys := vI ((ns.map g).take (j + 1))) (f := (·.push (.int (g z) t'))) (t' := s''.toks) upd_same gk (by simp) (by
      rw [ek]
      unfold vI
      rw [List.map_append]
      exact rv.append (.cons ⟨t', rfl⟩ .nil)) (by rw [vI_len, List.length_take, List.length_map]; have := Nat.min_le_right (j + 1) ns.length; omega)
    rw [upd_upd] at J3
    exact J3
  case done =>
    rintro s' J
    have e3 : (ns.map g).take (0 + items.length) = ns.map g := List.take_of_length_le (by rw [List.length_map]; omega)
    rw [e3] at J
    obtain ⟨_, its, n, rv, hl2, gk⟩ := J.lstM (l := kS) upd_same
    try dsimp only
    refine wpAny_bind (listItems_at gk rfl ?_)
    exact srt_end hi inc h64 (by simpa using intsAre_of rv) J hkn a0 aC aP k
end
end L2

set_option Elab.async false
set_option linter.all false
set_option maxRecDepth 100000
namespace L2
open PySem PySem.Spec PyProof.Rows
section
variable {X : Cx} {K : PySem.W.Frag}
/-- sorted(range, key=lambda x: -nm[x]): by falling nm, at one value by number -/
def tSortKey (K : PySem.W.Frag) (P : Addr) (q : Str) (j : Nat) (te : TE) : TE := fun σ H Q => te σ H fun x H1 => ∃ (p : Addr) (lo hi : Int) (n : Nat) (a : Addr) (ks : List Int), x = .ref p ∧ H1 p = some (rngO p lo hi 1) ∧ Builtin.Range.small lo hi 1 = true ∧
  Builtin.Range.rangeSize lo hi 1 = (n : Int) ∧ n < 64 ∧ σ[j]? = some (some (.ref a)) ∧ SqL K H1 a (vI ks) ∧ 0 ≤ lo ∧ lo.toNat + n ≤ ks.length ∧ Tb P q H1 ∧
  ∀ l H2 ns', SameT H1 H2 → Tb P q H2 → H1 l = none → H2 l = some (.lst (vI ns')) → ns'.Perm (rngL lo 1 n) →
    ns'.Pairwise (fun x y => -(ks.getD x.toNat 0) < -(ks.getD y.toNat 0) ∨ (-(ks.getD x.toNat 0) = -(ks.getD y.toNat 0) ∧ x < y)) → Q (.ref l) H2
theorem rngL_inc (lo : Int) (n : Nat) : (rngL lo 1 n).Pairwise (· < ·) := by
  unfold rngL
  rw [List.pairwise_map]
  exact List.pairwise_lt_range.imp fun {a b} h => by omega
theorem rngL_len (lo : Int) (n : Nat) : (rngL lo 1 n).length = n := by unfold rngL; rw [List.length_map, List.length_range]
theorem items_rng {lo : Int} {n : Nat} {acc : Array Value} (h : ItemsOf (fun i v => ∃ t, v = .int (lo + i * 1) t) acc n) : IntsAre acc.toList (rngL lo 1 n) := by
  refine intsAre_of (vals_ptw _ _ (by rw [List.length_map, rngL_len, Array.length_toList, h.1]) fun i x u e1 e2 => ?_)
  obtain ⟨z, hz1, rfl⟩ := vI_got e1
  obtain ⟨t', rfl⟩ := h.2 i u (by rw [← Array.getElem?_toList]; exact e2)
  have hin : i < n := by
    have := (List.getElem?_eq_some_iff.mp e1).1
    rwa [List.length_map, rngL_len] at this
  unfold rngL at hz1
  rw [List.getElem?_map, List.getElem?_range hin] at hz1
  cases hz1
  exact ⟨t', rfl⟩
theorem clos_one {scope : Scope} {env : Env} {x nm : Str} {cc : Addr} (hnames : scope.names = [(x, .local), (nm, .free)]) (hcc : env.cells.lookup nm = some cc) : closureFor scope env = pure [(nm, cc)] := by
  have hc : cellOf env nm = pure cc := by unfold cellOf; rw [hcc]
  unfold closureFor
  rw [hnames]
  simp only [List.forIn_cons, List.forIn_nil, hc, pure_bind, show (NameKind.local == NameKind.free) = false from rfl, show (NameKind.free == NameKind.free) = true from rfl, if_true, if_false, Bool.false_eq_true]
theorem pe_sortKey {P c : Addr} {q x nm : Str} {j : Nat} {e : Expr} {te : TE} {p1 pos kp lpos b1 b2 b3 b4 : Pos} {params : Arguments} {scope : Scope}
    (hg : Gl X "sorted") (hm : X.mg "sorted" = none) (he : PE X e te) (C : PySem.W.CodeHd X.base c P) (B : Bm X.mg X.base) (hr : Room 2 X.A) (hcode : X.env.code = .ref c := by rfl) (hq : X.env.qual ++ "<lambda>" = q := by rfl)
    (hN : X.N[j]? = some nm := by rfl) (hkd : X.env.kindOf nm = some .cell := by rfl) (hnames : scope.names = [(x, .local), (nm, .free)] := by rfl) (hxn : x ≠ nm := by decide) (hkind : scope.kind = .function := by rfl) (hco : scope.isCoroutine = false := by rfl) (hgen : scope.isGenerator = false := by rfl)
    (hdef : defaultsOf params X.env = ([], []) := by rfl)
    (hbind : ∀ (cc c' : Addr) (pm ctv w : Value), bindArgs (PySem.W.kla_fn "<lambda>" q params (.UnaryOp .USub (.Subscript (.Name nm b1) (.Name x b2) b3) b4) scope [(nm, cc)] pm (.ref c') ctv) ⟨[w], []⟩ = pure [(x, w)] := by intros; rfl)
    (hd1 : (x == ("__debug__" : Str)) = false := by decide) (hd2 : (x == ("__classdict__" : Str)) = false := by decide) (hd3 : (nm == ("__debug__" : Str)) = false := by decide) (hd4 : (nm == ("__classdict__" : Str)) = false := by decide)
    (hK : X.K = K := by rfl) (hc : X.calm = true := by rfl)
    (hs : backTo pos (starEach [e] X.env) = (false, eval e X.env) :: backTo pos (starEach [] X.env) := by rfl)
    (hplain : (backTo pos (starEach [e] X.env)).any (·.1) = false := by rfl) :
    PE X (.Call (.Name "sorted" p1) [e] [⟨some "key", .Lambda params (.UnaryOp .USub (.Subscript (.Name nm b1) (.Name x b2) b3) b4) scope lpos, kp⟩] pos) (tSortKey K P q j te) := by
  subst hK
  intro pins s σ H Q I h
  have hsz : sizeLine = 16777216 := sizeLine_eq
  refine wpAny_Call_Name_kw (ld_blt I hg hm bt_sorted ?_ (by decide) (by decide))
  refine callWith_kw ?_ hs hplain rfl rfl
  rw [hs]
  refine Calls.spliced_cons (thn (he pins s σ H _ I h) fun u s1 ⟨y, H1, I1, r1, q1⟩ => Calls.spliced_nil ?_)
  obtain ⟨p, lo, hi, n, a, ks, rfl, hp, hsm, hn, h64, hσ, hS, h0, hlen, tb, k⟩ := q1
  cases r1
  obtain ⟨cc, hcc⟩ := I1.ok.has nm (.inl hkd)
  refine kws_cons (lam_make I1 tb hcode C B hq hdef (clos_one hnames hcc) fun f c' pm ctv H2 s2 t2 tb2 hc2 hz2 I2 => kws_nil ?_)
  show wpAny _ _ (call (.builtin "sorted") [.ref p] [(Str.ofString "key", .ref f)]) _ _ _
  refine call_function_entry_kw kind_sorted plain_sorted entry_sorted (ksk_s1 _ _) ?_
  unfold Builtin.«sorted»
  refine wpAny_bind (m := checkCount "sorted" 1 1 _) (wpAny_pure ?_)
  obtain ⟨⟨t, u, v, hrg⟩, _, _⟩ := I2.hok p _ (t2.ext hp)
  refine wpAny_bind (collect_rng (I2.ok.hd hc) hrg hsm hn (by omega) fun h3 tk3 acc hk3 hz3 hit => ?_)
  have hi3 := items_rng hit
  have hl3 : acc.toList.length = n := by rw [hi3.length, rngL_len]
  refine wpAny_bind (wpAny_newList ?_ (by omega))
  have I3 := I2.kept (t' := tk3) (h' := h3.push { cls := .type "list", data := .seq acc.toList.toArray }) fun b u e => Heap.get?_push_of_some _ (hk3 b u e)
  have hoL : (h3.push { cls := .type "list", data := .seq acc.toList.toArray }).get? h3.objs.size = some (seqObj "list" acc.toList.toArray 0) := Heap.get?_push_size _ rfl
  have hge : s2.heap.objs.size ≤ h3.objs.size := hz3
  have fr2 : H2 h3.objs.size = none := I2.hok.fresh hge
  have fr1 : H1 h3.objs.size = none := I1.hok.fresh (Nat.le_trans hz2 hge)
  refine wpAny_bind (wpAny_holding (wpAny_call_entry_kw slot_list_sort ⟨_, hoL, rfl⟩ entry_list_sort ?body (ksk_l1 _ _)))
  case body =>
    show wpAny (model X.prog X.w) X.A.in1.in1 (Builtin.«list.sort» ⟨[.ref h3.objs.size], [(Str.ofString "key", .ref f)]⟩) _ _ _
    rw [ksk_t1]
    refine srt_tree (g := fun z => -(ks.getD z.toNat 0)) I3 fr2 hoL (Nat.le_trans I2.sz hge) (Nat.ne_of_gt (Nat.lt_of_lt_of_le I2.lt hge)) (I2.nofs hge) (fun z c e => ?_) (fun pp hpp => ?_) hi3 (rngL_inc lo n) (by rw [rngL_len]; exact h64)
      (fun z t pl H' s' hz sm J => ?_) fun H4 s4 ns' sm ha ha4 pm4 pw4 I4 => ⟨_, rfl, ?_⟩
    · obtain ⟨v, hv⟩ := I2.cell z c e
      exact Nat.ne_of_lt (Nat.lt_of_lt_of_le hv.lt hge)
    · exact Nat.ne_of_lt (Nat.lt_of_lt_of_le (Heap.lt_size (I2.pin pp hpp).1) hge)
    · obtain ⟨i, hin, ez⟩ : ∃ i : Nat, i < n ∧ z = lo + i := by
        unfold rngL at hz
        obtain ⟨i, hi1, hi2⟩ := List.mem_map.mp hz
        exact ⟨i, List.mem_range.mp hi1, by omega⟩
      have hzl : z.toNat < ks.length := by omega
      have hx2 : scope.names.lookup nm = some .free := by rw [hnames, List.lookup_cons, beq_false_of_ne (Ne.symm hxn)]; simp
      have hx1 : scope.names.lookup x = some .local := by rw [hnames]; simp
      refine wpAny_mono (lam_call (y := .int z) (v := .ref a) (Q := fun v H'' => v = .int (-(ks.getD z.toNat 0)) ∧ H'' = H') J I.ok.frames (I.ok.hd hc) (by have := hr.dp; show X.A.depth < _; omega)
        (List.mem_append_right _ List.mem_cons_self) (sm _ _ hc2) hN hσ hkd hcc hnames hxn hkind hco hgen (hbind cc c' pm ctv) ⟨t, rfl⟩
        (fun env s H hes => pe_un un_neg (pe_ix (ix_listK (K := X.K)) (pe_var (i := 1) rfl (.inr (.inr (by show env.scope.names.lookup nm = _; rw [hes]; exact hx2))) hd3 hd4) (pe_var (i := 0) rfl (.inl (by show env.scope.names.lookup x = _; rw [hes]; exact hx1)) hd1 hd2) (fun _ _ => rfl)))
        ⟨_, rfl, _, rfl, a, vI ks, z, .int (ks.getD z.toNat 0), rfl, rfl, sm.seq (t2.seq hS), ?_, _, rfl, rfl, rfl⟩) (fun u s'' ⟨v, H'', J2, rv, ev, eh⟩ => ?_) fun _ _ z => z
      · refine atI_of (by omega) ?_
        unfold vI
        rw [List.getElem?_map, List.getElem?_eq_getElem hzl, List.getD_eq_getElem?_getD, List.getElem?_eq_getElem hzl]
        rfl
      · subst ev eh
        exact ⟨rv, J2⟩
    · refine wpAny_pure ⟨_, rfl, .ref h3.objs.size, H4, I4.pins_of fun pp hpp => I4.pin pp (List.mem_append_right _ (List.mem_cons_of_mem _ hpp)), rfl, ?_⟩
      exact k _ H4 ns' (t2.trans sm.toT) (tb2.same sm) fr1 ha4 pm4 pw4
end
end L2

set_option Elab.async false
set_option linter.all false
set_option maxRecDepth 100000
namespace L2
open PySem PySem.Spec PyProof.Rows
/-! ### the head where a def's code table grows: base hides it -/
theorem tab_in {K : PySem.W.Frag} {x : Str} {f c P : Addr} {fd : FuncData} {oc o1 : Value} {od o2 : Option Addr} {osl o3 : Array (Option Value)} {vs : Array Value} (hn : PySem.W.nsIn K mainGlobals x = some (some (.ref f)))
    (lk : K.lookup f = some ⟨oc, od, .func fd, osl⟩) (hc : fd.code = .ref c) (lc : K.lookup c = some ⟨o1, o2, .fields vs, o3⟩) (hv : (vs[11]? : Option Value) = some (.ref P)) : PySem.W.tabIn K x = some (c, P) := by
  unfold PySem.W.tabIn
  rw [hn]
  simp only [lk, hc, lc, hv]
theorem Fun.okC {P : Program} {w : World} {K : PySem.W.Frag} {mg : Str → Option Value} {base : Heap} {x qual : Str} {st : Stmt} {f c : Addr} {fd : FuncData} {N ps : List Str} {k : Nat} {sp : Sp} (F : Fun K x qual st f fd) (hc : fd.code = .ref c) (S : FnScope N ps (defScope st))
    (len : ∀ vs H Q E, sp vs H Q E → vs.length = ps.length)
    (hbody : ∀ (A : Around) (outer : List Env) (s : Shared) (H : Hp) (vs : List V) (Q : VK) (E : XK), Room k (A.deeper (envOfC qual (defScope st) s.heap.objs.size f (.ref c))) → sp vs H Q E →
      ∃ t, PSs (cxOf CX0 P w K mg base N qual (defScope st) f (.ref c) A outer s H E).nox (defBody st) t ∧ t { nx := fun _ H' => Q .non H', rt := Q } (start N vs) H) : FnOk P w K mg base CX0 (k + 1) f fd ps sp := by
  obtain ⟨oc, od, kV, doc, pm, an, cdv, ct, osl, rfl, lk, hcd⟩ := F.ex
  have e : cdv = .ref c := hc
  subst e
  refine fn_of lk hcd S len fun A outer s H vs Q E hr hsp => ?_
  obtain ⟨t, h, q⟩ := hbody A outer s H vs Q E hr hsp
  exact ⟨t, h.nox, q⟩
theorem law_callT {P : Program} {w : World} {K : PySem.W.Frag} {mg mb : Str → Option Value} {CX : CXT} {k : Nat} {fa a c T : Addr} {q : Str} {fd : FuncData} {x : Str} {sp : Sp} {s₁ : Shared} {vs : List Value} {ns : List Int}
    (KX : K.In s₁.heap) (hns : s₁.heap.Ns mainGlobals mg) (hb : s₁.heap.Ns builtinsNs mb) (hbb : ∀ x : Str, x ≠ "__name__" → mb x = bootBuiltins x) (hlim : s₁.heap.NoLimit) (hg : s₁.gens = #[])
    (ha : s₁.heap.get? a = some { cls := .type "list", data := .seq vs.toArray }) (hi : IntsAre vs ns) (hl : ns.length ≤ sizeLine) (hr : Room k callerA)
    (hC : PySem.W.CodeHd s₁.heap c T) (hT : s₁.heap.get? T = some (PySem.W.tabObj #[])) (hKT : K.lookup T = none) (hbm : Bm mg s₁.heap)
    (F : ∀ base : Heap, K.In base → base.Ns mainGlobals mg → PySem.W.CodeHd base c T → Bm mg base → FnOk P w K mg base CX k fa fd [x] sp) (hbind : ∀ (s : Shared) (u : Value), BindsTo s fd ⟨[u], []⟩ [(x, u)])
    (hsp : ∀ H : Hp, SqL K H a (ns.map V.int) → Tb T q H → sp [.ref a] H (fun v _ => v = .bl true) fun _ _ _ => False)
    (hCX : ∀ H e s', CX [] H s₁ (fun _ _ _ => False) e s' → False) :
    codeAny (model P w) callerA (.call (.ref fa) ⟨[.ref a], []⟩) (fun r s' => r = .ok (.ret (.bool true)) ∧ OldK s₁.heap s'.heap ∧ s'.os = s₁.os ∧ AllBare s'.gens) s₁ := by
  have rv := vals_ints hi
  have lenV := hi.length
  have aT : a ≠ T := fun e => by rw [e, hT] at ha; cases ha
  have core : ∀ H : Hp, H T = some (.tbl #[]) → (∀ b u, H b = some u → b = T ∨ (b = a ∧ ∃ o xs, u = .frz o (.lst xs))) → SqL K H a (ns.map V.int) → HOk P w H s₁.heap → (H a ≠ none → K.lookup a = none) →
      codeAny (model P w) callerA (.call (.ref fa) ⟨[.ref a], []⟩) (fun r s' => r = .ok (.ret (.bool true)) ∧ OldK s₁.heap s'.heap ∧ s'.os = s₁.os ∧ AllBare s'.gens) s₁ := by
    intro H hHT hA hS hok hK
    have base_of : ∀ {b : Addr} {o : Obj}, s₁.heap.get? b = some o → H b = none → (hidT s₁.heap H).get? b = some o := fun e n => hidT_get e n
    have noA : ∀ {b : Addr} {o : Obj}, s₁.heap.get? b = some o → o.cls ≠ .type "list" ∨ (∃ es ep, o.data = .dict es ep) → o.cls ≠ .none ∨ (∃ es ep, o.data = .dict es ep) → H b = none := fun {b o} e d d2 => by
      cases q : H b with
      | none => rfl
      | some u =>
        exfalso
        rcases hA b u q with e' | ⟨e', _⟩
        · rw [e', hT] at e
          cases e
          rcases d2 with d2 | ⟨es, ep, d2⟩
          · exact d2 rfl
          · have d' : Data.fields _ = Data.dict es ep := d2
            cases d'
        · rw [e', ha] at e
          cases e
          rcases d with d | ⟨es, ep, d⟩
          · exact d rfl
          · have d' : Data.seq vs.toArray _ = Data.dict es ep := d
            cases d'
    have nsK : ∀ {b : Addr} {m : Str → Option Value}, s₁.heap.Ns b m → (hidT s₁.heap H).Ns b m := fun {b m} ⟨o, es, ep, e, d, r⟩ => ⟨o, es, ep, base_of e (noA e (.inr ⟨es, ep, d⟩) (.inr ⟨es, ep, d⟩)), d, r⟩
    have hKb : K.In (hidT s₁.heap H) := fun b o e => base_of (KX b o e) (by
      cases q : H b with
      | none => rfl
      | some u =>
        exfalso
        rcases hA b u q with e' | ⟨e', _⟩
        · rw [e', hKT] at e; cases e
        · rw [e', hK (by rw [← e', q]; simp)] at e; cases e)
    have hM : Mod K mg (hidT s₁.heap H) := ⟨hKb, nsK hns, ⟨mb, nsK hb, hbb⟩, let ⟨mc, h1, h2⟩ := hlim; ⟨mc, nsK h1, h2⟩⟩
    have hCb : PySem.W.CodeHd (hidT s₁.heap H) c T := by
      obtain ⟨o, vs', file, tf, flags, tg, inF, text, tt, e1, r1, r⟩ := hC
      exact ⟨o, vs', file, tf, flags, tg, inF, text, tt, base_of e1 (noA e1 (.inl (by rw [r1]; decide)) (.inl (by rw [r1]; intro z; cases z))), r1, r⟩
    have hBb : Bm mg (hidT s₁.heap H) := by
      obtain ⟨bm, ob, b1, b2, b3, b4, r⟩ := hbm
      exact ⟨bm, ob, b1, b2, base_of b3 (noA b3 (.inl (by rw [b4]; decide)) (.inl (by rw [b4]; intro z; cases z))), b4, r⟩
    have e0 : Env0 P w K mg (hidT s₁.heap H) callerA [] s₁ H := ⟨rfl, hM, fun b o e => of_hidT e, Nat.le_of_eq (hidT_size _ _), trivial, fun b hb => absurd (show b ∈ ([] : List Addr) from hb) (by simp), hok, .of_eq hg⟩
    have tb : Tb T q H := ⟨#[], hHT, trivial, fun pos cv e => by cases e⟩
    refine codeAny_mono ((F _ hKb (nsK hns) hCb hBb).run callerA [] s₁ H ⟨[.ref a], []⟩ [.ref a] [.ref a] _ _ hr e0 (hbind s₁ (.ref a)) (.cons rfl .nil) (hsp H hS tb)) fun r s' h => ?_
    cases r with
    | error e => exact (hCX H e s' h).elim
    | ok fl =>
      cases fl with
      | next => exact False.elim h
      | brk => exact False.elim h
      | cont => exact False.elim h
      | ret u =>
        obtain ⟨v, H', os, bare, un, hok', r', q'⟩ := h
        have q2 : v = .bl true := q'
        subst q2
        obtain rfl : u = Value.bool true := r'
        refine ⟨rfl, ⟨fun b o e => ?_, fun b o e => un.there b o e (by simp)⟩, os, bare⟩
        cases q : H b with
        | none => exact .inl (un.keep b o e q (by intro z; exact absurd (show b ∈ ([] : List Addr) from z) (by simp)) (by simp))
        | some u =>
          rcases hA b u q with z | ⟨z, ob, xs, zu⟩
          · subst z
            obtain ⟨more, e2⟩ := un.tbls b #[] hHT
            have e3 : s'.heap.get? b = some (PySem.W.tabObj (#[] ++ more)) := hok' b _ e2
            rw [hT] at e
            cases e
            exact .inr (.inl ⟨(hC.tab hT).isCodeTable, rfl, #[], more, rfl, e3⟩)
          · subst zu
            have z2 := un.frzs b ob _ q
            obtain ⟨e1, _⟩ := hok b _ q
            obtain ⟨e2, _⟩ := hok' b _ z2
            rw [e] at e1; cases e1
            exact .inl e2
  cases hk : K.lookup a with
  | some o =>
    have e := KX a o hk
    rw [ha] at e
    cases e
    refine core (fun b => if b = T then some (.tbl #[]) else none) (if_pos rfl) (fun b u z => ?_) (.inr ⟨_, vs.toArray, _, hk, rfl, rfl, rfl, by rw [List.size_toArray, lenV]; exact hl, by simpa using rv⟩) (fun b u z => ?_) fun z => absurd (if_neg aT) z
    · by_cases hb : b = T
      · exact .inl hb
      · have z' := (if_neg hb).symm.trans z
        cases z'
    · by_cases hb : b = T
      · have z' := (if_pos hb).symm.trans z
        cases z'
        rw [hb]
        exact hT
      · have z' := (if_neg hb).symm.trans z
        cases z'
  | none =>
    refine core (fun b => if b = T then some (.tbl #[]) else if b = a then some (.frz { cls := .type "list", data := .seq vs.toArray } (.lst (ns.map V.int))) else none) (if_pos rfl) (fun b u z => ?_)
      (.inl (.inr ⟨{ cls := .type "list", data := .seq vs.toArray }, (if_neg aT).trans (if_pos rfl)⟩)) (fun b u z => ?_) fun _ => hk
    · by_cases hb : b = T
      · exact .inl hb
      · have z' := (if_neg hb).symm.trans z
        by_cases hb2 : b = a
        · have z2 := (if_pos hb2).symm.trans z'
          exact .inr ⟨hb2, _, _, (Option.some.inj z2).symm⟩
        · have z2 := (if_neg hb2).symm.trans z'
          cases z2
    · by_cases hb : b = T
      · have z' := (if_pos hb).symm.trans z
        cases z'
        rw [hb]
        exact hT
      · have z' := (if_neg hb).symm.trans z
        by_cases hb2 : b = a
        · have z2 := (if_pos hb2).symm.trans z'
          cases z2
          rw [hb2]
          exact ⟨ha, by rw [List.length_map]; exact hl, vs, _, rv, ha⟩
        · have z2 := (if_neg hb2).symm.trans z'
          cases z2
/-- the last theorem's step, for a text in which the def x makes lambdas -/
theorem walk_ofT {l : PySem.W.OpenLaw} {n k : Nat} {q : Program} {loose : List Str} {XP : (Str → Option Value) → Heap → Prop} {YP : World → Heap → Prop} {d d' : DefRec} {K : Params → PySem.W.Frag} {CX : CXT} {sp : PySem.W.Frag → Addr → Sp} {x y qn : Str}
    (hn : l.most = some n) (hn2 : n ≤ sizeLine) (hdf : d.params.defaults = []) (hr : Room k callerA)
    (hY : ∀ (w : World) (h : Heap), YP w h → (K w.params).In h) (hrec : (recsOf q).find? (fun e => e.name == y) = some d')
    (F : ∀ (w : World) (mg : Str → Option Value) (fa : Addr) (h : Heap), (K w.params).In h → h.Ns mainGlobals mg → mg d.name = some (.ref fa) →
      ∃ (fd : FuncData) (c T : Addr), (∀ (s : Shared) (u : Value), BindsTo s fd ⟨[u], []⟩ [(x, u)]) ∧ PySem.W.tabIn (K w.params) y = some (c, T) ∧ PySem.W.noTabs (K w.params) = true ∧
        ∀ base : Heap, (K w.params).In base → base.Ns mainGlobals mg → PySem.W.CodeHd base c T → Bm mg base → FnOk l.prog w (K w.params) mg base CX k fa fd [x] (sp (K w.params) T))
    (hsp : ∀ (K : PySem.W.Frag) (T : Addr) (H : Hp) (a : Addr) (ns : List Int), ns.length ≤ n → SqL K H a (ns.map V.int) → Tb T qn H → sp K T [.ref a] H (fun v _ => v = .bl true) fun _ _ _ => False)
    (hCX : ∀ (H : Hp) (s : Shared) (e : Value) (s' : Shared), CX [] H s (fun _ _ _ => False) e s' → False) :
    PySem.W.WalkO q loose XP YP l.row.toRowW d [] (fun f vs => PySem.call f vs) := by
  refine Att.attach_call hn hdf fun w s₀ s₁ mg mb fa o pm cd doc a vs ns G Y ho hd hcd hmg hobj hints hlen hg => ?_
  have KX := hY w _ Y
  obtain ⟨fd, c, T, hb, hT, hKT0, hF⟩ := F w mg fa _ KX G.T.g hmg
  obtain ⟨hC, hT2⟩ := PySem.W.tab_of G.T KX hrec hT
  have hKT : (K w.params).lookup T = none := by
    cases e : (K w.params).lookup T with
    | none => rfl
    | some o =>
      exfalso
      have h1 := KX T o e
      rw [hT2] at h1
      cases h1
      have h2 := List.all_eq_true.mp hKT0 (T, PySem.W.tabObj #[]) (PySem.W.mem_of_lookupK e)
      exact absurd (show false = true from h2) Bool.false_ne_true
  exact law_callT KX G.T.g G.T.b G.T.builtins G.T.nolimit hg hobj hints (Nat.le_trans hlen hn2) hr hC hT2 hKT G.T.bmain hF hb (fun H hS tb => hsp _ T H a ns hlen hS tb) fun H e s' => hCX H s₁ e s'
end L2

set_option Elab.async false
set_option linter.all false
set_option maxRecDepth 100000
namespace L2
open PySem PySem.Spec PyProof.Rows
/-! ### reversed(list), walked by a loop or a comprehension -/
def Itv (K : PySem.W.Frag) (a : Addr) (n : Nat) : It :=
  ⟨fun i H => ∃ xs x, SqL K H a xs ∧ xs.length = n ∧ i < n ∧ xs.reverse[i]? = some x, fun i H x H' => H' = H ∧ ∀ xs, SqL K H a xs → xs.reverse[i]? = some x, fun i H => n = i⟩
theorem comp_fr0 {X : Cx} {scope : Scope} (hd : ∀ y ∈ scope.names, y.2 ≠ .free) : ∀ y ∈ scope.names, y.2 = .free → X.env.scope.names.lookup y.1 = some .cell ∧ scope.names.lookup y.1 = some .free := fun y hy e => absurd e (hd y hy)
section
variable {X : Cx} {tg : Expr}
def iRevL (K : PySem.W.Frag) (ta : TA) : TI := fun σ H R => ta σ H fun vs H1 => ∃ a xs, vs = [.ref a] ∧ SqL K H1 a xs ∧ R (Itv K a xs.length) H1
end
end L2

namespace Mine
open L2
/-- the signs of a cloth: # is 35, . is 46 -/
def Sg (c : Nat) : Prop := c = 35 ∨ c = 46
structure Cl (cl : List (List Nat)) (m n : Nat) : Prop where
  hn : cl.length = n
  hm : ∀ t ∈ cl, t.length = m
  sg : ∀ t ∈ cl, ∀ c ∈ t, Sg c
  m1 : 1 ≤ m
  m40 : m ≤ 40
  n1 : 1 ≤ n
  n40 : n ≤ 40
def flip (c : Nat) : Nat := if c = 35 then 46 else 35
def back (cl : List (List Nat)) : List (List Nat) := cl.map fun t => t.reverse.map flip
def col (cl : List (List Nat)) (e : Nat) : List Nat := cl.map fun t => t.getD e 0
def quart (cl : List (List Nat)) (m : Nat) : List (List Nat) := (List.range m).map fun e => (col cl e).map flip
/-- the sign at a place of the cloth without end -/
def sgn (cl : List (List Nat)) (m n : Nat) (x y : Int) : Nat := (cl.getD (y % (n : Int)).toNat []).getD (x % (m : Int)).toNat 0
end Mine

set_option linter.all false
namespace Mine
open L2
/-- how often a stretch of ln places from st on meets the rest s of c -/
def met (st ln c s : Int) : Int := ln / c + (if (s - st) % c < ln % c then 1 else 0)
/-! ### sums -/
def sumN (f : Nat → Int) : Nat → Int
  | 0 => 0
  | k + 1 => sumN f k + f k
/-- the sum of g at the rests of n places from st on -/
def runS (g : Nat → Int) (st : Int) (c : Nat) : Nat → Int
  | 0 => 0
  | n + 1 => runS g st c n + g ((st + (n : Int)) % (c : Int)).toNat
/-- 1 where an end lies over -/
def isH (cl : List (List Nat)) (p e : Nat) : Int := if (cl.getD p []).getD e 0 = 35 then 1 else 0
/-- the answer of the program -/
def inPick (cl : List (List Nat)) (m : Nat) (left wide : Int) (p : Nat) : Int := sumN (fun e => if (cl.getD p []).getD e 0 = 35 then met left wide (m : Int) (e : Int) else 0) m
def overs (cl : List (List Nat)) (m n : Nat) (left first wide high : Int) : Int := sumN (fun p => inPick cl m left wide p * met first high (n : Int) (p : Int)) n
/-- the count, place by place -/
def cnt (cl : List (List Nat)) (m n : Nat) (left first : Int) (wide high : Nat) : Int := runS (fun p => runS (isH cl p) left m wide) first n high
end Mine

set_option linter.all false
namespace Mine
open L2
/-- the scores of a cloth's strands -/
def scores (cl : List (List Nat)) (m : Nat) : List Int := ((List.range m).map fun e => (((col cl e).count 35 : Nat) : Int)) ++ cl.map fun t => ((t.count 46 : Nat) : Int)
theorem scores_len (cl : List (List Nat)) (m : Nat) : (scores cl m).length = m + cl.length := by
  unfold scores
  rw [List.length_append, List.length_map, List.length_map, List.length_range]
end Mine

set_option linter.all false
namespace Mine
open L2
/-- a cloth repeated ac times side by side and al times one above the other -/
def wid (cl : List (List Nat)) (ac : Nat) : List (List Nat) := cl.map fun t => (List.replicate ac t).flatten
def til (cl : List (List Nat)) (ac al : Nat) : List (List Nat) := (List.replicate al (wid cl ac)).flatten
theorem rep_len {α : Type} (l : List α) : ∀ k, ((List.replicate k l).flatten).length = k * l.length
  | 0 => by simp
  | k + 1 => by rw [List.replicate_succ, List.flatten_cons, List.length_append, rep_len l k, Nat.add_mul, Nat.one_mul]; omega
theorem rep_mem {α : Type} {l : List α} {x : α} : ∀ {k}, x ∈ (List.replicate k l).flatten → x ∈ l
  | 0, h => by simp at h
  | k + 1, h => by
    rw [List.replicate_succ, List.flatten_cons] at h
    rcases List.mem_append.mp h with h | h
    · exact h
    · exact rep_mem h
theorem rep_get {α : Type} (l : List α) : ∀ (k i : Nat), i < k * l.length → ((List.replicate k l).flatten)[i]? = l[i % l.length]?
  | 0, i, h => by simp at h
  | k + 1, i, h => by
    rw [List.replicate_succ, List.flatten_cons]
    by_cases hi : i < l.length
    · rw [List.getElem?_append_left hi, Nat.mod_eq_of_lt hi]
    · rw [Nat.add_mul, Nat.one_mul] at h
      rw [List.getElem?_append_right (by omega), rep_get l k (i - l.length) (by omega)]
      congr 1
      exact (Nat.mod_eq_sub_mod (by omega)).symm
theorem Cl.til {cl : List (List Nat)} {m n ac al : Nat} (h : Cl cl m n) (h1 : 1 ≤ ac) (h2 : 1 ≤ al) (h3 : ac * m ≤ 40) (h4 : al * n ≤ 40) : Cl (til cl ac al) (ac * m) (al * n) where
  hn := by unfold Mine.til; rw [rep_len]; unfold wid; rw [List.length_map, h.hn]
  hm := fun t ht => by
    obtain ⟨s, hs, rfl⟩ := List.mem_map.mp (rep_mem ht)
    rw [rep_len, h.hm s hs]
  sg := fun t ht c hc => by
    obtain ⟨s, hs, rfl⟩ := List.mem_map.mp (rep_mem ht)
    exact h.sg s hs c (rep_mem hc)
  m1 := Nat.mul_pos h1 h.m1
  m40 := h3
  n1 := Nat.mul_pos h2 h.n1
  n40 := h4
end Mine

set_option linter.all false
namespace Mine
open L2
/-- the signs of a half cloth: ? is 63 -/
def Sq3 (c : Nat) : Prop := c = 35 ∨ c = 46 ∨ c = 63
structure Hc (cl : List (List Nat)) (m n : Nat) : Prop where
  hn : cl.length = n
  hm : ∀ t ∈ cl, t.length = m
  sg : ∀ t ∈ cl, ∀ c ∈ t, Sq3 c
  m2 : 2 ≤ m
  m40 : m ≤ 40
  n2 : 2 ≤ n
  n40 : n ≤ 40
def sg2 (cl : List (List Nat)) (p e : Nat) : Nat := (cl.getD p []).getD e 0
/-- a rising list of numbers from 0 to below N -/
def Up (N : Int) (ks : List Int) : Prop := (∀ (i : Nat) (a b : Int), ks[i]? = some a → ks[i + 1]? = some b → a < b) ∧ ∀ k ∈ ks, 0 ≤ k ∧ k < N
def GoodSet (N : Int) (ks : List Int) : Prop := ks ≠ [] ∧ Up N ks
/-! ### what lies below -/
def lowE (cl : List (List Nat)) (m e : Nat) (k : Nat) : List Int := ((List.range k).filter fun p => decide (sg2 cl p e ≠ 46)).map fun p => (m : Int) + ((p : Nat) : Int)
def lowP (t : List Nat) (k : Nat) : List Int := ((List.range k).filter fun e => decide (t.getD e 0 ≠ 35)).map fun e => ((e : Nat) : Int)
def lows (cl : List (List Nat)) (m : Nat) : List (List Int) := ((List.range m).map fun e => lowE cl m e cl.length) ++ cl.map fun t => lowP t m
/-- no strand that is not in the set lies, or may lie, over one of it -/
def NoWay (cl : List (List Nat)) (m n : Nat) (ks : List Int) : Prop := ∀ (s : Nat) (l : List Int), s < m + n → (s : Int) ∉ ks → (lows cl m)[s]? = some l → ∀ r ∈ l, r ∉ ks
def CutAt (cl : List (List Nat)) (m : Nat) (ks : List Int) (p e : Nat) : Prop := ((e : Int) ∈ ks → ((m : Int) + (p : Int)) ∉ ks → sg2 cl p e = 35) ∧ (((m : Int) + (p : Int)) ∈ ks → (e : Int) ∉ ks → sg2 cl p e = 46)
end Mine

set_option linter.all false
namespace Mine
open L2
/-- a way of so many steps -/
inductive Wy (tss : List (List Int)) (s : Nat) : Nat → Nat → Prop where
  | nil : Wy tss s 0 s
  | snoc {v w L : Nat} (h : Wy tss s L v) (e : (w : Int) ∈ tss.getD v []) : Wy tss s (L + 1) w
/-- what a search has found: each strand with the one ahead of it, and how far it is -/
structure Bf (tss : List (List Int)) (s : Nat) (ps : List (Nat × Option Nat)) (dp : List Nat) : Prop where
  len : dp.length = ps.length
  st : ps[0]? = some (s, none) ∧ dp[0]? = some 0
  nd : ∀ (i j v : Nat) (a b : Option Nat), ps[i]? = some (v, a) → ps[j]? = some (v, b) → i = j
  lt : ∀ (v : Nat) (a : Option Nat), (v, a) ∈ ps → v < tss.length
  par : ∀ (i v : Nat) (a : Option Nat), 0 < i → ps[i]? = some (v, a) → ∃ (j u : Nat) (b : Option Nat) (d : Nat), a = some u ∧ j < i ∧ ps[j]? = some (u, b) ∧ dp[j]? = some d ∧ dp[i]? = some (d + 1) ∧ (v : Int) ∈ tss.getD u []
  mono : ∀ (i j a b : Nat), i ≤ j → dp[i]? = some a → dp[j]? = some b → a ≤ b
/-- of those ahead of a place all that lies below is found -/
def Dn (tss : List (List Int)) (ps : List (Nat × Option Nat)) (dp : List Nat) (pl : Nat) : Prop :=
  ∀ (i u : Nat) (b : Option Nat) (a : Nat), i < pl → ps[i]? = some (u, b) → dp[i]? = some a → ∀ w : Nat, (w : Int) ∈ tss.getD u [] → ∃ (j : Nat) (c : Option Nat) (x : Nat), ps[j]? = some (w, c) ∧ dp[j]? = some x ∧ x ≤ a + 1
/-- a list of strands, each above the next -/
def Pth (tss : List (List Int)) (l : List Nat) : Prop := ∀ (i a b : Nat), l[i]? = some a → l[i + 1]? = some b → (b : Int) ∈ tss.getD a []
end Mine

set_option linter.all false
namespace Mine
open L2
/-- a set of strands, as the program has it -/
structure NS (N : Nat) (ws : List Nat) : Prop where
  ne : ws ≠ []
  up : ws.Pairwise (· < ·)
  lt : ∀ v ∈ ws, v < N
def cI (ws : List Nat) : List Int := ws.map fun v => ((v : Nat) : Int)
theorem nodup_sub : ∀ (l ws : List Nat), l.Nodup → (∀ v ∈ l, v ∈ ws) → l.length ≤ ws.length
  | [], ws, _, _ => Nat.zero_le _
  | a :: l, ws, nd, h => by
    obtain ⟨na, nl⟩ := List.nodup_cons.mp nd
    have ha := h a List.mem_cons_self
    have := nodup_sub l (ws.erase a) nl fun v hv => by
      refine (List.mem_erase_of_ne (fun (e : v = a) => na (by rw [← e]; exact hv))).mpr (h v (List.mem_cons_of_mem _ hv))
    rw [List.length_erase_of_mem ha] at this
    have : 0 < ws.length := List.length_pos_of_mem ha
    rw [List.length_cons]
    omega
/-- what lies below, within the set -/
def narR (tss : List (List Int)) (ws : List Nat) (v : Nat) : List Int := (tss.getD v []).filter fun z => decide (z ∈ cI ws)
def narK (tss : List (List Int)) (ws us : List Nat) : List (List Int) := (List.range tss.length).map fun v => if v ∈ us then narR tss ws v else []
def nar (tss : List (List Int)) (ws : List Nat) : List (List Int) := narK tss ws ws
/-- each strand of the set reaches each other -/
def Conn (tss : List (List Int)) (ws : List Nat) : Prop := ∀ u ∈ ws, ∀ v ∈ ws, ∃ L, Wy (nar tss ws) u L v
/-- a part that can be lifted off -/
structure Lf (tss : List (List Int)) (ws fs : List Nat) : Prop where
  ne : fs ≠ []
  len : fs.length < ws.length
  sub : ∀ v ∈ fs, v ∈ ws
  up : fs.Pairwise (· < ·)
  off : ∀ o ∈ ws, o ∉ fs → ∀ v ∈ fs, (v : Int) ∉ tss.getD o []
/-- a way round -/
structure Rd (tss : List (List Int)) (ws found : List Nat) : Prop where
  fst : found[0]? = ws[0]?
  ins : ∀ v ∈ found, v ∈ ws
  all : ∀ v ∈ ws, v ∈ found
  len : found.length ≤ ws.length * ws.length
  one : ws.length = 1 → found = ws
  nxt : 1 < ws.length → ∀ i a b : Nat, found[i]? = some a → found[(i + 1) % found.length]? = some b → (b : Int) ∈ tss.getD a []
/-- the way round, as far as it has been gone -/
structure Wk (tss : List (List Int)) (ws : List Nat) (f i : Nat) (as bs : List Nat) (c : Nat) : Prop where
  e : as = bs ++ [c]
  fst : as[0]? = some f
  ins : ∀ v ∈ as, v ∈ ws
  has : ∀ v ∈ ws.take (i + 1), v ∈ as
  pth : Pth (nar tss ws) as
  len : as.length ≤ 1 + i * (ws.length - 1)
  lst : (i = 0 ∧ as = [f]) ∨ (0 < i ∧ c ≠ f)
end Mine

set_option linter.all false
namespace Mine
/-! ### sums over lists of numbers -/
def sm (f : Nat → Nat) : List Nat → Nat
  | [] => 0
  | x :: l => f x + sm f l
theorem sm_app (f : Nat → Nat) : ∀ a b : List Nat, sm f (a ++ b) = sm f a + sm f b
  | [], b => by simp [sm]
  | x :: a, b => by rw [List.cons_append]; show f x + sm f (a ++ b) = f x + sm f a + sm f b; rw [sm_app f a b]; omega
theorem sm_perm (f : Nat → Nat) {a b : List Nat} (h : a.Perm b) : sm f a = sm f b := by
  induction h with
  | nil => rfl
  | cons x _ ih => show f x + _ = f x + _; rw [ih]
  | swap x y l => show f y + (f x + _) = f x + (f y + _); omega
  | trans _ _ h1 h2 => rw [h1, h2]
theorem sm_le (f g : Nat → Nat) (h : ∀ x, f x ≤ g x) : ∀ l, sm f l ≤ sm g l
  | [] => Nat.le_refl _
  | x :: l => Nat.add_le_add (h x) (sm_le f g h l)
theorem sm_add (f g : Nat → Nat) : ∀ l, sm (fun x => f x + g x) l = sm f l + sm g l
  | [] => rfl
  | x :: l => by show f x + g x + sm _ l = f x + sm f l + (g x + sm g l); rw [sm_add f g l]; omega
theorem sm_const (c : Nat) : ∀ l : List Nat, sm (fun _ => c) l = l.length * c
  | [] => by simp [sm]
  | x :: l => by show c + sm _ l = (l.length + 1) * c; rw [sm_const c l, Nat.succ_mul]; omega
theorem sm_one (f : Nat → Nat) (h : ∀ x, f x ≤ 1) (l : List Nat) : sm f l ≤ l.length := by
  have := sm_le f (fun _ => 1) h l
  rw [sm_const] at this
  omega
theorem sm_ext (f g : Nat → Nat) (h : ∀ x, f x = g x) (l : List Nat) : sm f l = sm g l := by rw [funext h]
def b2n (b : Bool) : Nat := if b = true then 1 else 0
theorem b2n_le (b : Bool) : b2n b ≤ 1 := by cases b <;> decide
theorem b2n_not (b : Bool) : b2n b + b2n (!b) = 1 := by cases b <;> decide
/-- over how many an end lies; over how many a pick lies -/
def aS (up : Nat → Nat → Bool) (n e : Nat) : Nat := sm (fun p => b2n (up e p)) (List.range n)
def bS (up : Nat → Nat → Bool) (m p : Nat) : Nat := sm (fun e => b2n (!up e p)) (List.range m)
theorem cross (up : Nat → Nat → Bool) (T : List Nat) : ∀ S : List Nat, sm (fun e => sm (fun p => b2n (up e p)) T) S + sm (fun p => sm (fun e => b2n (!up e p)) S) T = S.length * T.length
  | [] => by
    show 0 + sm (fun _ => 0) T = _
    rw [sm_const]
    simp
  | e :: S => by
    have ih := cross up T S
    have h1 : sm (fun p => sm (fun e => b2n (!up e p)) (e :: S)) T = sm (fun p => b2n (!up e p)) T + sm (fun p => sm (fun e => b2n (!up e p)) S) T := sm_add (fun p => b2n (!up e p)) (fun p => sm (fun e => b2n (!up e p)) S) T
    have h2 : sm (fun p => b2n (up e p)) T + sm (fun p => b2n (!up e p)) T = T.length := by
      rw [← sm_add, sm_ext _ (fun _ => 1) (fun p => b2n_not _), sm_const, Nat.mul_one]
    rw [h1]
    show sm (fun p => b2n (up e p)) T + sm (fun e => sm (fun p => b2n (up e p)) T) S + _ = (S.length + 1) * T.length
    rw [Nat.succ_mul]
    omega
theorem low_of (up : Nat → Nat → Bool) {m n : Nat} {S S' T T' : List Nat} (hS : (S ++ S').Perm (List.range m)) (hT : (T ++ T').Perm (List.range n)) :
    sm (aS up n) S + sm (bS up m) T + S.length * T.length ≤ S.length * n + T.length * m := by
  have hm : S.length + S'.length = m := by have := hS.length_eq; rwa [List.length_append, List.length_range] at this
  have hn : T.length + T'.length = n := by have := hT.length_eq; rwa [List.length_append, List.length_range] at this
  have h1 : sm (aS up n) S ≤ sm (fun e => sm (fun p => b2n (up e p)) T) S + S.length * T'.length := by
    rw [← sm_const, ← sm_add]
    refine sm_le _ _ (fun e => ?_) S
    unfold aS
    rw [← sm_perm _ hT, sm_app]
    exact Nat.add_le_add_left (sm_one _ (fun _ => b2n_le _) T') _
  have h2 : sm (bS up m) T ≤ sm (fun p => sm (fun e => b2n (!up e p)) S) T + T.length * S'.length := by
    rw [← sm_const, ← sm_add]
    refine sm_le _ _ (fun p => ?_) T
    unfold bS
    rw [← sm_perm _ hS, sm_app]
    exact Nat.add_le_add_left (sm_one _ (fun _ => b2n_le _) S') _
  have h3 := cross up T S
  have e1 : S.length * n = S.length * T.length + S.length * T'.length := by rw [← hn, Nat.mul_add]
  have e2 : T.length * m = S.length * T.length + T.length * S'.length := by rw [← hm, Nat.mul_add, Nat.mul_comm T.length S.length]
  omega
theorem whole_of (up : Nat → Nat → Bool) (m n : Nat) : sm (aS up n) (List.range m) + sm (bS up m) (List.range n) = m * n := by
  have := cross up (List.range n) (List.range m)
  rw [List.length_range, List.length_range] at this
  exact this
theorem perm_map {α β : Type} {f : α → β} {d e : List β} (h : d.Perm e) : ∀ l, e = l.map f → ∃ l' : List α, l'.Perm l ∧ d = l'.map f := by
  induction h with
  | nil => intro l hl; exact ⟨l, .refl _, hl⟩
  | cons x _ ih =>
    intro l hl
    cases l with
    | nil => cases hl
    | cons y l =>
      rw [List.map_cons] at hl
      injection hl with h1 h2
      obtain ⟨l', p, e⟩ := ih l h2
      exact ⟨y :: l', p.cons _, by rw [List.map_cons, e, h1]⟩
  | swap x y r =>
    intro l hl
    match l, hl with
    | a :: b :: l, hl =>
      rw [List.map_cons, List.map_cons] at hl
      injection hl with h1 h2
      injection h2 with h2 h3
      exact ⟨b :: a :: l, .swap _ _ _, by rw [List.map_cons, List.map_cons, h1, h2, h3]⟩
    | [a], hl => cases hl
    | [], hl => cases hl
  | trans _ _ h1 h2 =>
    intro l hl
    obtain ⟨l1, p1, e1⟩ := h2 l hl
    obtain ⟨l2, p2, e2⟩ := h1 l1 e1
    exact ⟨l2, p2.trans p1, e2⟩
/-! ### tops by sums of sorted scores -/
def G (m n : Nat) (dA dB : List Int) (s t : Nat) : Int := (s : Int) * n + (t : Int) * m - (s : Int) * t - (dA.take s).sum - (dB.take t).sum
structure Sc (m n : Nat) (dA dB : List Int) : Prop where
  lA : dA.length = m
  lB : dB.length = n
  decA : dA.Pairwise (· ≥ ·)
  decB : dB.Pairwise (· ≥ ·)
  low : ∀ s t, s ≤ m → t ≤ n → 0 ≤ G m n dA dB s t
  top : G m n dA dB m n = 0
theorem sum_map (f : Nat → Nat) : ∀ l : List Nat, (l.map fun e => ((f e : Nat) : Int)).sum = (sm f l : Int)
  | [] => rfl
  | x :: l => by rw [List.map_cons, List.sum_cons, sum_map f l]; show _ = ((f x + sm f l : Nat) : Int); omega
theorem sum_perm {a b : List Int} (h : a.Perm b) : a.sum = b.sum := by
  induction h with
  | nil => rfl
  | cons x _ ih => rw [List.sum_cons, List.sum_cons, ih]
  | swap x y l => rw [List.sum_cons, List.sum_cons, List.sum_cons, List.sum_cons]; omega
  | trans _ _ h1 h2 => rw [h1, h2]
theorem Sc.of (up : Nat → Nat → Bool) {m n : Nat} {dA dB : List Int} (hA : dA.Perm ((List.range m).map fun e => ((aS up n e : Nat) : Int))) (hB : dB.Perm ((List.range n).map fun p => ((bS up m p : Nat) : Int)))
    (decA : dA.Pairwise (· ≥ ·)) (decB : dB.Pairwise (· ≥ ·)) : Sc m n dA dB := by
  have lA : dA.length = m := by rw [hA.length_eq, List.length_map, List.length_range]
  have lB : dB.length = n := by rw [hB.length_eq, List.length_map, List.length_range]
  obtain ⟨lS, pS, eS⟩ := perm_map hA _ rfl
  obtain ⟨lT, pT, eT⟩ := perm_map hB _ rfl
  refine ⟨lA, lB, decA, decB, fun s t hs ht => ?_, ?_⟩
  · have := low_of up (S := lS.take s) (S' := lS.drop s) (T := lT.take t) (T' := lT.drop t) (by rw [List.take_append_drop]; exact pS) (by rw [List.take_append_drop]; exact pT)
    have l1 : (lS.take s).length = s := by rw [List.length_take]; have := pS.length_eq; rw [List.length_range] at this; omega
    have l2 : (lT.take t).length = t := by rw [List.length_take]; have := pT.length_eq; rw [List.length_range] at this; omega
    rw [l1, l2] at this
    unfold G
    rw [eS, eT, ← List.map_take, ← List.map_take, sum_map, sum_map]
    have c : ((sm (aS up n) (lS.take s) + sm (bS up m) (lT.take t) + s * t : Nat) : Int) ≤ ((s * n + t * m : Nat) : Int) := by exact_mod_cast this
    simp only [Int.natCast_add, Int.natCast_mul] at c
    omega
  · unfold G
    rw [List.take_of_length_le (by omega), List.take_of_length_le (by omega), sum_perm hA, sum_perm hB, sum_map, sum_map]
    have := whole_of up m n
    have c : ((sm (aS up n) (List.range m) + sm (bS up m) (List.range n) : Nat) : Int) = ((m * n : Nat) : Int) := by exact_mod_cast this
    simp only [Int.natCast_add, Int.natCast_mul] at c
    have e : (n : Int) * m = (m : Int) * n := Int.mul_comm _ _
    omega
section
variable {m n : Nat} {dA dB : List Int}
theorem take_sum {d : List Int} {k : Nat} (h : k < d.length) : (d.take (k + 1)).sum = (d.take k).sum + d.getD k 0 := by
  rw [List.take_add_one, List.sum_append, List.getElem?_eq_getElem h]
  have e : d.getD k 0 = d[k] := by simp [List.getD, h]
  rw [e]
  simp
theorem dec_at {d : List Int} (h : d.Pairwise (· ≥ ·)) {i j : Nat} (hij : i ≤ j) (hj : j < d.length) : d.getD j 0 ≤ d.getD i 0 := by
  have hi : i < d.length := by omega
  have e1 : d.getD i 0 = d[i] := by simp [List.getD, hi]
  have e2 : d.getD j 0 = d[j] := by simp [List.getD, hj]
  rw [e1, e2]
  by_cases e : i = j
  · subst e; exact Int.le_refl _
  · exact List.pairwise_iff_getElem.mp h i j hi hj (by omega)
theorem G_s (C : Sc m n dA dB) {s : Nat} (t : Nat) (h : s < m) : G m n dA dB (s + 1) t = G m n dA dB s t + ((n : Int) - t - dA.getD s 0) := by
  unfold G
  rw [take_sum (by rw [C.lA]; exact h), Int.natCast_add, Int.natCast_one, Int.add_mul, Int.add_mul, Int.one_mul, Int.one_mul]
  omega
theorem G_t (C : Sc m n dA dB) (s : Nat) {t : Nat} (h : t < n) : G m n dA dB s (t + 1) = G m n dA dB s t + ((m : Int) - s - dB.getD t 0) := by
  unfold G
  rw [take_sum (by rw [C.lB]; exact h), Int.natCast_add, Int.natCast_one, Int.add_mul, Int.mul_add, Int.one_mul, Int.mul_one]
  omega
theorem G_up (C : Sc m n dA dB) {s : Nat} (t : Nat) (c : Int) (hc : c ≤ (n : Int) - t - dA.getD s 0) : ∀ d : Nat, s + d ≤ m → G m n dA dB s t + c * d ≤ G m n dA dB (s + d) t
  | 0, _ => by simp
  | d + 1, h => by
    have ih := G_up C t c hc d (by omega)
    have e := G_s C t (s := s + d) (by omega)
    have mo := dec_at C.decA (i := s) (j := s + d) (by omega) (by rw [C.lA]; omega)
    have e2 : c * ((d + 1 : Nat) : Int) = c * d + c := by rw [Int.natCast_add, Int.natCast_one, Int.mul_add, Int.mul_one]
    rw [show s + (d + 1) = s + d + 1 from rfl, e, e2]
    omega
theorem G_vp (C : Sc m n dA dB) (s : Nat) {t : Nat} (c : Int) (hc : c ≤ (m : Int) - s - dB.getD t 0) : ∀ d : Nat, t + d ≤ n → G m n dA dB s t + c * d ≤ G m n dA dB s (t + d)
  | 0, _ => by simp
  | d + 1, h => by
    have ih := G_vp C s c hc d (by omega)
    have e := G_t C s (t := t + d) (by omega)
    have mo := dec_at C.decB (i := t) (j := t + d) (by omega) (by rw [C.lB]; omega)
    have e2 : c * ((d + 1 : Nat) : Int) = c * d + c := by rw [Int.natCast_add, Int.natCast_one, Int.mul_add, Int.mul_one]
    rw [show t + (d + 1) = t + d + 1 from rfl, e, e2]
    omega
theorem G_sq (s s' t t' : Nat) : G m n dA dB s t + G m n dA dB s' t' = G m n dA dB s' t + G m n dA dB s t' - ((s' : Int) - s) * ((t' : Int) - t) := by
  unfold G
  rw [Int.sub_mul, Int.mul_sub, Int.mul_sub]
  omega
def lexLt (a b : Nat × Nat) : Prop := a.1 < b.1 ∨ (a.1 = b.1 ∧ a.2 < b.2)
/-- two tops, one behind another, and none between -/
theorem top_step (C : Sc m n dA dB) {s t s' t' : Nat} (hs : s ≤ m) (ht : t ≤ n) (hs' : s' ≤ m) (ht' : t' ≤ n) (z : G m n dA dB s t = 0) (z' : G m n dA dB s' t' = 0) (lt : lexLt (s, t) (s', t'))
    (none : ∀ x y, x ≤ m → y ≤ n → G m n dA dB x y = 0 → lexLt (s, t) (x, y) → lexLt (x, y) (s', t') → False) :
    s ≤ s' ∧ t ≤ t' ∧ 0 < (s' - s) + (t' - t) ∧ (1 < (s' - s) + (t' - t) → 2 ≤ s' - s ∧ 2 ≤ t' - t) := by
  have lt' : s < s' ∨ (s = s' ∧ t < t') := lt
  have hle : s ≤ s' := by omega
  have tle : t ≤ t' := by
    by_cases h : t ≤ t'
    · exact h
    · exfalso
      have h1 : s < s' := by omega
      have q := G_sq (m := m) (n := n) (dA := dA) (dB := dB) s s' t t'
      have l1 := C.low s' t hs' ht
      have l2 := C.low s t' hs ht'
      have p : 0 < ((s' : Int) - s) * ((t : Int) - t') := Int.mul_pos (by omega) (by omega)
      have e : ((s' : Int) - s) * ((t' : Int) - t) = - (((s' : Int) - s) * ((t : Int) - t')) := by rw [← Int.mul_neg]; congr 1; omega
      omega
  refine ⟨hle, tle, by omega, fun big => ?_⟩
  -- the first step along each side
  have q := G_sq (m := m) (n := n) (dA := dA) (dB := dB) s s' t t'
  have l1 := C.low s' t hs' ht
  have l2 := C.low s t' hs ht'
  by_cases hs1 : s' = s
  · -- only picks
    exfalso
    subst hs1
    have t2 : t + 2 ≤ t' := by omega
    have g1 := G_t C s' (t := t) (by omega)
    have lo := C.low s' (t + 1) hs' (by omega)
    have nz : G m n dA dB s' (t + 1) ≠ 0 := fun e => none s' (t + 1) hs' (by omega) e (.inr ⟨rfl, by show t < t + 1; omega⟩) (.inr ⟨rfl, by show t + 1 < t'; omega⟩)
    have := G_vp C s' (t := t) 1 (by omega) (t' - t) (by omega)
    rw [show t + (t' - t) = t' by omega] at this
    omega
  by_cases ht1 : t' = t
  · exfalso
    subst ht1
    have t2 : s + 2 ≤ s' := by omega
    have g1 := G_s C t' (s := s) (by omega)
    have lo := C.low (s + 1) t' (by omega) ht'
    have nz : G m n dA dB (s + 1) t' ≠ 0 := fun e => none (s + 1) t' (by omega) ht' e (.inl (by show s < s + 1; omega)) (.inl (by show s + 1 < s'; omega))
    have := G_up C (s := s) t' 1 (by omega) (s' - s) (by omega)
    rw [show s + (s' - s) = s' by omega] at this
    omega
  have gt1 := G_t C s (t := t) (by omega)
  have gs1 := G_s C t (s := s) (by omega)
  have lot := C.low s (t + 1) hs (by omega)
  have los := C.low (s + 1) t (by omega) ht
  have nzt : G m n dA dB s (t + 1) ≠ 0 := fun e => none s (t + 1) hs (by omega) e (.inr ⟨rfl, by show t < t + 1; omega⟩) (.inl (by show s < s'; omega))
  have bt := G_vp C s (t := t) 1 (by omega) (t' - t) (by omega)
  rw [show t + (t' - t) = t' by omega] at bt
  have nzs : G m n dA dB (s + 1) t ≠ 0 := fun e => none (s + 1) t (by omega) ht e (.inl (by show s < s + 1; omega)) (by
    by_cases h : s + 1 = s'
    · exact .inr ⟨h, by show t < t'; omega⟩
    · exact .inl (by show s + 1 < s'; omega))
  have bs := G_up C (s := s) t 1 (by omega) (s' - s) (by omega)
  rw [show s + (s' - s) = s' by omega] at bs
  refine ⟨?_, ?_⟩
  · by_cases h : s' = s + 1
    · exfalso
      subst h
      have e : (((s + 1 : Nat) : Int) - s) * ((t' : Int) - t) = (t' : Int) - t := by rw [show ((s + 1 : Nat) : Int) - s = 1 by omega, Int.one_mul]
      rw [e] at q
      omega
    · omega
  · by_cases h : t' = t + 1
    · exfalso
      subst h
      have e : ((s' : Int) - s) * (((t + 1 : Nat) : Int) - t) = (s' : Int) - s := by rw [show ((t + 1 : Nat) : Int) - t = 1 by omega, Int.mul_one]
      rw [e] at q
      omega
    · omega
end
end Mine

set_option linter.all false
namespace Mine
/-! ### the list of all tops, in their order -/
def rowT (P : Nat → Nat → Bool) (s j : Nat) : List (Nat × Nat) := ((List.range j).map fun t => (s, t)).filter fun p => P p.1 p.2
def allT (P : Nat → Nat → Bool) (n i : Nat) : List (Nat × Nat) := (List.range i).flatMap fun s => rowT P s (n + 1)
theorem rowT_succ (P : Nat → Nat → Bool) (s j : Nat) : rowT P s (j + 1) = rowT P s j ++ (if P s j = true then [(s, j)] else []) := by
  unfold rowT
  rw [List.range_succ, List.map_append, List.filter_append]
  congr 1
  show (List.filter _ [(s, j)]) = _
  by_cases h : P s j = true
  · rw [if_pos h]; simp [h]
  · rw [if_neg h]; simp [h]
theorem allT_succ (P : Nat → Nat → Bool) (n i : Nat) : allT P n (i + 1) = allT P n i ++ rowT P i (n + 1) := by
  unfold allT
  rw [List.range_succ, List.flatMap_append]
  simp
theorem mem_rowT {P : Nat → Nat → Bool} {s j : Nat} {p : Nat × Nat} : p ∈ rowT P s j ↔ p.1 = s ∧ p.2 < j ∧ P p.1 p.2 = true := by
  unfold rowT
  rw [List.mem_filter, List.mem_map]
  constructor
  · rintro ⟨⟨t, ht, rfl⟩, h⟩
    exact ⟨rfl, List.mem_range.mp ht, h⟩
  · rintro ⟨h1, h2, h3⟩
    exact ⟨⟨p.2, List.mem_range.mpr h2, by rw [← h1]⟩, h3⟩
theorem mem_allT {P : Nat → Nat → Bool} {n i : Nat} {p : Nat × Nat} : p ∈ allT P n i ↔ p.1 < i ∧ p.2 ≤ n ∧ P p.1 p.2 = true := by
  unfold allT
  rw [List.mem_flatMap]
  constructor
  · rintro ⟨s, hs, h⟩
    obtain ⟨h1, h2, h3⟩ := mem_rowT.mp h
    have := List.mem_range.mp hs
    exact ⟨by omega, by omega, h3⟩
  · rintro ⟨h1, h2, h3⟩
    exact ⟨p.1, List.mem_range.mpr h1, mem_rowT.mpr ⟨rfl, by omega, h3⟩⟩
theorem rowT_pw (P : Nat → Nat → Bool) (s : Nat) : ∀ j, (rowT P s j).Pairwise lexLt
  | 0 => List.Pairwise.nil
  | j + 1 => by
    rw [rowT_succ]
    refine List.pairwise_append.mpr ⟨rowT_pw P s j, ?_, fun a ha b hb => ?_⟩
    · by_cases h : P s j = true
      · rw [if_pos h]; exact List.pairwise_singleton _ _
      · rw [if_neg h]; exact List.Pairwise.nil
    · by_cases h : P s j = true
      · rw [if_pos h] at hb
        rw [List.mem_singleton.mp hb]
        obtain ⟨h1, h2, _⟩ := mem_rowT.mp ha
        exact .inr ⟨h1, h2⟩
      · rw [if_neg h] at hb; exact absurd hb (by simp)
theorem allT_pw (P : Nat → Nat → Bool) (n : Nat) : ∀ i, (allT P n i).Pairwise lexLt
  | 0 => List.Pairwise.nil
  | i + 1 => by
    rw [allT_succ]
    refine List.pairwise_append.mpr ⟨allT_pw P n i, rowT_pw P i _, fun a ha b hb => ?_⟩
    obtain ⟨h1, _⟩ := mem_allT.mp ha
    obtain ⟨h2, _⟩ := mem_rowT.mp hb
    exact .inl (by omega)
theorem rowT_len (P : Nat → Nat → Bool) (s j : Nat) : (rowT P s j).length ≤ j := by
  unfold rowT
  refine Nat.le_trans (List.length_filter_le _ _) ?_
  rw [List.length_map, List.length_range]
  exact Nat.le_refl _
theorem allT_len (P : Nat → Nat → Bool) (n : Nat) : ∀ i, (allT P n i).length ≤ i * (n + 1)
  | 0 => Nat.zero_le _
  | i + 1 => by
    rw [allT_succ, List.length_append, Nat.succ_mul]
    exact Nat.add_le_add (allT_len P n i) (rowT_len P i _)
theorem lex_irr {a : Nat × Nat} (h : lexLt a a) : False := by unfold lexLt at h; omega
theorem lex_asym {a b : Nat × Nat} (h : lexLt a b) (h2 : lexLt b a) : False := by unfold lexLt at h h2; omega
theorem lex_at {l : List (Nat × Nat)} (h : l.Pairwise lexLt) {i j : Nat} {a b : Nat × Nat} (ha : l[i]? = some a) (hb : l[j]? = some b) (lt : lexLt a b) : i < j := by
  obtain ⟨hi, e1⟩ := List.getElem?_eq_some_iff.mp ha
  obtain ⟨hj, e2⟩ := List.getElem?_eq_some_iff.mp hb
  rcases Nat.lt_trichotomy i j with h1 | h1 | h1
  · exact h1
  · subst h1
    have : a = b := by rw [← e1, ← e2]
    rw [this] at lt
    exact (lex_irr lt).elim
  · have := List.pairwise_iff_getElem.mp h j i hj hi h1
    rw [e1, e2] at this
    exact (lex_asym lt this).elim
/-- what the law asks of the list of tops -/
structure Tps (m n : Nat) (P : Nat → Nat → Bool) (zs : List (Nat × Nat)) : Prop where
  two : 2 ≤ zs.length
  fst : zs[0]? = some (0, 0)
  lst : zs[zs.length - 1]? = some (m, n)
  in_ : ∀ (i : Nat) (a : Nat × Nat), zs[i]? = some a → a.1 ≤ m ∧ a.2 ≤ n
  stp : ∀ (i : Nat) (a b : Nat × Nat), zs[i]? = some a → zs[i + 1]? = some b → a.1 ≤ b.1 ∧ a.2 ≤ b.2 ∧ 0 < (b.1 - a.1) + (b.2 - a.2) ∧ (1 < (b.1 - a.1) + (b.2 - a.2) → 2 ≤ b.1 - a.1 ∧ 2 ≤ b.2 - a.2)
def Pz (m n : Nat) (dA dB : List Int) (s t : Nat) : Bool := decide ((dA.take s).sum + (dB.take t).sum = (s : Int) * n + (t : Int) * m - (s : Int) * t)
theorem Pz_iff {m n : Nat} {dA dB : List Int} {s t : Nat} : Pz m n dA dB s t = true ↔ G m n dA dB s t = 0 := by
  unfold Pz G
  rw [decide_eq_true_iff]
  omega
theorem Tps.of {m n : Nat} {dA dB : List Int} (C : Sc m n dA dB) (h1 : 1 ≤ m) : Tps m n (Pz m n dA dB) (allT (Pz m n dA dB) n (m + 1)) := by
  have pw := allT_pw (Pz m n dA dB) n (m + 1)
  have m0 : ((0 : Nat), (0 : Nat)) ∈ allT (Pz m n dA dB) n (m + 1) := mem_allT.mpr ⟨by show 0 < m + 1; omega, Nat.zero_le _, Pz_iff.mpr (by unfold G; simp)⟩
  have m1 : (m, n) ∈ allT (Pz m n dA dB) n (m + 1) := mem_allT.mpr ⟨by show m < m + 1; omega, Nat.le_refl _, Pz_iff.mpr C.top⟩
  generalize hz : allT (Pz m n dA dB) n (m + 1) = zs at *
  have inn : ∀ (i : Nat) (a : Nat × Nat), zs[i]? = some a → a.1 ≤ m ∧ a.2 ≤ n ∧ G m n dA dB a.1 a.2 = 0 := fun i a e => by
    have := List.mem_of_getElem? e
    rw [← hz] at this
    obtain ⟨q1, q2, q3⟩ := mem_allT.mp this
    exact ⟨by omega, q2, Pz_iff.mp q3⟩
  obtain ⟨i0, e0⟩ := List.getElem?_of_mem m0
  obtain ⟨i1, e1⟩ := List.getElem?_of_mem m1
  have l01 : i0 < i1 := lex_at pw e0 e1 (.inl (by show 0 < m; omega))
  have i1l := (List.getElem?_eq_some_iff.mp e1).1
  have f0 : i0 = 0 := by
    by_cases h : i0 = 0
    · exact h
    · exfalso
      have hl : 0 < zs.length := by omega
      have lt := List.pairwise_iff_getElem.mp pw 0 i0 hl (by omega) (by omega)
      have := (List.getElem?_eq_some_iff.mp e0).2
      rw [this] at lt
      unfold lexLt at lt
      simp at lt
  have fl : i1 = zs.length - 1 := by
    by_cases h : i1 = zs.length - 1
    · exact h
    · exfalso
      have hl : zs.length - 1 < zs.length := by omega
      have lt := List.pairwise_iff_getElem.mp pw i1 (zs.length - 1) i1l hl (by omega)
      have e := (List.getElem?_eq_some_iff.mp e1).2
      rw [e] at lt
      have q := inn (zs.length - 1) _ (List.getElem?_eq_getElem hl)
      unfold lexLt at lt
      simp only at lt
      omega
  refine ⟨by omega, f0 ▸ e0, fl ▸ e1, fun i a e => ⟨(inn i a e).1, (inn i a e).2.1⟩, fun i a b ea eb => ?_⟩
  obtain ⟨a1, a2, a3⟩ := inn i a ea
  obtain ⟨b1, b2, b3⟩ := inn (i + 1) b eb
  have hi := (List.getElem?_eq_some_iff.mp ea)
  have hj := (List.getElem?_eq_some_iff.mp eb)
  have lt : lexLt a b := by
    have := List.pairwise_iff_getElem.mp pw i (i + 1) hi.1 hj.1 (by omega)
    rw [hi.2, hj.2] at this
    exact this
  refine top_step C a1 a2 b1 b2 a3 b3 lt fun x y hx hy z l1 l2 => ?_
  have mm : (x, y) ∈ zs := by rw [← hz]; exact mem_allT.mpr ⟨by show x < m + 1; omega, hy, Pz_iff.mpr z⟩
  obtain ⟨k, ek⟩ := List.getElem?_of_mem mm
  have k1 := lex_at pw ea ek l1
  have k2 := lex_at pw ek eb l2
  omega
/-! ### one decreasing order only -/
theorem dec_uniq : ∀ {a b : List Int}, a.Perm b → a.Pairwise (· ≥ ·) → b.Pairwise (· ≥ ·) → a = b
  | [], b, p, _, _ => (List.Perm.nil_eq p)
  | x :: a, [], p, _, _ => absurd p.length_eq (by simp)
  | x :: a, y :: b, p, ha, hb => by
    obtain ⟨a1, a2⟩ := List.pairwise_cons.mp ha
    obtain ⟨b1, b2⟩ := List.pairwise_cons.mp hb
    have e : x = y := by
      have hx : x ∈ y :: b := p.mem_iff.mp List.mem_cons_self
      have hy : y ∈ x :: a := p.mem_iff.mpr List.mem_cons_self
      rcases List.mem_cons.mp hx with h | h
      · exact h
      · rcases List.mem_cons.mp hy with h' | h'
        · exact h'.symm
        · have := b1 x h
          have := a1 y h'
          omega
    subst e
    rw [dec_uniq p.cons_inv a2 b2]
/-- the sums of the first -/
def pre (d : List Int) : List Int := (List.range (d.length + 1)).map fun s => (d.take s).sum
/-- the greatest taken out, one after another -/
structure Grt (cs done left : List Int) : Prop where
  perm : (done ++ left).Perm cs
  dec : done.Pairwise (· ≥ ·)
  ge : ∀ a ∈ done, ∀ b ∈ left, b ≤ a
/-! ### the counts -/
theorem cnt_sm (l : List Nat) (c : Nat) : ∀ k, k ≤ l.length → (l.take k).count c = sm (fun i => b2n (l.getD i 0 == c)) (List.range k)
  | 0, _ => by simp [sm]
  | k + 1, h => by
    rw [List.range_succ, sm_app, ← cnt_sm l c k (by omega), List.take_add_one, List.getElem?_eq_getElem (by omega), List.count_append]
    have e : l.getD k 0 = l[k] := by simp [List.getD, show k < l.length by omega]
    show _ + List.count c [l[k]] = _ + (b2n (l.getD k 0 == c) + 0)
    rw [e, List.count_singleton]
    rfl
end Mine

set_option linter.all false
namespace Mine
open L2
def upC (cl : List (List Nat)) (e p : Nat) : Bool := (cl.getD p []).getD e 0 == 35
def eS (cl : List (List Nat)) (m : Nat) : List Int := (List.range m).map fun e => (((col cl e).count 35 : Nat) : Int)
def pS (cl : List (List Nat)) : List Int := cl.map fun t => ((t.count 46 : Nat) : Int)
theorem eS_len (cl : List (List Nat)) (m : Nat) : (eS cl m).length = m := by unfold eS; rw [List.length_map, List.length_range]
theorem pS_len (cl : List (List Nat)) : (pS cl).length = cl.length := by unfold pS; rw [List.length_map]
theorem sm_congr {f g : Nat → Nat} : ∀ {l : List Nat}, (∀ x ∈ l, f x = g x) → sm f l = sm g l
  | [], _ => rfl
  | x :: l, h => by show f x + sm f l = g x + sm g l; rw [h x List.mem_cons_self, sm_congr fun y hy => h y (List.mem_cons_of_mem _ hy)]
theorem col_getD (cl : List (List Nat)) (e p : Nat) : (col cl e).getD p 0 = (cl.getD p []).getD e 0 := by
  unfold col
  by_cases h : p < cl.length
  · simp [List.getD, h]
  · simp [List.getD, List.getElem?_eq_none (Nat.le_of_not_lt h)]
theorem aS_eq {cl : List (List Nat)} {m n : Nat} (C : Cl cl m n) (e : Nat) : aS (upC cl) n e = (col cl e).count 35 := by
  have hl : (col cl e).length = n := by unfold col; rw [List.length_map, C.hn]
  have := cnt_sm (col cl e) 35 n (by omega)
  rw [List.take_of_length_le (by omega)] at this
  rw [this]
  unfold aS upC
  refine sm_ext _ _ (fun p => ?_) _
  rw [col_getD]
theorem bS_eq {cl : List (List Nat)} {m n : Nat} (C : Cl cl m n) {p : Nat} (hp : p < cl.length) : bS (upC cl) m p = cl[p].count 46 := by
  have hl := C.hm _ (List.getElem_mem hp)
  have sg := C.sg _ (List.getElem_mem hp)
  have := cnt_sm cl[p] 46 m (by omega)
  rw [List.take_of_length_le (by omega)] at this
  rw [this]
  unfold bS
  refine sm_congr fun e he => ?_
  have hem := List.mem_range.mp he
  have e1 : cl.getD p [] = cl[p] := by simp [List.getD, hp]
  have e2 : cl[p].getD e 0 = cl[p][e] := by simp [List.getD, show e < cl[p].length by omega]
  unfold upC
  rw [e1, e2]
  rcases sg _ (List.getElem_mem (show e < cl[p].length by omega)) with z | z <;> rw [z] <;> rfl
theorem eS_up {cl : List (List Nat)} {m n : Nat} (C : Cl cl m n) : eS cl m = (List.range m).map fun e => ((aS (upC cl) n e : Nat) : Int) := by
  unfold eS
  refine List.map_congr_left fun e _ => ?_
  rw [aS_eq C]
theorem pS_up {cl : List (List Nat)} {m n : Nat} (C : Cl cl m n) : pS cl = (List.range n).map fun p => ((bS (upC cl) m p : Nat) : Int) := by
  refine List.ext_getElem (by rw [pS_len, List.length_map, List.length_range, C.hn]) fun i h1 h2 => ?_
  have h1' : i < cl.length := by rw [pS_len] at h1; exact h1
  rw [List.getElem_map, List.getElem_range, bS_eq C h1']
  exact List.getElem_map ..
theorem sc_of {cl : List (List Nat)} {m n : Nat} (C : Cl cl m n) {dA dB : List Int} (hA : dA.Perm (eS cl m)) (hB : dB.Perm (pS cl)) (decA : dA.Pairwise (· ≥ ·)) (decB : dB.Pairwise (· ≥ ·)) : Sc m n dA dB :=
  Sc.of (upC cl) (by rw [← eS_up C]; exact hA) (by rw [← pS_up C]; exact hB) decA decB
theorem scores_take (cl : List (List Nat)) (m : Nat) : (scores cl m).take m = eS cl m := by
  show (eS cl m ++ pS cl).take m = _
  rw [List.take_append_of_le_length (by rw [eS_len]; exact Nat.le_refl _), List.take_of_length_le (by rw [eS_len]; exact Nat.le_refl _)]
theorem scores_drop (cl : List (List Nat)) (m : Nat) : (scores cl m).drop m = pS cl := by
  show (eS cl m ++ pS cl).drop m = _
  have := List.drop_left (l₁ := eS cl m) (l₂ := pS cl)
  rwa [eS_len] at this
end Mine

set_option linter.all false
namespace Mine
open L2
/-! ### layers: core Lean only -/
theorem perm_uniq {α : Type} {R : α → α → Prop} (asym : ∀ a b, R a b → R b a → False) : ∀ {l l' : List α}, l.Perm l' → l.Pairwise R → l'.Pairwise R → l = l'
  | [], l', p, _, _ => p.nil_eq
  | a :: l, [], p, _, _ => absurd p.length_eq (by simp)
  | a :: l, b :: t, p, h, h' => by
    have e : a = b := by
      have h1 : a ∈ b :: t := p.mem_iff.mp List.mem_cons_self
      have h2 : b ∈ a :: l := p.mem_iff.mpr List.mem_cons_self
      rcases List.mem_cons.mp h1 with e | m1
      · exact e
      · rcases List.mem_cons.mp h2 with e | m2
        · exact e.symm
        · exact (asym _ _ ((List.pairwise_cons.mp h').1 a m1) ((List.pairwise_cons.mp h).1 b m2)).elim
    subst e
    rw [perm_uniq asym p.cons_inv (List.pairwise_cons.mp h).2 (List.pairwise_cons.mp h').2]
structure Ord (key : Nat → Nat) (N : Nat) (l : List Nat) : Prop where
  perm : l.Perm (List.range N)
  ord : l.Pairwise (fun x y => key y < key x ∨ (key x = key y ∧ x < y))
theorem Ord.len {key : Nat → Nat} {N : Nat} {l : List Nat} (a : Ord key N l) : l.length = N := by rw [a.perm.length_eq, List.length_range]
theorem Ord.nd {key : Nat → Nat} {N : Nat} {l : List Nat} (a : Ord key N l) : l.Nodup := a.perm.nodup_iff.mpr List.nodup_range
theorem Ord.lt {key : Nat → Nat} {N : Nat} {l : List Nat} (a : Ord key N l) {x : Nat} (h : x ∈ l) : x < N := List.mem_range.mp (a.perm.mem_iff.mp h)
def cQ (m k : Nat) : Int := ((m + k : Nat) : Int)
structure Lay (up : Nat → Nat → Bool) (m n : Nat) (tss : List (List Int)) (zs : List (Nat × Nat)) (eo po : List Nat) : Prop where
  oE : Ord (aS up n) m eo
  oP : Ord (bS up m) n po
  fst : zs[0]? = some (0, 0)
  lst : zs[zs.length - 1]? = some (m, n)
  in_ : ∀ (i : Nat) (a : Nat × Nat), zs[i]? = some a → a.1 ≤ m ∧ a.2 ≤ n
  stp : ∀ (i : Nat) (a b : Nat × Nat), zs[i]? = some a → zs[i + 1]? = some b → a.1 ≤ b.1 ∧ a.2 ≤ b.2 ∧ 0 < (b.1 - a.1) + (b.2 - a.2)
  z : ∀ (i : Nat) (a : Nat × Nat), zs[i]? = some a → sm (aS up n) (eo.take a.1) + sm (bS up m) (po.take a.2) + a.1 * a.2 = a.1 * n + a.2 * m
  len : tss.length + 1 = zs.length
  lay : ∀ (i : Nat) (a b : Nat × Nat) (t : List Int), zs[i]? = some a → zs[i + 1]? = some b → tss[i]? = some t →
    t.Perm (((eo.drop a.1).take (b.1 - a.1)).map (cQ 0) ++ ((po.drop a.2).take (b.2 - a.2)).map (cQ m)) ∧ t.Pairwise (· ≤ ·)
section
variable {up : Nat → Nat → Bool} {m n : Nat} {tss : List (List Int)} {zs : List (Nat × Nat)} {eo po : List Nat}
/-- what a layer holds -/
theorem Lay.at (L : Lay up m n tss zs eo po) {i : Nat} (hi : i < tss.length) : ∃ a b, zs[i]? = some a ∧ zs[i + 1]? = some b ∧ a.1 ≤ b.1 ∧ a.2 ≤ b.2 ∧ b.1 ≤ m ∧ b.2 ≤ n ∧ 0 < (b.1 - a.1) + (b.2 - a.2) ∧
    tss[i].Perm (((eo.drop a.1).take (b.1 - a.1)).map (cQ 0) ++ ((po.drop a.2).take (b.2 - a.2)).map (cQ m)) ∧ tss[i].Pairwise (· ≤ ·) := by
  have h1 : i < zs.length := by have := L.len; omega
  have h2 : i + 1 < zs.length := by have := L.len; omega
  have e1 := List.getElem?_eq_getElem h1
  have e2 := List.getElem?_eq_getElem h2
  obtain ⟨s1, s2, s3⟩ := L.stp i _ _ e1 e2
  obtain ⟨i1, i2⟩ := L.in_ _ _ e2
  obtain ⟨l1, l2⟩ := L.lay i _ _ _ e1 e2 (List.getElem?_eq_getElem hi)
  exact ⟨_, _, e1, e2, s1, s2, i1, i2, s3, l1, l2⟩
theorem Lay.seg_len (L : Lay up m n tss zs eo po) {a b : Nat × Nat} (h1 : a.1 ≤ b.1) (h2 : a.2 ≤ b.2) (h3 : b.1 ≤ m) (h4 : b.2 ≤ n) :
    ((eo.drop a.1).take (b.1 - a.1)).length = b.1 - a.1 ∧ ((po.drop a.2).take (b.2 - a.2)).length = b.2 - a.2 := by
  have l1 := L.oE.len
  have l2 := L.oP.len
  rw [List.length_take, List.length_drop, List.length_take, List.length_drop]
  omega
theorem Lay.count (L : Lay up m n tss zs eo po) {i : Nat} (hi : i < tss.length) {a b : Nat × Nat} (ea : zs[i]? = some a) (eb : zs[i + 1]? = some b) : tss[i].length = (b.1 - a.1) + (b.2 - a.2) ∧ (tss[i].filter fun z => decide (z < (m : Int))).length = b.1 - a.1 := by
  obtain ⟨a', b', ea', eb', h1, h2, h3, h4, h5, p, _⟩ := L.at hi
  rw [ea] at ea'
  cases ea'
  rw [eb] at eb'
  cases eb'
  obtain ⟨s1, s2⟩ := L.seg_len h1 h2 h3 h4
  refine ⟨by rw [p.length_eq, List.length_append, List.length_map, List.length_map, s1, s2], ?_⟩
  rw [(p.filter _).length_eq, List.filter_append, List.filter_eq_self.mpr, List.filter_eq_nil_iff.mpr, List.append_nil, List.length_map, s1]
  · intro z hz
    obtain ⟨k, _, rfl⟩ := List.mem_map.mp hz
    unfold cQ
    simp only [decide_eq_true_eq]
    omega
  · intro z hz
    obtain ⟨k, hk, rfl⟩ := List.mem_map.mp hz
    have := L.oE.lt (List.mem_of_mem_drop (List.mem_of_mem_take hk))
    unfold cQ
    simp only [decide_eq_true_eq]
    omega
theorem Lay.ne (L : Lay up m n tss zs eo po) {i : Nat} (hi : i < tss.length) : 0 < tss[i].length := by
  obtain ⟨a, b, ea, eb, _, _, _, _, h, _⟩ := L.at hi
  rw [(L.count hi ea eb).1]
  exact h
theorem Lay.part (L : Lay up m n tss zs eo po) : ∀ i (a : Nat × Nat), zs[i]? = some a → i ≤ tss.length → (tss.take i).flatten.Perm ((eo.take a.1).map (cQ 0) ++ (po.take a.2).map (cQ m))
  | 0, a, e, _ => by
    rw [L.fst] at e
    cases e
    rw [List.take_zero, List.take_zero, List.take_zero]
    exact List.Perm.refl _
  | i + 1, b, e, hi => by
    obtain ⟨a, b', ea, eb, h1, h2, h3, h4, h5, p, _⟩ := L.at (i := i) (by omega)
    rw [e] at eb
    cases eb
    have ih := L.part i a ea (by omega)
    rw [List.take_succ_eq_append_getElem (by omega), List.flatten_append, List.flatten_cons, List.flatten_nil, List.append_nil]
    have sp : ∀ (l : List Nat) (s s' : Nat), s ≤ s' → l.take s' = l.take s ++ (l.drop s).take (s' - s) := fun l s s' h => by
      conv => lhs; rw [show s' = s + (s' - s) by omega]
      rw [List.take_add]
    rw [sp eo a.1 b.1 h1, sp po a.2 b.2 h2, List.map_append, List.map_append]
    refine (ih.append p).trans ?_
    rw [List.append_assoc, List.append_assoc]
    refine List.Perm.append_left _ ?_
    rw [← List.append_assoc, ← List.append_assoc]
    exact List.Perm.append_right _ List.perm_append_comm
theorem map_range (m n : Nat) : (List.range m).map (cQ 0) ++ (List.range n).map (cQ m) = (List.range (m + n)).map fun k => ((k : Nat) : Int) := by
  apply List.ext_getElem
  · simp
  · intro i h1 h2
    rw [List.getElem_append]
    split
    · simp [cQ]
    · rename_i h
      simp [cQ] at h ⊢
      omega
/-- each strand once -/
theorem Lay.all (L : Lay up m n tss zs eo po) : tss.flatten.Perm ((List.range (m + n)).map fun k => ((k : Nat) : Int)) := by
  have hl := L.len
  have e : zs[tss.length]? = some (m, n) := by rw [show tss.length = zs.length - 1 by omega]; exact L.lst
  have p := L.part tss.length (m, n) e (Nat.le_refl _)
  rw [List.take_of_length_le (Nat.le_refl _), List.take_of_length_le (by rw [L.oE.len]; exact Nat.le_refl _), List.take_of_length_le (by rw [L.oP.len]; exact Nat.le_refl _)] at p
  rw [← map_range]
  exact p.trans ((L.oE.perm.map _).append (L.oP.perm.map _))
theorem Lay.nd (L : Lay up m n tss zs eo po) : tss.flatten.Nodup := by
  rw [L.all.nodup_iff]
  show List.Pairwise _ _
  rw [List.pairwise_map]
  exact List.nodup_range.imp fun {a b} h e => h (by omega)
theorem nd_at : ∀ {tss : List (List Int)} {i : Nat} (hi : i < tss.length), tss.flatten.Nodup → tss[i].Nodup
  | t :: tss, 0, _, h => by rw [List.flatten_cons] at h; exact (List.nodup_append.mp h).1
  | t :: tss, i + 1, hi, h => by rw [List.flatten_cons] at h; exact nd_at (tss := tss) (i := i) (by simpa using hi) (List.nodup_append.mp h).2.1
theorem Lay.inc (L : Lay up m n tss zs eo po) {i : Nat} (hi : i < tss.length) : tss[i].Pairwise (· < ·) := by
  obtain ⟨_, _, _, _, _, _, _, _, _, _, p⟩ := L.at hi
  exact (p.and (nd_at hi L.nd)).imp fun {a b} ⟨h1, h2⟩ => by omega
theorem sm_take_succ {f : Nat → Nat} {l : List Nat} {s : Nat} (h : s < l.length) : sm f (l.take (s + 1)) = sm f (l.take s) + f l[s] := by
  rw [List.take_succ_eq_append_getElem h, sm_app]
  rfl
end
end Mine

set_option linter.all false
namespace Mine
open L2
/-! ### a layer hangs together: core Lean only -/
section
variable {up : Nat → Nat → Bool} {m n : Nat} {tss : List (List Int)} {zs : List (Nat × Nat)} {eo po : List Nat}
end
end Mine

set_option linter.all false
namespace Mine
open L2
/-! ### what one turned crossing does to the tops: core Lean only -/
/-- who lies over whom, among m ends (numbers below m) and n picks (the other numbers below N) -/
structure Ov (m N : Nat) (O : Nat → Nat → Prop) : Prop where
  lt : ∀ {u v}, O u v → u < N ∧ v < N
  kd : ∀ {u v}, O u v → (u < m ↔ ¬ v < m)
  tot : ∀ {u v}, u < N → v < N → (u < m ↔ ¬ v < m) → O u v ∨ O v u
  asy : ∀ {u v}, O u v → ¬ O v u
def Clo (O : Nat → Nat → Prop) (X : List Nat) : Prop := ∀ u v, v ∈ X → O u v → u ∈ X
def cE (m : Nat) (X : List Nat) : Nat := (X.filter fun x => decide (x < m)).length
def cP (m : Nat) (X : List Nat) : Nat := (X.filter fun x => !decide (x < m)).length
/-- how many of the kind of b -/
def cK (m b : Nat) (X : List Nat) : Nat := (X.filter fun x => decide (x < m ↔ b < m)).length
def cO (m b : Nat) (X : List Nat) : Nat := (X.filter fun x => !decide (x < m ↔ b < m)).length
theorem sub_of_len {A B : List Nat} (nd : A.Nodup) (sub : ∀ x ∈ A, x ∈ B) (len : B.length ≤ A.length) : ∀ x ∈ B, x ∈ A := fun x hx => Classical.byContradiction fun hn => by
  have h1 := nodup_sub (x :: A) B (List.nodup_cons.mpr ⟨hn, nd⟩) fun y hy => by
    rcases List.mem_cons.mp hy with rfl | hy
    · exact hx
    · exact sub y hy
  rw [List.length_cons] at h1
  omega
structure Swp (O : Nat → Nat → Prop) (m N : Nat) (X X'' : List Nat) : Prop where
  nd : X''.Nodup
  lt : ∀ x ∈ X'', x < N
  clo : Clo O X''
  e : cE m X'' = cE m X
  p : cP m X'' = cP m X
section
variable {m N : Nat} {O : Nat → Nat → Prop}
/-- one crossing turned: a lay over b, now b lies over a -/
def turn (O : Nat → Nat → Prop) (a b u v : Nat) : Prop := (O u v ∧ ¬ (u = a ∧ v = b)) ∨ (u = b ∧ v = a)
end
end Mine

set_option linter.all false
namespace Mine
open L2
def ovU (up : Nat → Nat → Bool) (m n u v : Nat) : Prop := (u < m ∧ m ≤ v ∧ v < m + n ∧ up u (v - m) = true) ∨ (m ≤ u ∧ u < m + n ∧ v < m ∧ up v (u - m) = false)
structure Tpz (up : Nat → Nat → Bool) (m n : Nat) (zs : List (Nat × Nat)) (eo po : List Nat) : Prop where
  oE : Ord (aS up n) m eo
  oP : Ord (bS up m) n po
  mem : ∀ s t, (s, t) ∈ zs ↔ s ≤ m ∧ t ≤ n ∧ sm (aS up n) (eo.take s) + sm (bS up m) (po.take t) + s * t = s * n + t * m
  lex : zs.Pairwise lexLt
  chn : ∀ a b, a ∈ zs → b ∈ zs → lexLt a b → a.1 ≤ b.1 ∧ a.2 ≤ b.2
def topX (m : Nat) (eo po : List Nat) (s t : Nat) : List Nat := eo.take s ++ (po.take t).map (m + ·)
section
variable {up : Nat → Nat → Bool} {m n : Nat} {zs : List (Nat × Nat)} {eo po : List Nat}
end
/-! ### sorted lists that agree below and above -/
theorem lex_trans {a b c : Nat × Nat} (h1 : lexLt a b) (h2 : lexLt b c) : lexLt a c := by unfold lexLt at *; omega
theorem lex_tot (a b : Nat × Nat) : lexLt a b ∨ a = b ∨ lexLt b a := by
  obtain ⟨a1, a2⟩ := a
  obtain ⟨b1, b2⟩ := b
  unfold lexLt
  by_cases h : a1 = b1
  · by_cases h2 : a2 = b2
    · exact .inr (.inl (by rw [h, h2]))
    · dsimp only; omega
  · dsimp only; omega
theorem split_at {l : List (Nat × Nat)} (pw : l.Pairwise lexLt) (p : Nat × Nat → Bool) (dn : ∀ a b, lexLt a b → p b = true → p a = true) : l = l.filter p ++ l.filter fun x => !p x := by
  induction l with
  | nil => rfl
  | cons a l ih =>
    obtain ⟨h1, h2⟩ := List.pairwise_cons.mp pw
    have ih' := ih h2
    cases hp : p a with
    | true =>
      rw [List.filter_cons_of_pos hp, List.filter_cons_of_neg (by rw [hp]; decide), List.cons_append, ← ih']
    | false =>
      have none : l.filter p = [] := List.filter_eq_nil_iff.mpr fun x hx z => by
        have := dn a x (h1 x hx) z
        rw [hp] at this
        cases this
      rw [none, List.nil_append] at ih'
      rw [List.filter_cons_of_neg (by rw [hp]; decide), List.filter_cons_of_pos (by rw [hp]; rfl), none, List.nil_append, ← ih']
theorem same_list {l l' : List (Nat × Nat)} (pw : l.Pairwise lexLt) (pw' : l'.Pairwise lexLt) (h : ∀ x, x ∈ l ↔ x ∈ l') : l = l' := by
  have nd : ∀ {l : List (Nat × Nat)}, l.Pairwise lexLt → l.Nodup := fun p => p.imp fun {a b} h e => by rw [e] at h; exact lex_irr h
  exact perm_uniq (fun a b h1 h2 => lex_asym h1 h2) ((List.perm_ext_iff_of_nodup (nd pw) (nd pw')).mpr h) pw pw'
theorem mem_takeL {l : List (Nat × Nat)} (pw : l.Pairwise lexLt) {i : Nat} {z : Nat × Nat} (hz : l[i]? = some z) (x : Nat × Nat) : x ∈ l.take (i + 1) ↔ x ∈ l ∧ ¬ lexLt z x := by
  constructor
  · intro h
    obtain ⟨j, hj, e⟩ := List.getElem_of_mem h
    rw [List.length_take] at hj
    rw [List.getElem_take] at e
    refine ⟨List.mem_of_mem_take h, fun lt => ?_⟩
    have := lex_at (j := j) pw hz (by rw [List.getElem?_eq_getElem (show j < l.length by omega), e]) lt
    omega
  · rintro ⟨h1, h2⟩
    obtain ⟨j, hj, e⟩ := List.getElem_of_mem h1
    have e' : l[j]? = some x := by rw [List.getElem?_eq_getElem hj, e]
    have : j < i + 1 := Classical.byContradiction fun hn => by
      have hi := (List.getElem?_eq_some_iff.mp hz)
      obtain ⟨hi1, hi2⟩ := hi
      have := List.pairwise_iff_getElem.mp pw i j hi1 hj (by omega)
      rw [hi2, e] at this
      exact h2 this
    exact List.mem_take_iff_getElem.mpr ⟨j, by omega, e⟩
theorem mem_dropL {l : List (Nat × Nat)} (pw : l.Pairwise lexLt) {i : Nat} {z : Nat × Nat} (hz : l[i]? = some z) (x : Nat × Nat) : x ∈ l.drop i ↔ x ∈ l ∧ ¬ lexLt x z := by
  obtain ⟨hi1, hi2⟩ := List.getElem?_eq_some_iff.mp hz
  constructor
  · intro h
    obtain ⟨j, hj, e⟩ := List.getElem_of_mem h
    rw [List.length_drop] at hj
    rw [List.getElem_drop] at e
    refine ⟨List.mem_of_mem_drop h, fun lt => ?_⟩
    have := lex_at (i := i + j) pw (by rw [List.getElem?_eq_getElem (show i + j < l.length by omega), e]) hz lt
    omega
  · rintro ⟨h1, h2⟩
    obtain ⟨j, hj, e⟩ := List.getElem_of_mem h1
    have : ¬ j < i := fun hn => by
      have := List.pairwise_iff_getElem.mp pw j i hj hi1 hn
      rw [hi2, e] at this
      exact h2 this
    exact List.mem_drop_iff_getElem.mpr ⟨j - i, by omega, by rw [← e]; congr 1; omega⟩
/-- two sorted lists with the same members up to u and from v on -/
theorem agree {l l' : List (Nat × Nat)} (pw : l.Pairwise lexLt) (pw' : l'.Pairwise lexLt) {i j : Nat} {u v : Nat × Nat} (hu : l[i]? = some u) (hv : l[j]? = some v) (huv : lexLt u v) (low : ∀ x, ¬ lexLt u x → (x ∈ l' ↔ x ∈ l)) (high : ∀ x, ¬ lexLt x v → (x ∈ l' ↔ x ∈ l)) :
    ∃ mid, l' = l.take (i + 1) ++ mid ++ l.drop j ∧ ∀ x ∈ mid, x ∈ l' ∧ lexLt u x ∧ lexLt x v := by
  have d1 : ∀ a b : Nat × Nat, lexLt a b → (fun x => @decide (¬ lexLt u x) (Classical.propDecidable _)) b = true → (fun x => @decide (¬ lexLt u x) (Classical.propDecidable _)) a = true := fun a b h1 h2 => by
    have := @of_decide_eq_true _ (Classical.propDecidable _) h2
    exact @decide_eq_true _ (Classical.propDecidable _) fun z => this (lex_trans z h1)
  have d2 : ∀ a b : Nat × Nat, lexLt a b → (fun x => @decide (lexLt x v) (Classical.propDecidable _)) b = true → (fun x => @decide (lexLt x v) (Classical.propDecidable _)) a = true := fun a b h1 h2 => by
    have := @of_decide_eq_true _ (Classical.propDecidable _) h2
    exact @decide_eq_true _ (Classical.propDecidable _) (lex_trans h1 this)
  have s1 := split_at pw' _ d1
  have pw2 := pw'.filter fun x => !(@decide (¬ lexLt u x) (Classical.propDecidable _))
  have s2 := split_at pw2 _ d2
  refine ⟨(l'.filter fun x => !(@decide (¬ lexLt u x) (Classical.propDecidable _))).filter fun x => @decide (lexLt x v) (Classical.propDecidable _), ?_, fun x hx => ?_⟩
  · have e1 : (l'.filter fun x => @decide (¬ lexLt u x) (Classical.propDecidable _)) = l.take (i + 1) := same_list (pw'.filter _) (pw.sublist (List.take_sublist _ _)) fun x => by
      rw [List.mem_filter, mem_takeL pw hu, @decide_eq_true_iff _ (Classical.propDecidable _)]
      exact ⟨fun h => ⟨(low x h.2).mp h.1, h.2⟩, fun h => ⟨(low x h.2).mpr h.1, h.2⟩⟩
    have e2 : ((l'.filter fun x => !(@decide (¬ lexLt u x) (Classical.propDecidable _))).filter fun x => !(@decide (lexLt x v) (Classical.propDecidable _))) = l.drop j := same_list (pw2.filter _) (pw.sublist (List.drop_sublist _ _)) fun x => by
      rw [List.mem_filter, List.mem_filter, mem_dropL pw hv]
      simp only [Bool.not_eq_true', @decide_eq_false_iff_not _ (Classical.propDecidable _), Classical.not_not]
      constructor
      · rintro ⟨⟨h1, h2⟩, h3⟩
        exact ⟨(high x h3).mp h1, h3⟩
      · rintro ⟨h1, h2⟩
        refine ⟨⟨(high x h2).mpr h1, ?_⟩, h2⟩
        rcases lex_tot x v with h | h | h
        · exact absurd h h2
        · rw [h]; exact huv
        · exact lex_trans huv h
    rw [e1] at s1
    rw [e2] at s2
    rw [List.append_assoc, ← s2]
    exact s1
  · obtain ⟨h1, h2⟩ := List.mem_filter.mp hx
    obtain ⟨h3, h4⟩ := List.mem_filter.mp h1
    simp only [Bool.not_eq_true', @decide_eq_false_iff_not _ (Classical.propDecidable _), Classical.not_not] at h4
    exact ⟨h3, h4, @of_decide_eq_true _ (Classical.propDecidable _) h2⟩
end Mine

set_option linter.all false
namespace Mine
open L2
section
variable {up up' : Nat → Nat → Bool} {m n : Nat} {tss : List (List Int)} {zs zs' : List (Nat × Nat)} {eo po eo' po' : List Nat}
end
end Mine

set_option linter.all false
namespace Mine
open L2
/-! ### the layers of a cloth's quarter: core Lean only -/
def quL (m n : Nat) (t : List Int) : List Int := (t.filter fun z => !decide (z < (m : Int))).map (fun z => z - (m : Int)) ++ (t.filter fun z => decide (z < (m : Int))).map fun z => z + (n : Int)
section
variable {up up' : Nat → Nat → Bool} {m n : Nat} {tss : List (List Int)} {zs : List (Nat × Nat)} {eo po : List Nat}
theorem aS_sw (h : ∀ e p, up' p e = !up e p) : aS up' m = bS up m := by
  funext p
  unfold aS bS
  exact sm_ext _ _ (fun e => by rw [h]) _
theorem bS_sw (h : ∀ e p, up' p e = !up e p) : bS up' n = aS up n := by
  funext e
  unfold aS bS
  exact sm_ext _ _ (fun p => by rw [h, Bool.not_not]) _
end
end Mine

set_option linter.all false
namespace Mine
open L2
/-! ### the tops of a cloth's back -/
def rho (m x : Nat) : Nat := if x < m then m - 1 - x else x
section
variable {up up' : Nat → Nat → Bool} {m n : Nat}
end
end Mine

set_option linter.all false
namespace Mine
open L2
section
variable {up up' : Nat → Nat → Bool} {m n : Nat} {eo po : List Nat}
theorem sm_map (f : Nat → Nat) (g : Nat → Nat) : ∀ l : List Nat, sm f (l.map g) = sm (fun x => f (g x)) l
  | [] => rfl
  | x :: l => by show f (g x) + sm f (l.map g) = f (g x) + _; rw [sm_map f g l]
end
end Mine

set_option linter.all false
namespace Mine
open L2
section
variable {up : Nat → Nat → Bool} {m n : Nat} {zs : List (Nat × Nat)} {eo po : List Nat}
/-- two picks of one score on both sides of a top: both are layers of their own -/
theorem Tpz.tie (T : Tpz up m n zs eo po) {i s t : Nat} (hc : zs[i]? = some (s, t)) (h0 : 0 < t) (hn : t < po.length) (e : bS up m po[t - 1] = bS up m po[t]) : 1 ≤ i ∧ zs[i - 1]? = some (s, t - 1) ∧ zs[i + 1]? = some (s, t + 1) := by
  obtain ⟨h1, h2, h3⟩ := (T.mem s t).mp (List.mem_of_getElem? hc)
  have lE := T.oE.len
  have lP := T.oP.len
  have low : ∀ k, k ≤ n → sm (aS up n) (eo.take s) + sm (bS up m) (po.take k) + s * k ≤ s * n + k * m := fun k hk => by
    have := low_of up (S := eo.take s) (S' := eo.drop s) (T := po.take k) (T' := po.drop k) (by rw [List.take_append_drop]; exact T.oE.perm) (by rw [List.take_append_drop]; exact T.oP.perm)
    rwa [List.length_take, List.length_take, lE, lP, Nat.min_eq_left h1, Nat.min_eq_left hk] at this
  have l1 := low (t - 1) (by omega)
  have l2 := low (t + 1) (by omega)
  have s1 : sm (bS up m) (po.take t) = sm (bS up m) (po.take (t - 1)) + bS up m po[t - 1] := by
    have := sm_take_succ (f := bS up m) (l := po) (s := t - 1) (by omega)
    rwa [show t - 1 + 1 = t by omega] at this
  have s2 := sm_take_succ (f := bS up m) (l := po) (s := t) hn
  have q1 : s * t = s * (t - 1) + s := by
    conv => lhs; rw [show t = (t - 1) + 1 by omega, Nat.mul_succ]
  have q2 : t * m = (t - 1) * m + m := by
    conv => lhs; rw [show t = (t - 1) + 1 by omega, Nat.succ_mul]
  have q3 : s * (t + 1) = s * t + s := Nat.mul_succ _ _
  have q4 : (t + 1) * m = t * m + m := Nat.succ_mul _ _
  have m1 : (s, t - 1) ∈ zs := (T.mem _ _).mpr ⟨h1, by omega, by omega⟩
  have m2 : (s, t + 1) ∈ zs := (T.mem _ _).mpr ⟨h1, by omega, by omega⟩
  obtain ⟨a, ha, ea⟩ := List.getElem_of_mem m1
  obtain ⟨b, hb, eb⟩ := List.getElem_of_mem m2
  have ea' : zs[a]? = some (s, t - 1) := by rw [List.getElem?_eq_getElem ha, ea]
  have eb' : zs[b]? = some (s, t + 1) := by rw [List.getElem?_eq_getElem hb, eb]
  obtain ⟨hi, ei⟩ := List.getElem?_eq_some_iff.mp hc
  have ai := lex_at T.lex ea' hc (by unfold lexLt; dsimp only; omega)
  have ib := lex_at T.lex hc eb' (by unfold lexLt; dsimp only; omega)
  have pw := List.pairwise_iff_getElem.mp T.lex
  have a1 : a = i - 1 := Classical.byContradiction fun z => by
    have p1 := pw a (i - 1) ha (by omega) (by omega)
    have p2 := pw (i - 1) i (by omega) hi (by omega)
    rw [ea] at p1
    rw [ei] at p2
    unfold lexLt at p1 p2
    dsimp only at p1 p2
    omega
  have b1 : b = i + 1 := Classical.byContradiction fun z => by
    have p1 := pw i (i + 1) hi (by omega) (by omega)
    have p2 := pw (i + 1) b (by omega) hb (by omega)
    rw [ei] at p1
    rw [eb] at p2
    unfold lexLt at p1 p2
    dsimp only at p1 p2
    omega
  exact ⟨by omega, by rw [← a1]; exact ea', by rw [← b1]; exact eb'⟩
end
end Mine

set_option linter.all false
namespace Mine
open L2
/-! ### lone picks by number -/
def Lone (m : Nat) (t : List Int) : Prop := ∃ z : Int, t = [z] ∧ (m : Int) ≤ z
def hd0 (t : List Int) : Int := t.headD 0
structure InsA (m : Nat) (made : List (List Int)) (x : List Int) (k : Nat) : Prop where
  le : k ≤ made.length
  no : ¬ Lone m x → k = made.length
  aft : ∀ (i : Nat) (y : List Int), k ≤ i → made[i]? = some y → Lone m y ∧ hd0 x < hd0 y
  bef : Lone m x → ∀ (i : Nat) (y : List Int), i + 1 = k → made[i]? = some y → Lone m y → hd0 y ≤ hd0 x
inductive ByN (m : Nat) (ms : List (List Int)) : Nat → List (List Int) → Prop
  | zero : ByN m ms 0 []
  | succ {i k : Nat} {made : List (List Int)} {x : List Int} : ByN m ms i made → ms[i]? = some x → InsA m made x k → ByN m ms (i + 1) (made.take k ++ x :: made.drop k)
def lbR (a b : Nat × List Int) : Prop := a.1 < b.1 ∨ (a.1 = b.1 ∧ hd0 a.2 < hd0 b.2)
structure Itm (m : Nat) (its : List (Nat × List Int)) : Prop where
  ok : ∀ (j i : Nat) (a b : Nat × List Int), i < j → its[i]? = some a → its[j]? = some b →
    a.1 ≤ b.1 ∧ (a.1 = b.1 → Lone m a.2 ∧ Lone m b.2 ∧ a.2 ≠ b.2) ∧ (Lone m a.2 → Lone m b.2 → a.1 < b.1 → ∃ (k : Nat) (c : Nat × List Int), k < j ∧ its[k]? = some c ∧ ¬ Lone m c.2 ∧ a.1 < c.1 ∧ c.1 < b.1)
end Mine

set_option linter.all false
namespace Mine
open L2
def bkL (m : Nat) (t : List Int) : List Int := (t.reverse.filter fun z => decide (z < (m : Int))).map (fun z => (m : Int) - 1 - z) ++ t.filter fun z => decide ((m : Int) ≤ z)
section
variable {up : Nat → Nat → Bool} {m n : Nat} {tss : List (List Int)} {zs : List (Nat × Nat)} {eo po : List Nat}
theorem Lay.loneVal (L : Lay up m n tss zs eo po) {i : Nat} (hi : i < tss.length) {a b : Nat × Nat} (ea : zs[i]? = some a) (eb : zs[i + 1]? = some b) (e1 : a.1 = b.1) (e2 : b.2 = a.2 + 1) :
    ∃ h : a.2 < po.length, tss[i] = [cQ m po[a.2]] ∧ bS up m po[a.2] + a.1 = m := by
  have lP := L.oP.len
  have hb := L.in_ _ _ eb
  have h : a.2 < po.length := by omega
  refine ⟨h, ?_, ?_⟩
  · obtain ⟨p, _⟩ := L.lay i a b _ ea eb (List.getElem?_eq_getElem hi)
    rw [← e1, e2, Nat.sub_self, List.take_zero, List.map_nil, List.nil_append, show a.2 + 1 - a.2 = 1 by omega, List.drop_eq_getElem_cons h] at p
    exact List.perm_singleton.mp p
  · have za := L.z _ _ ea
    have zb := L.z _ _ eb
    rw [← e1, e2, sm_take_succ h, Nat.mul_succ, Nat.succ_mul] at zb
    omega
theorem mem_seg {l : List Nat} (nd : l.Nodup) {s s' x : Nat} (h : s ≤ s') : x ∈ (l.drop s).take (s' - s) ↔ x ∈ l.take s' ∧ x ∉ l.take s := by
  have e : l.take s' = l.take s ++ (l.drop s).take (s' - s) := by
    conv => lhs; rw [show s' = s + (s' - s) by omega]
    rw [List.take_add]
  have nd' : (l.take s').Nodup := nd.sublist (List.take_sublist _ _)
  rw [e] at nd' ⊢
  rw [List.mem_append]
  refine ⟨fun hx => ⟨.inr hx, fun z => (List.nodup_append.mp nd').2.2 x z x hx rfl⟩, fun ⟨h1, h2⟩ => h1.resolve_left h2⟩
theorem not_take {l : List Nat} (nd : l.Nodup) {s x : Nat} (hx : x ∈ l) : x ∉ l.take s ↔ x ∈ l.drop s := by
  have e := List.take_append_drop s l
  rw [← e] at nd hx
  refine ⟨fun h => (List.mem_append.mp hx).resolve_left h, fun h z => (List.nodup_append.mp nd).2.2 x z x h rfl⟩
end
section
variable {up up' : Nat → Nat → Bool} {m n : Nat} {tss tss' : List (List Int)} {zs zs' : List (Nat × Nat)} {eo po eo' po' : List Nat}
/-- no tie across a top whose neighbour step is no lone pick -/
theorem Tpz.noTie (T : Tpz up m n zs eo po) {i : Nat} {c : Nat × Nat} (hc : zs[i]? = some c) (no : ∀ a b : Nat × Nat, 1 ≤ i → zs[i - 1]? = some a → zs[i + 1]? = some b → a = (c.1, c.2 - 1) → b = (c.1, c.2 + 1) → 0 < c.2 → False) :
    ∀ x ∈ po.take c.2, ∀ y ∈ po.drop c.2, bS up m y < bS up m x := fun x hx y hy => by
  obtain ⟨p, hp, rfl⟩ := List.mem_take_iff_getElem.mp hx
  obtain ⟨q, hq, rfl⟩ := List.mem_drop_iff_getElem.mp hy
  have pw := List.pairwise_iff_getElem.mp T.oP.ord
  have h0 : 0 < c.2 := by omega
  have hn : c.2 < po.length := by omega
  have ne : ¬ bS up m po[c.2 - 1] = bS up m po[c.2] := fun e => by
    obtain ⟨h1, h2, h3⟩ := T.tie (i := i) (s := c.1) (t := c.2) hc h0 hn e
    exact no _ _ h1 h2 h3 rfl rfl h0
  have b1 := pw (c.2 - 1) c.2 (by omega) hn (by omega)
  have b2 : bS up m po[c.2 - 1] ≤ bS up m po[p] := by
    rcases Nat.lt_or_ge p (c.2 - 1) with z | z
    · have := pw p (c.2 - 1) (by omega) (by omega) z
      omega
    · have e : p = c.2 - 1 := by omega
      subst e
      exact Nat.le_refl _
  have b3 : bS up m po[c.2 + q] ≤ bS up m po[c.2] := by
    rcases Nat.eq_zero_or_pos q with z | z
    · subst z; exact Nat.le_refl _
    · have := pw c.2 (c.2 + q) hn (by omega) (by omega)
      omega
  omega
end
end Mine

set_option linter.all false
namespace Mine
open L2
section
variable {up up' : Nat → Nat → Bool} {m n : Nat} {tss tss' : List (List Int)} {zs zs' : List (Nat × Nat)} {eo po eo' po' : List Nat}
structure BkAt (up up' : Nat → Nat → Bool) (m n : Nat) (tss tss' : List (List Int)) (zs' : List (Nat × Nat)) (po' : List Nat) (U : Nat → Nat) (i : Nat) (x y : List Int) : Prop where
  lone : Lone m x ↔ U i = U (i + 1)
  same : U i ≠ U (i + 1) → y = x
  val : U i = U (i + 1) → ∃ (p p' : Nat) (a : Nat × Nat), p < n ∧ x = [cQ m p] ∧ tss[tss.length - 1 - i]? = some [cQ m p] ∧ bS up m p = U i ∧ bS up m p ≤ m ∧ zs'[i]? = some a ∧ zs'[i + 1]? = some (a.1, a.2 + 1) ∧ po'[a.2]? = some p' ∧ y = [cQ m p'] ∧ bS up' m p' + U i = m
end
end Mine

set_option linter.all false
namespace Mine
open L2
/-! ### a tiled cloth's scores and tops -/
theorem sm_tile (f : Nat → Nat) (n : Nat) (hn : 0 < n) : ∀ b : Nat, sm (fun p => f (p % n)) (List.range (n * b)) = b * sm f (List.range n)
  | 0 => by rw [Nat.mul_zero, Nat.zero_mul]; rfl
  | b + 1 => by
    rw [Nat.mul_succ, List.range_add, sm_app, sm_tile f n hn b, sm_map, Nat.succ_mul]
    congr 1
    refine sm_congr fun p hp => ?_
    rw [Nat.mul_add_mod, Nat.mod_eq_of_lt (List.mem_range.mp hp)]
section
variable {up up' : Nat → Nat → Bool} {m n a b : Nat}
theorem aS_tile (hU : ∀ e p, e < m * a → p < n * b → up' e p = up (e % m) (p % n)) (hn : 0 < n) {e : Nat} (he : e < m * a) : aS up' (n * b) e = b * aS up n (e % m) := by
  unfold aS
  rw [← sm_tile (fun p => b2n (up (e % m) p)) n hn b]
  exact sm_congr fun p hp => by rw [hU e p he (List.mem_range.mp hp)]
theorem bS_tile (hU : ∀ e p, e < m * a → p < n * b → up' e p = up (e % m) (p % n)) (hm : 0 < m) {p : Nat} (hp : p < n * b) : bS up' (m * a) p = a * bS up m (p % n) := by
  unfold bS
  rw [← sm_tile (fun e => b2n (!up e (p % n))) m hm a]
  exact sm_congr fun e he => by rw [hU e p (List.mem_range.mp he) hp]
end
theorem rep_succ {α : Type} (a : Nat) (f : Nat → α) : ∀ l : List Nat, (l.flatMap fun e => List.replicate (a + 1) (f e)).Perm ((l.flatMap fun e => List.replicate a (f e)) ++ l.map f)
  | [] => List.Perm.refl _
  | x :: l => by
    rw [List.flatMap_cons, List.flatMap_cons, List.map_cons, List.replicate_succ, List.cons_append, List.append_assoc]
    refine List.Perm.trans ?_ (List.perm_append_comm_assoc _ _ _)
    rw [← List.append_assoc]
    refine List.Perm.trans ?_ List.perm_middle.symm
    refine List.Perm.cons _ ?_
    refine (List.Perm.append_left _ (rep_succ a f l)).trans ?_
    rw [← List.append_assoc]
    refine List.Perm.append_right _ List.perm_append_comm
theorem map_tile {α : Type} (m : Nat) (hm : 0 < m) (f : Nat → α) : ∀ a : Nat, ((List.range (m * a)).map fun x => f (x % m)).Perm ((List.range m).flatMap fun e => List.replicate a (f e))
  | 0 => by
    rw [Nat.mul_zero]
    refine List.Perm.of_eq ?_
    show [] = _
    exact (List.flatMap_eq_nil_iff.mpr fun x _ => rfl).symm
  | a + 1 => by
    rw [Nat.mul_succ, List.range_add, List.map_append, List.map_map]
    refine List.Perm.trans ?_ (rep_succ a f _).symm
    refine (map_tile m hm f a).append (List.Perm.of_eq (List.map_congr_left fun x hx => ?_))
    show f ((m * a + x) % m) = f x
    rw [Nat.mul_add_mod, Nat.mod_eq_of_lt (List.mem_range.mp hx)]
theorem ord_tile {key key' : Nat → Nat} {m a b : Nat} {l l' : List Nat} (hm : 0 < m) (o : Ord key m l) (o' : Ord key' (m * a) l') (hk : ∀ x, x < m * a → key' x = b * key (x % m)) :
    (l'.map fun e => ((key' e : Nat) : Int)) = l.flatMap fun e => List.replicate a (((b * key e : Nat)) : Int) := by
  refine dec_uniq ?_ ?_ ?_
  · refine (o'.perm.map _).trans ?_
    have e1 : ((List.range (m * a)).map fun e => ((key' e : Nat) : Int)) = (List.range (m * a)).map fun x => ((b * key (x % m) : Nat) : Int) := List.map_congr_left fun x hx => by rw [hk x (List.mem_range.mp hx)]
    rw [e1]
    exact (map_tile m hm (fun e => ((b * key e : Nat) : Int)) a).trans (o.perm.symm.flatMap_right _)
  · rw [List.pairwise_map]
    exact o'.ord.imp fun {x y} h => by omega
  · rw [List.pairwise_flatMap]
    refine ⟨fun x _ => ?_, o.ord.imp fun {x y} h u hu v hv => ?_⟩
    · exact List.pairwise_replicate.mpr (.inr (Int.le_refl _))
    · rw [List.eq_of_mem_replicate hu, List.eq_of_mem_replicate hv]
      have : key y ≤ key x := by omega
      have := Nat.mul_le_mul_left b this
      omega
theorem repGet {α : Type} (a : Nat) (f : Nat → α) : ∀ (l : List Nat) (s i : Nat), i < a → (l.flatMap fun e => List.replicate a (f e))[a * s + i]? = l[s]?.map f
  | [], s, i, h => by simp
  | x :: l, 0, i, h => by
    rw [Nat.mul_zero, Nat.zero_add, List.flatMap_cons, List.getElem?_append_left (by rw [List.length_replicate]; exact h), List.getElem?_replicate, if_pos h]
    rfl
  | x :: l, s + 1, i, h => by
    rw [List.flatMap_cons, List.getElem?_append_right (by rw [List.length_replicate, Nat.mul_succ]; omega), List.length_replicate, show a * (s + 1) + i - a = a * s + i by rw [Nat.mul_succ]; omega, repGet a f l s i h]
    rfl
section
variable {key key' : Nat → Nat} {m a b : Nat} {l l' : List Nat}
theorem lt_tile {m a s i : Nat} (hs : s < m) (hi : i < a) : a * s + i < m * a := by
  have : a * (s + 1) ≤ a * m := Nat.mul_le_mul_left a hs
  rw [Nat.mul_succ] at this
  rw [Nat.mul_comm m a]
  omega
theorem key_tile (hm : 0 < m) (o : Ord key m l) (o' : Ord key' (m * a) l') (hk : ∀ x, x < m * a → key' x = b * key (x % m)) {s i : Nat} (hs : s < m) (hi : i < a) :
    ∃ (h1 : a * s + i < l'.length) (h2 : s < l.length), key' l'[a * s + i] = b * key l[s] := by
  have h1 : a * s + i < l'.length := by rw [o'.len]; exact lt_tile hs hi
  have h2 : s < l.length := by rw [o.len]; exact hs
  refine ⟨h1, h2, ?_⟩
  have e := congrArg (fun x : List Int => x[a * s + i]?) (ord_tile hm o o' hk)
  rw [repGet a _ l s i hi, List.getElem?_map, List.getElem?_eq_getElem h1, List.getElem?_eq_getElem h2] at e
  have e2 : ((key' l'[a * s + i] : Nat) : Int) = ((b * key l[s] : Nat) : Int) := Option.some.inj e
  exact Int.ofNat.inj e2
theorem sum_tile (hm : 0 < m) (o : Ord key m l) (o' : Ord key' (m * a) l') (hk : ∀ x, x < m * a → key' x = b * key (x % m)) : ∀ (s : Nat) (hs : s < m) (i : Nat), i ≤ a →
    ∃ h2 : s < l.length, sm key' (l'.take (a * s + i)) = b * (a * sm key (l.take s) + i * key l[s])
  | s, hs, i + 1, hi => by
    obtain ⟨h2, e⟩ := sum_tile hm o o' hk s hs i (by omega)
    obtain ⟨h1, _, e2⟩ := key_tile hm o o' hk hs (show i < a by omega)
    refine ⟨h2, ?_⟩
    rw [← Nat.add_assoc, sm_take_succ h1, e, e2, Nat.succ_mul, Nat.mul_add, Nat.mul_add, Nat.mul_add, Nat.add_assoc]
  | 0, hs, 0, hi => by
    have h2 : 0 < l.length := by rw [o.len]; exact hs
    refine ⟨h2, ?_⟩
    rw [Nat.mul_zero, Nat.zero_mul, Nat.add_zero, List.take_zero, List.take_zero]
    show 0 = b * (a * 0 + 0)
    rw [Nat.mul_zero, Nat.add_zero, Nat.mul_zero]
  | s + 1, hs, 0, hi => by
    have h2 : s + 1 < l.length := by rw [o.len]; exact hs
    obtain ⟨h3, e⟩ := sum_tile hm o o' hk s (by omega) a (Nat.le_refl _)
    refine ⟨h2, ?_⟩
    rw [Nat.zero_mul, Nat.add_zero, Nat.mul_succ, e, sm_take_succ h3, Nat.mul_add a, Nat.add_zero]
  termination_by s _ i => (s, i)
end
section
variable {up up' : Nat → Nat → Bool} {m n a b : Nat} {zs zs' : List (Nat × Nat)} {eo po eo' po' : List Nat}
theorem prod0 {x y z : Int} (hx : 0 ≤ x) (hy : 0 ≤ y) (hz : 0 ≤ z) : 0 ≤ x * y * z := Int.mul_nonneg (Int.mul_nonneg hx hy) hz
theorem prod0z {x y z : Int} (hx : 0 < x) (hy : 0 < y) (h : x * y * z = 0) : z = 0 := by
  rcases Int.mul_eq_zero.mp h with h | h
  · rcases Int.mul_eq_zero.mp h with h | h <;> omega
  · exact h
/-- a top of the tiled cloth: each corner of its cell that has a part in it is a top -/
theorem tile_top (T : Tpz up m n zs eo po) (T' : Tpz up' (m * a) (n * b) zs' eo' po') (hU : ∀ e p, e < m * a → p < n * b → up' e p = up (e % m) (p % n)) (hm : 0 < m) (hn : 0 < n) {s t i j : Nat} (hs : s < m) (ht : t < n) (hi : i ≤ a) (hj : j ≤ b) :
    (a * s + i, b * t + j) ∈ zs' ↔ (i < a → j < b → (s, t) ∈ zs) ∧ (0 < i → j < b → (s + 1, t) ∈ zs) ∧ (i < a → 0 < j → (s, t + 1) ∈ zs) ∧ (0 < i → 0 < j → (s + 1, t + 1) ∈ zs) := by
  obtain ⟨h1, eA⟩ := sum_tile hm T.oE T'.oE (b := b) (fun x hx => aS_tile hU hn hx) s hs i hi
  obtain ⟨h2, eB⟩ := sum_tile hn T.oP T'.oP (b := a) (fun x hx => bS_tile hU hm hx) t ht j hj
  have lE := T.oE.len
  have lP := T.oP.len
  have low : ∀ s t, s ≤ m → t ≤ n → 0 ≤ (s : Int) * n + (t : Int) * m - (s : Int) * t - (sm (aS up n) (eo.take s) : Nat) - (sm (bS up m) (po.take t) : Nat) := fun s t hs ht => by
    have := low_of up (S := eo.take s) (S' := eo.drop s) (T := po.take t) (T' := po.drop t) (by rw [List.take_append_drop]; exact T.oE.perm) (by rw [List.take_append_drop]; exact T.oP.perm)
    rw [List.length_take, List.length_take, lE, lP, Nat.min_eq_left hs, Nat.min_eq_left ht] at this
    have c : ((sm (aS up n) (eo.take s) + sm (bS up m) (po.take t) + s * t : Nat) : Int) ≤ ((s * n + t * m : Nat) : Int) := by exact_mod_cast this
    simp only [Int.natCast_add, Int.natCast_mul] at c
    omega
  have mem : ∀ s t, s ≤ m → t ≤ n → ((s, t) ∈ zs ↔ (s : Int) * n + (t : Int) * m - (s : Int) * t - (sm (aS up n) (eo.take s) : Nat) - (sm (bS up m) (po.take t) : Nat) = 0) := fun s t hs ht => by
    rw [T.mem]
    constructor
    · rintro ⟨_, _, e⟩
      have c : ((sm (aS up n) (eo.take s) + sm (bS up m) (po.take t) + s * t : Nat) : Int) = ((s * n + t * m : Nat) : Int) := by exact_mod_cast e
      simp only [Int.natCast_add, Int.natCast_mul] at c
      omega
    · intro e
      refine ⟨hs, ht, ?_⟩
      have c : ((sm (aS up n) (eo.take s) + sm (bS up m) (po.take t) + s * t : Nat) : Int) = ((s * n + t * m : Nat) : Int) := by
        simp only [Int.natCast_add, Int.natCast_mul]
        omega
      exact_mod_cast c
  have sA := sm_take_succ (f := aS up n) h1
  have sB := sm_take_succ (f := bS up m) h2
  have ms : a * s + i ≤ m * a := by
    have : a * (s + 1) ≤ a * m := Nat.mul_le_mul_left a hs
    rw [Nat.mul_succ] at this
    rw [Nat.mul_comm m a]
    omega
  have mt : b * t + j ≤ n * b := by
    have : b * (t + 1) ≤ b * n := Nat.mul_le_mul_left b ht
    rw [Nat.mul_succ] at this
    rw [Nat.mul_comm n b]
    omega
  have l00 := low s t (by omega) (by omega)
  have l10 := low (s + 1) t (by omega) (by omega)
  have l01 := low s (t + 1) (by omega) (by omega)
  have l11 := low (s + 1) (t + 1) (by omega) (by omega)
  rw [T'.mem, eA, eB, mem s t (by omega) (by omega), mem (s + 1) t (by omega) (by omega), mem s (t + 1) (by omega) (by omega), mem (s + 1) (t + 1) (by omega) (by omega)]
  rw [sA] at l10 l11 ⊢
  rw [sB] at l01 l11 ⊢
  generalize sm (aS up n) (eo.take s) = A at *
  generalize sm (bS up m) (po.take t) = B at *
  generalize aS up n eo[s] = α at *
  generalize bS up m po[t] = β at *
  have key : ((a * s + i : Nat) : Int) * ((n * b : Nat) : Int) + ((b * t + j : Nat) : Int) * ((m * a : Nat) : Int) - ((a * s + i : Nat) : Int) * ((b * t + j : Nat) : Int) - ((b * (a * A + i * α) : Nat) : Int) - ((a * (b * B + j * β) : Nat) : Int)
      = ((a : Int) - i) * ((b : Int) - j) * ((s : Int) * n + (t : Int) * m - (s : Int) * t - (A : Int) - (B : Int)) + (i : Int) * ((b : Int) - j) * (((s + 1 : Nat) : Int) * n + (t : Int) * m - ((s + 1 : Nat) : Int) * t - ((A + α : Nat) : Int) - (B : Int))
        + ((a : Int) - i) * (j : Int) * ((s : Int) * n + ((t + 1 : Nat) : Int) * m - (s : Int) * ((t + 1 : Nat) : Int) - (A : Int) - ((B + β : Nat) : Int)) + (i : Int) * (j : Int) * (((s + 1 : Nat) : Int) * n + ((t + 1 : Nat) : Int) * m - ((s + 1 : Nat) : Int) * ((t + 1 : Nat) : Int) - ((A + α : Nat) : Int) - ((B + β : Nat) : Int)) := by
    simp only [Int.natCast_add, Int.natCast_mul, Int.natCast_one]
    grind
  generalize hg00 : (s : Int) * n + (t : Int) * m - (s : Int) * t - (A : Int) - (B : Int) = g00 at *
  generalize hg10 : ((s + 1 : Nat) : Int) * n + (t : Int) * m - ((s + 1 : Nat) : Int) * t - ((A + α : Nat) : Int) - (B : Int) = g10 at *
  generalize hg01 : (s : Int) * n + ((t + 1 : Nat) : Int) * m - (s : Int) * ((t + 1 : Nat) : Int) - (A : Int) - ((B + β : Nat) : Int) = g01 at *
  generalize hg11 : ((s + 1 : Nat) : Int) * n + ((t + 1 : Nat) : Int) * m - ((s + 1 : Nat) : Int) * ((t + 1 : Nat) : Int) - ((A + α : Nat) : Int) - ((B + β : Nat) : Int) = g11 at *
  have eq : (b * (a * A + i * α) + a * (b * B + j * β) + (a * s + i) * (b * t + j) = (a * s + i) * (n * b) + (b * t + j) * (m * a)) ↔
      ((a * s + i : Nat) : Int) * ((n * b : Nat) : Int) + ((b * t + j : Nat) : Int) * ((m * a : Nat) : Int) - ((a * s + i : Nat) : Int) * ((b * t + j : Nat) : Int) - ((b * (a * A + i * α) : Nat) : Int) - ((a * (b * B + j * β) : Nat) : Int) = 0 := by
    rw [← Int.natCast_mul, ← Int.natCast_mul, ← Int.natCast_mul]
    omega
  rw [eq, key]
  have n00 := prod0 (show (0 : Int) ≤ (a : Int) - i by omega) (show (0 : Int) ≤ (b : Int) - j by omega) l00
  have n10 := prod0 (show (0 : Int) ≤ (i : Int) by omega) (show (0 : Int) ≤ (b : Int) - j by omega) l10
  have n01 := prod0 (show (0 : Int) ≤ (a : Int) - i by omega) (show (0 : Int) ≤ (j : Int) by omega) l01
  have n11 := prod0 (show (0 : Int) ≤ (i : Int) by omega) (show (0 : Int) ≤ (j : Int) by omega) l11
  constructor
  · rintro ⟨_, _, e⟩
    exact ⟨fun x1 x2 => prod0z (x := (a : Int) - i) (y := (b : Int) - j) (by omega) (by omega) (by omega), fun x1 x2 => prod0z (x := (i : Int)) (y := (b : Int) - j) (by omega) (by omega) (by omega),
      fun x1 x2 => prod0z (x := (a : Int) - i) (y := (j : Int)) (by omega) (by omega) (by omega), fun x1 x2 => prod0z (x := (i : Int)) (y := (j : Int)) (by omega) (by omega) (by omega)⟩
  · rintro ⟨c00, c10, c01, c11⟩
    refine ⟨ms, mt, ?_⟩
    have z00 : ((a : Int) - i) * ((b : Int) - j) * g00 = 0 := by
      rcases Nat.lt_or_ge i a with x1 | x1
      · rcases Nat.lt_or_ge j b with x2 | x2
        · rw [c00 x1 x2, Int.mul_zero]
        · rw [show (b : Int) - j = 0 by omega, Int.mul_zero, Int.zero_mul]
      · rw [show (a : Int) - i = 0 by omega, Int.zero_mul, Int.zero_mul]
    have z10 : (i : Int) * ((b : Int) - j) * g10 = 0 := by
      rcases Nat.eq_zero_or_pos i with x1 | x1
      · rw [show (i : Int) = 0 by omega, Int.zero_mul, Int.zero_mul]
      · rcases Nat.lt_or_ge j b with x2 | x2
        · rw [c10 x1 x2, Int.mul_zero]
        · rw [show (b : Int) - j = 0 by omega, Int.mul_zero, Int.zero_mul]
    have z01 : ((a : Int) - i) * (j : Int) * g01 = 0 := by
      rcases Nat.lt_or_ge i a with x1 | x1
      · rcases Nat.eq_zero_or_pos j with x2 | x2
        · rw [show (j : Int) = 0 by omega, Int.mul_zero, Int.zero_mul]
        · rw [c01 x1 x2, Int.mul_zero]
      · rw [show (a : Int) - i = 0 by omega, Int.zero_mul, Int.zero_mul]
    have z11 : (i : Int) * (j : Int) * g11 = 0 := by
      rcases Nat.eq_zero_or_pos i with x1 | x1
      · rw [show (i : Int) = 0 by omega, Int.zero_mul, Int.zero_mul]
      · rcases Nat.eq_zero_or_pos j with x2 | x2
        · rw [show (j : Int) = 0 by omega, Int.mul_zero, Int.zero_mul]
        · rw [c11 x1 x2, Int.mul_zero]
    rw [z00, z10, z01, z11]
    rfl
end
end Mine

set_option linter.all false
namespace Mine
open L2
section
variable {up up' : Nat → Nat → Bool} {m n a b : Nat} {zs zs' : List (Nat × Nat)} {eo po eo' po' : List Nat}
theorem cell {a m x : Nat} (ha : 0 < a) (hm : 0 < m) (hx : x ≤ m * a) : ∃ s i, s < m ∧ i ≤ a ∧ x = a * s + i ∧ (i < a → s = x / a) ∧ (i = a → s + 1 = x / a) ∧ (0 < i → s + 1 = (x + a - 1) / a) ∧ (i = 0 → s = (x + a - 1) / a) := by
  rcases Nat.lt_or_ge x (m * a) with h | h
  · have h1 := Nat.div_add_mod x a
    have h2 := Nat.mod_lt x ha
    have h3 : x / a < m := (Nat.div_lt_iff_lt_mul ha).mpr h
    refine ⟨x / a, x % a, h3, by omega, by omega, fun _ => rfl, fun z => by omega, fun z => ?_, fun z => ?_⟩
    · refine (Nat.div_eq_of_lt_le ?_ ?_).symm
      · rw [Nat.add_mul, Nat.one_mul, Nat.mul_comm]; omega
      · rw [Nat.add_mul, Nat.add_mul, Nat.one_mul, Nat.mul_comm]; omega
    · refine (Nat.div_eq_of_lt_le ?_ ?_).symm
      · rw [Nat.mul_comm]; omega
      · rw [Nat.add_mul, Nat.one_mul, Nat.mul_comm]; omega
  · have e : x = m * a := by omega
    have e2 : m * a = a * (m - 1) + a := by
      conv => lhs; rw [show m = (m - 1) + 1 by omega, Nat.succ_mul, Nat.mul_comm]
    refine ⟨m - 1, a, by omega, Nat.le_refl _, by omega, fun z => by omega, fun _ => ?_, fun _ => ?_, fun z => by omega⟩
    · rw [e, Nat.mul_div_cancel _ ha]; omega
    · refine (Nat.div_eq_of_lt_le ?_ ?_).symm
      · rw [show m - 1 + 1 = m by omega]; omega
      · rw [show m - 1 + 1 + 1 = m + 1 by omega, Nat.succ_mul]; omega
/-- the corner below and the corner above a top of the tiled cloth -/
theorem tile_near (T : Tpz up m n zs eo po) (T' : Tpz up' (m * a) (n * b) zs' eo' po') (hU : ∀ e p, e < m * a → p < n * b → up' e p = up (e % m) (p % n)) (hm : 0 < m) (hn : 0 < n) (ha : 0 < a) (hb : 0 < b) {x y : Nat} (h : (x, y) ∈ zs') :
    (x / a, y / b) ∈ zs ∧ ((x + a - 1) / a, (y + b - 1) / b) ∈ zs := by
  obtain ⟨hx, hy, _⟩ := (T'.mem x y).mp h
  obtain ⟨s, i, hs, hi, ex, c1, c2, c3, c4⟩ := cell ha hm hx
  obtain ⟨t, j, ht, hj, ey, d1, d2, d3, d4⟩ := cell hb hn hy
  rw [ex, ey] at h
  obtain ⟨k1, k2, k3, k4⟩ := (tile_top T T' hU hm hn hs ht hi hj).mp h
  constructor
  · rcases Nat.lt_or_ge i a with z | z
    · rw [← c1 z]
      rcases Nat.lt_or_ge j b with w | w
      · rw [← d1 w]; exact k1 z w
      · rw [← d2 (by omega)]; exact k3 z (by omega)
    · rw [← c2 (by omega)]
      rcases Nat.lt_or_ge j b with w | w
      · rw [← d1 w]; exact k2 (by omega) w
      · rw [← d2 (by omega)]; exact k4 (by omega) (by omega)
  · rcases Nat.eq_zero_or_pos i with z | z
    · rw [← c4 z]
      rcases Nat.eq_zero_or_pos j with w | w
      · rw [← d4 w]; exact k1 (by omega) (by omega)
      · rw [← d3 w]; exact k3 (by omega) w
    · rw [← c3 z]
      rcases Nat.eq_zero_or_pos j with w | w
      · rw [← d4 w]; exact k2 z (by omega)
      · rw [← d3 w]; exact k4 z w
/-- tops of the cloth, and what lies between two of them that are one end apart -/
theorem tile_in (T : Tpz up m n zs eo po) (T' : Tpz up' (m * a) (n * b) zs' eo' po') (hU : ∀ e p, e < m * a → p < n * b → up' e p = up (e % m) (p % n)) (hm : 0 < m) (hn : 0 < n) {s t : Nat} (h : (s, t) ∈ zs) {i j : Nat} (hi : i ≤ a) (hj : j ≤ b)
    (nE : 0 < i → (s + 1, t) ∈ zs ∧ j = 0) (nP : 0 < j → (s, t + 1) ∈ zs ∧ i = 0) : (a * s + i, b * t + j) ∈ zs' := by
  obtain ⟨h1, h2, _⟩ := (T.mem s t).mp h
  have e1 : ∀ {q : Nat}, 0 < q → a * q = a * (q - 1) + a := fun {q} hq => by conv => lhs; rw [show q = (q - 1) + 1 by omega, Nat.mul_succ]
  have e2 : ∀ {q : Nat}, 0 < q → b * q = b * (q - 1) + b := fun {q} hq => by conv => lhs; rw [show q = (q - 1) + 1 by omega, Nat.mul_succ]
  have hsi : 0 < i → s < m := fun z => by have := (T.mem _ _).mp (nE z).1; omega
  have htj : 0 < j → t < n := fun z => by have := (T.mem _ _).mp (nP z).1; omega
  rcases Nat.lt_or_ge s m with ls | ls
  · rcases Nat.lt_or_ge t n with lt | lt
    · refine (tile_top T T' hU hm hn ls lt hi hj).mpr ⟨fun _ _ => h, fun z _ => (nE z).1, fun _ z => (nP z).1, fun z w => by have := (nE z).2; omega⟩
    · have j0 : j = 0 := by rcases Nat.eq_zero_or_pos j with z | z; exact z; exact absurd (htj z) (by omega)
      subst j0
      rw [Nat.add_zero, e2 (show 0 < t by omega)]
      refine (tile_top T T' hU hm hn ls (show t - 1 < n by omega) hi (Nat.le_refl _)).mpr ⟨fun _ z => by omega, fun _ z => by omega, fun _ _ => ?_, fun z _ => ?_⟩
      · rw [show t - 1 + 1 = t by omega]; exact h
      · rw [show t - 1 + 1 = t by omega]; exact (nE z).1
  · have i0 : i = 0 := by rcases Nat.eq_zero_or_pos i with z | z; exact z; exact absurd (hsi z) (by omega)
    subst i0
    rw [Nat.add_zero, e1 (show 0 < s by omega)]
    rcases Nat.lt_or_ge t n with lt | lt
    · refine (tile_top T T' hU hm hn (show s - 1 < m by omega) lt (Nat.le_refl _) hj).mpr ⟨fun z _ => by omega, fun _ _ => ?_, fun z _ => by omega, fun _ z => ?_⟩
      · rw [show s - 1 + 1 = s by omega]; exact h
      · rw [show s - 1 + 1 = s by omega]; exact (nP z).1
    · have j0 : j = 0 := by rcases Nat.eq_zero_or_pos j with z | z; exact z; exact absurd (htj z) (by omega)
      subst j0
      rw [Nat.add_zero, e2 (show 0 < t by omega)]
      refine (tile_top T T' hU hm hn (show s - 1 < m by omega) (show t - 1 < n by omega) (Nat.le_refl _) (Nat.le_refl _)).mpr ⟨fun z _ => by omega, fun _ z => by omega, fun z _ => by omega, fun _ _ => ?_⟩
      rw [show s - 1 + 1 = s by omega, show t - 1 + 1 = t by omega]
      exact h
/-- the next in a sorted list -/
theorem lex_next {l : List (Nat × Nat)} (pw : l.Pairwise lexLt) {k : Nat} {u v : Nat × Nat} (hu : l[k]? = some u) (hv : v ∈ l) (lt : lexLt u v) (none : ∀ x ∈ l, lexLt u x → lexLt x v → False) : l[k + 1]? = some v := by
  obtain ⟨q, hq, eq⟩ := List.getElem_of_mem hv
  have eq' : l[q]? = some v := by rw [List.getElem?_eq_getElem hq, eq]
  have kq := lex_at pw hu eq' lt
  rcases Nat.lt_or_ge (k + 1) q with h | h
  · have hk : k + 1 < l.length := by omega
    obtain ⟨hu1, hu2⟩ := List.getElem?_eq_some_iff.mp hu
    have p1 := List.pairwise_iff_getElem.mp pw k (k + 1) hu1 hk (by omega)
    have p2 := List.pairwise_iff_getElem.mp pw (k + 1) q hk hq h
    rw [hu2] at p1
    rw [eq] at p2
    exact (none _ (List.getElem_mem hk) p1 p2).elim
  · rw [show k + 1 = q by omega]; exact eq'
theorem lex_gap {l : List (Nat × Nat)} (pw : l.Pairwise lexLt) {k : Nat} {u v x : Nat × Nat} (hu : l[k]? = some u) (hv : l[k + 1]? = some v) (hx : x ∈ l) (h1 : ¬ lexLt x u) (h2 : ¬ lexLt v x) : x = u ∨ x = v := by
  obtain ⟨q, hq, eq⟩ := List.getElem_of_mem hx
  obtain ⟨a1, a2⟩ := List.getElem?_eq_some_iff.mp hu
  obtain ⟨b1, b2⟩ := List.getElem?_eq_some_iff.mp hv
  have pwi := List.pairwise_iff_getElem.mp pw
  rcases Nat.lt_trichotomy q k with c | c | c
  · have := pwi q k hq a1 c
    rw [a2, eq] at this
    exact absurd this h1
  · subst c
    exact .inl (by rw [← eq, a2])
  · rcases Nat.lt_or_ge (k + 1) q with d | d
    · have := pwi (k + 1) q b1 hq d
      rw [b2, eq] at this
      exact absurd this h2
    · have : q = k + 1 := by omega
      subst this
      exact .inr (by rw [← eq, b2])
/-- where a layer has ends and picks, its next top is the next one of the tiled cloth -/
theorem tile_mix (T : Tpz up m n zs eo po) (T' : Tpz up' (m * a) (n * b) zs' eo' po') (hU : ∀ e p, e < m * a → p < n * b → up' e p = up (e % m) (p % n)) (hm : 0 < m) (hn : 0 < n) (ha : 0 < a) (hb : 0 < b) {k k' : Nat} {u v : Nat × Nat} (hu : zs[k]? = some u) (hv : zs[k + 1]? = some v)
    (big : u.1 + 2 ≤ v.1 ∧ u.2 + 2 ≤ v.2) (hu' : zs'[k']? = some (a * u.1, b * u.2)) : zs'[k' + 1]? = some (a * v.1, b * v.2) := by
  have mu := List.mem_of_getElem? hu
  have mv := List.mem_of_getElem? hv
  have mv' : (a * v.1, b * v.2) ∈ zs' := tile_in T T' hU hm hn (s := v.1) (t := v.2) mv (i := 0) (j := 0) (Nat.zero_le _) (Nat.zero_le _) (fun z => absurd z (Nat.lt_irrefl _)) (fun z => absurd z (Nat.lt_irrefl _))
  have mu' := List.mem_of_getElem? hu'
  have la := Nat.mul_le_mul_left a (show u.1 + 2 ≤ v.1 by omega)
  rw [Nat.mul_add] at la
  refine lex_next T'.lex hu' mv' (.inl (by dsimp only; omega)) fun x hx l1 l2 => ?_
  have c1 := T'.chn _ _ mu' hx l1
  have c2 := T'.chn _ _ hx mv' l2
  dsimp only at c1 c2
  obtain ⟨n1, n2⟩ := tile_near T T' hU hm hn ha hb (x := x.1) (y := x.2) hx
  have f1 : u.1 ≤ x.1 / a := (Nat.le_div_iff_mul_le ha).mpr (by rw [Nat.mul_comm]; exact c1.1)
  have f2 : u.2 ≤ x.2 / b := (Nat.le_div_iff_mul_le hb).mpr (by rw [Nat.mul_comm]; exact c1.2)
  have f3 : x.1 / a ≤ v.1 := by have := Nat.div_le_div_right (c := a) c2.1; rwa [Nat.mul_div_cancel_left _ ha] at this
  have f4 : x.2 / b ≤ v.2 := by have := Nat.div_le_div_right (c := b) c2.2; rwa [Nat.mul_div_cancel_left _ hb] at this
  have g0 : ∀ {q w c : Nat}, 0 < c → q ≤ c * w → (q + c - 1) / c ≤ w := fun {q w c} hc h => Nat.le_of_lt_succ ((Nat.div_lt_iff_lt_mul hc).mpr (by rw [Nat.succ_mul, Nat.mul_comm]; omega))
  have g1 : ∀ {q w c : Nat}, 0 < c → c * w ≤ q → w ≤ (q + c - 1) / c := fun {q w c} hc h => (Nat.le_div_iff_mul_le hc).mpr (by rw [Nat.mul_comm]; omega)
  have g2 : (x.1 + a - 1) / a ≤ v.1 := g0 ha c2.1
  have g3 : (x.2 + b - 1) / b ≤ v.2 := g0 hb c2.2
  have g4 := g1 ha c1.1
  have g5 := g1 hb c1.2
  have g6 : ∀ {q c : Nat}, 0 < c → (q + c - 1) / c ≤ q / c + 1 := fun {q c} hc => Nat.le_of_lt_succ ((Nat.div_lt_iff_lt_mul hc).mpr (by
    have h1 := Nat.div_add_mod q c
    have h2 := Nat.mod_lt q hc
    rw [Nat.succ_mul, Nat.succ_mul, Nat.mul_comm]
    omega))
  have b1 := lex_gap T.lex hu hv n1 (by unfold lexLt; dsimp only; omega) (by unfold lexLt; dsimp only; omega)
  have b2 := lex_gap T.lex hu hv n2 (by unfold lexLt; dsimp only; omega) (by unfold lexLt; dsimp only; omega)
  have g7 := g6 (q := x.1) ha
  rcases b1 with b1 | b1
  · rcases b2 with b2 | b2
    · -- x is no more than u
      have e1 : (x.1 + a - 1) / a = u.1 := congrArg Prod.fst b2
      have e2 : (x.2 + b - 1) / b = u.2 := congrArg Prod.snd b2
      have w : ∀ {q w c : Nat}, 0 < c → (q + c - 1) / c = w → q ≤ c * w := fun {q w c} hc h => by
        have h1 := Nat.div_add_mod (q + c - 1) c
        have h2 := Nat.mod_lt (q + c - 1) hc
        rw [h] at h1
        omega
      have w1 := w ha e1
      have w2 := w hb e2
      unfold lexLt at l1
      dsimp only at l1
      omega
    · have e1 : x.1 / a = u.1 := congrArg Prod.fst b1
      have e2 : (x.1 + a - 1) / a = v.1 := congrArg Prod.fst b2
      omega
  · have e1 : x.1 / a = v.1 := congrArg Prod.fst b1
    have e2 : x.2 / b = v.2 := congrArg Prod.snd b1
    have w1 := Nat.mul_div_le x.1 a
    have w2 := Nat.mul_div_le x.2 b
    rw [e1] at w1
    rw [e2] at w2
    unfold lexLt at l2
    dsimp only at l2
    omega
end
/-! ### copies -/
def cpy (m a : Nat) (X : List Nat) : List Nat := X.flatMap fun e => (List.range a).map fun k => e + m * k
theorem mem_cpy {m a : Nat} {X : List Nat} (hm : 0 < m) (lt : ∀ e ∈ X, e < m) {x : Nat} : x ∈ cpy m a X ↔ x < m * a ∧ x % m ∈ X := by
  unfold cpy
  rw [List.mem_flatMap]
  constructor
  · rintro ⟨e, he, hx⟩
    obtain ⟨k, hk, rfl⟩ := List.mem_map.mp hx
    have := lt e he
    have hk := List.mem_range.mp hk
    have h2 : m * (k + 1) ≤ m * a := Nat.mul_le_mul_left m hk
    rw [Nat.mul_succ] at h2
    refine ⟨by omega, ?_⟩
    rw [Nat.add_mul_mod_self_left, Nat.mod_eq_of_lt this]
    exact he
  · rintro ⟨h1, h2⟩
    refine ⟨x % m, h2, List.mem_map.mpr ⟨x / m, List.mem_range.mpr ((Nat.div_lt_iff_lt_mul hm).mpr (by rw [Nat.mul_comm]; exact h1)), ?_⟩⟩
    have := Nat.div_add_mod x m
    omega
theorem cpy_nd {m a : Nat} {X : List Nat} (hm : 0 < m) (lt : ∀ e ∈ X, e < m) (nd : X.Nodup) : (cpy m a X).Nodup := by
  unfold cpy
  show List.Pairwise _ _
  rw [List.pairwise_flatMap]
  refine ⟨fun e _ => ?_, nd.imp_of_mem fun {e f} he hf hn x hx y hy h => ?_⟩
  · rw [List.pairwise_map]
    refine List.nodup_range.imp fun {i j} hn h => hn ?_
    exact Nat.eq_of_mul_eq_mul_left hm (by omega)
  · obtain ⟨i, _, rfl⟩ := List.mem_map.mp hx
    obtain ⟨j, _, rfl⟩ := List.mem_map.mp hy
    have h2 := congrArg (· % m) h
    rw [Nat.add_mul_mod_self_left, Nat.add_mul_mod_self_left, Nat.mod_eq_of_lt (lt e he), Nat.mod_eq_of_lt (lt f hf)] at h2
    exact hn h2
theorem cpy_len {m a : Nat} : ∀ X : List Nat, (cpy m a X).length = a * X.length
  | [] => by rw [List.length_nil, Nat.mul_zero]; rfl
  | e :: X => by
    have := cpy_len (m := m) (a := a) X
    unfold cpy at this ⊢
    rw [List.flatMap_cons, List.length_append, this, List.length_map, List.length_range, List.length_cons, Nat.mul_succ, Nat.add_comm]
/-- the best ones -/
theorem Ord.first {key : Nat → Nat} {N : Nat} {l S : List Nat} (o : Ord key N l) (nd : S.Nodup) (sub : ∀ x ∈ S, x < N) (best : ∀ x ∈ S, ∀ y, y < N → y ∉ S → key y < key x) : ∀ y, y ∈ l.take S.length ↔ y ∈ S := by
  have lo := o.len
  have pw := List.pairwise_iff_getElem.mp o.ord
  have hS : S.length ≤ N := by have := nodup_sub S (List.range N) nd fun x hx => List.mem_range.mpr (sub x hx); rwa [List.length_range] at this
  have s1 : ∀ y ∈ S, y ∈ l.take S.length := fun y hy => Classical.byContradiction fun hn => by
    obtain ⟨x, hx, hxn⟩ : ∃ x ∈ l.take S.length, x ∉ S := Classical.byContradiction fun hc => by
      have := nodup_sub (y :: l.take S.length) S (List.nodup_cons.mpr ⟨hn, o.nd.sublist (List.take_sublist _ _)⟩) fun z hz => by
        rcases List.mem_cons.mp hz with rfl | hz
        · exact hy
        · exact Classical.byContradiction fun q => hc ⟨z, hz, q⟩
      rw [List.length_cons, List.length_take] at this
      omega
    have t := best y hy x (o.lt (List.mem_of_mem_take hx)) hxn
    obtain ⟨i, hi, ei⟩ := List.mem_take_iff_getElem.mp hx
    obtain ⟨j, hj, ej⟩ := List.getElem_of_mem (o.perm.mem_iff.mpr (List.mem_range.mpr (sub y hy)))
    have hij : i < j := Classical.byContradiction fun q => hn (List.mem_take_iff_getElem.mpr ⟨j, by omega, ej⟩)
    have q := pw i j (by omega) hj hij
    rw [ei, ej] at q
    omega
  refine fun y => ⟨fun hy => ?_, s1 y⟩
  exact sub_of_len nd s1 (by rw [List.length_take]; omega) y hy
/-- the first ones of the tiled order, where no tie stands across -/
theorem Ord.tile {key key' : Nat → Nat} {m a b : Nat} {l l' : List Nat} (hm : 0 < m) (hb : 0 < b) (o : Ord key m l) (o' : Ord key' (m * a) l') (hk : ∀ x, x < m * a → key' x = b * key (x % m)) {s : Nat} (hs : s ≤ m) (tie : ∀ x ∈ l.take s, ∀ y ∈ l.drop s, key y < key x) :
    ∀ y, y < m * a → (y ∈ l'.take (a * s) ↔ y % m ∈ l.take s) := by
  have lt : ∀ e ∈ l.take s, e < m := fun e he => o.lt (List.mem_of_mem_take he)
  have nd : (l.take s).Nodup := o.nd.sublist (List.take_sublist _ _)
  have ln : (cpy m a (l.take s)).length = a * s := by rw [cpy_len, List.length_take, o.len, Nat.min_eq_left hs]
  have f := o'.first (S := cpy m a (l.take s)) (cpy_nd hm lt nd) (fun x hx => ((mem_cpy hm lt).mp hx).1) fun x hx y hy hn => by
    obtain ⟨h1, h2⟩ := (mem_cpy hm lt).mp hx
    have h3 : y % m ∉ l.take s := fun z => hn ((mem_cpy hm lt).mpr ⟨hy, z⟩)
    have h4 : y % m ∈ l := o.perm.mem_iff.mpr (List.mem_range.mpr (Nat.mod_lt _ hm))
    have h5 := tie _ h2 _ ((not_take o.nd h4).mp h3)
    rw [hk x h1, hk y hy]
    exact Nat.mul_lt_mul_of_pos_left h5 hb
  intro y hy
  have := f y
  rw [ln] at this
  rw [this, mem_cpy hm lt]
  exact ⟨fun h => h.2, fun h => ⟨hy, h⟩⟩
theorem Ord.tileSeg {key key' : Nat → Nat} {m a b : Nat} {l l' : List Nat} (hm : 0 < m) (hb : 0 < b) (o : Ord key m l) (o' : Ord key' (m * a) l') (hk : ∀ x, x < m * a → key' x = b * key (x % m)) {s s2 : Nat} (hs : s ≤ s2) (hs2 : s2 ≤ m)
    (tie : ∀ x ∈ l.take s, ∀ y ∈ l.drop s, key y < key x) (tie2 : ∀ x ∈ l.take s2, ∀ y ∈ l.drop s2, key y < key x) : ((l'.drop (a * s)).take (a * s2 - a * s)).Perm (cpy m a ((l.drop s).take (s2 - s))) := by
  have lt : ∀ e ∈ (l.drop s).take (s2 - s), e < m := fun e he => o.lt (List.mem_of_mem_drop (List.mem_of_mem_take he))
  have nd : ((l.drop s).take (s2 - s)).Nodup := (o.nd.sublist (List.drop_sublist _ _)).sublist (List.take_sublist _ _)
  refine (List.perm_ext_iff_of_nodup ((o'.nd.sublist (List.drop_sublist _ _)).sublist (List.take_sublist _ _)) (cpy_nd hm lt nd)).mpr fun x => ?_
  rw [mem_seg o'.nd (Nat.mul_le_mul_left a hs), mem_cpy hm lt, mem_seg o.nd hs]
  constructor
  · rintro ⟨h1, h2⟩
    have hx := o'.lt (List.mem_of_mem_take h1)
    exact ⟨hx, (o.tile hm hb o' hk hs2 tie2 x hx).mp h1, fun z => h2 ((o.tile hm hb o' hk (by omega) tie x hx).mpr z)⟩
  · rintro ⟨hx, h1, h2⟩
    exact ⟨(o.tile hm hb o' hk hs2 tie2 x hx).mpr h1, fun z => h2 ((o.tile hm hb o' hk (by omega) tie x hx).mp z)⟩
end Mine

set_option linter.all false
namespace Mine
open L2
section
variable {up up' : Nat → Nat → Bool} {m n a b : Nat} {tss tss' : List (List Int)} {zs zs' : List (Nat × Nat)} {eo po eo' po' : List Nat}
/-- the tops, ends and picks changed -/
theorem Tpz.flipT (T : Tpz up m n zs eo po) : Tpz (fun p e => !up e p) n m (zs.map fun z => (z.2, z.1)) po eo := by
  refine ⟨by rw [aS_sw (up := up) fun _ _ => rfl]; exact T.oP, by rw [bS_sw (up := up) fun _ _ => rfl]; exact T.oE, fun s t => ?_, ?_, fun x y hx hy lt => ?_⟩
  · rw [List.mem_map, aS_sw (up := up) fun _ _ => rfl, bS_sw (up := up) fun _ _ => rfl]
    have e3 := Nat.mul_comm s t
    constructor
    · rintro ⟨⟨x, y⟩, hz, e⟩
      obtain ⟨rfl, rfl⟩ := Prod.mk.inj e
      obtain ⟨h1, h2, h3⟩ := (T.mem _ _).mp hz
      have e4 := Nat.mul_comm x y
      dsimp only at h1 h2 h3 ⊢
      exact ⟨h2, h1, by omega⟩
    · rintro ⟨h1, h2, h3⟩
      exact ⟨(t, s), (T.mem t s).mpr ⟨h2, h1, by omega⟩, rfl⟩
  · rw [List.pairwise_map]
    refine T.lex.imp_of_mem fun {x y} hx hy lt => ?_
    have c := T.chn x y hx hy lt
    unfold lexLt at lt ⊢
    dsimp only
    omega
  · obtain ⟨x0, hx0, rfl⟩ := List.mem_map.mp hx
    obtain ⟨y0, hy0, rfl⟩ := List.mem_map.mp hy
    rcases lex_tot x0 y0 with h | h | h
    · have c := T.chn _ _ hx0 hy0 h
      exact ⟨c.2, c.1⟩
    · subst h; exact ⟨Nat.le_refl _, Nat.le_refl _⟩
    · have c := T.chn _ _ hy0 hx0 h
      unfold lexLt at lt h
      dsimp only at lt
      omega
theorem Tpz.noTieE (T : Tpz up m n zs eo po) {i : Nat} {c : Nat × Nat} (hc : zs[i]? = some c) (no : ∀ x y : Nat × Nat, 1 ≤ i → zs[i - 1]? = some x → zs[i + 1]? = some y → x = (c.1 - 1, c.2) → y = (c.1 + 1, c.2) → 0 < c.1 → False) :
    ∀ x ∈ eo.take c.1, ∀ y ∈ eo.drop c.1, aS up n y < aS up n x := by
  have q := T.flipT.noTie (i := i) (c := (c.2, c.1)) (by rw [List.getElem?_map, hc]; rfl) fun x y h1 h2 h3 h4 h5 h6 => by
    rw [List.getElem?_map] at h2 h3
    obtain ⟨x0, hx0, rfl⟩ := Option.map_eq_some_iff.mp h2
    obtain ⟨y0, hy0, rfl⟩ := Option.map_eq_some_iff.mp h3
    obtain ⟨e1, e2⟩ := Prod.mk.inj h4
    obtain ⟨e3, e4⟩ := Prod.mk.inj h5
    exact no x0 y0 h1 hx0 hy0 (Prod.ext e2 e1) (Prod.ext e4 e3) h6
  rw [bS_sw (up := up) fun _ _ => rfl] at q
  exact q
/-- 0: ends and picks; 1: one end; 2: one pick -/
def kd (m : Nat) (t : List Int) : Nat := if t.length ≠ 1 then 0 else if t.headD 0 < (m : Int) then 1 else 2
theorem Lay.kd0 (L : Lay up m n tss zs eo po) {i : Nat} (hi : i < tss.length) {x y : Nat × Nat} (ea : zs[i]? = some x) (eb : zs[i + 1]? = some y) :
    (kd m tss[i] = 1 ↔ y = (x.1 + 1, x.2)) ∧ (kd m tss[i] = 2 ↔ y = (x.1, x.2 + 1)) ∧ kd m tss[i] < 3 ∧ (kd m tss[i] = 0 ↔ (y.1 - x.1) + (y.2 - x.2) ≠ 1) := by
  obtain ⟨c, f⟩ := L.count hi ea eb
  obtain ⟨s1, s2, s3⟩ := L.stp i x y ea eb
  have ep : ∀ p q : Nat, y = (p, q) ↔ y.1 = p ∧ y.2 = q := fun p q => ⟨fun h => by rw [h]; exact ⟨rfl, rfl⟩, fun h => Prod.ext h.1 h.2⟩
  rw [ep, ep]
  unfold kd
  by_cases h1 : tss[i].length = 1
  · obtain ⟨z, ez⟩ := List.length_eq_one_iff.mp h1
    rw [if_neg (by omega), ez]
    rw [ez] at f
    show ((if z < (m : Int) then 1 else 2) = 1 ↔ _) ∧ ((if z < (m : Int) then 1 else 2) = 2 ↔ _) ∧ (if z < (m : Int) then 1 else 2) < 3 ∧ ((if z < (m : Int) then 1 else 2) = 0 ↔ _)
    by_cases hz : z < (m : Int)
    · rw [List.filter_cons_of_pos (by simpa using hz), List.filter_nil] at f
      have f' : 1 = y.1 - x.1 := f
      rw [if_pos hz]
      omega
    · rw [List.filter_cons_of_neg (by simpa using hz), List.filter_nil] at f
      have f' : 0 = y.1 - x.1 := f
      rw [if_neg hz]
      omega
  · rw [if_pos h1]
    omega
/-- no two lone ones of a kind on both sides -/
def Brk (m : Nat) (tss : List (List Int)) (k : Nat) : Prop := ∀ t t', 1 ≤ k → tss[k - 1]? = some t → tss[k]? = some t' → kd m t = kd m t' → kd m t = 0
theorem Brk.ties (L : Lay up m n tss zs eo po) (T : Tpz up m n zs eo po) {k : Nat} (B : Brk m tss k) {c : Nat × Nat} (hc : zs[k]? = some c) :
    (∀ x ∈ eo.take c.1, ∀ y ∈ eo.drop c.1, aS up n y < aS up n x) ∧ ∀ x ∈ po.take c.2, ∀ y ∈ po.drop c.2, bS up m y < bS up m x := by
  have ll := L.len
  have st : ∀ x y : Nat × Nat, 1 ≤ k → zs[k - 1]? = some x → zs[k + 1]? = some y → ∃ (h1 : k - 1 < tss.length) (h2 : k < tss.length), (kd m tss[k - 1] = 1 ↔ c = (x.1 + 1, x.2)) ∧ (kd m tss[k - 1] = 2 ↔ c = (x.1, x.2 + 1)) ∧ (kd m tss[k] = 1 ↔ y = (c.1 + 1, c.2)) ∧ (kd m tss[k] = 2 ↔ y = (c.1, c.2 + 1)) := fun x y h1 hx hy => by
    have hy' := (List.getElem?_eq_some_iff.mp hy).1
    have g1 : k - 1 < tss.length := by omega
    have g2 : k < tss.length := by omega
    have a1 := L.kd0 g1 hx (by rw [show k - 1 + 1 = k by omega]; exact hc)
    have a2 := L.kd0 g2 hc hy
    exact ⟨g1, g2, a1.1, a1.2.1, a2.1, a2.2.1⟩
  refine ⟨T.noTieE hc fun x y h1 hx hy ex ey h0 => ?_, T.noTie hc fun x y h1 hx hy ex ey h0 => ?_⟩
  · obtain ⟨g1, g2, a1, a2, a3, a4⟩ := st x y h1 hx hy
    have k1 := a1.mpr (by rw [ex]; exact Prod.ext (by dsimp only; omega) rfl)
    have k2 := a3.mpr ey
    have := B _ _ h1 (List.getElem?_eq_getElem g1) (List.getElem?_eq_getElem g2) (by omega)
    omega
  · obtain ⟨g1, g2, a1, a2, a3, a4⟩ := st x y h1 hx hy
    have k1 := a2.mpr (by rw [ex]; exact Prod.ext rfl (by dsimp only; omega))
    have k2 := a4.mpr ey
    have := B _ _ h1 (List.getElem?_eq_getElem g1) (List.getElem?_eq_getElem g2) (by omega)
    omega
theorem flatMap_cg {α β : Type} {f g : α → List β} : ∀ {l : List α}, (∀ x ∈ l, f x = g x) → l.flatMap f = l.flatMap g
  | [], _ => rfl
  | x :: l, h => by rw [List.flatMap_cons, List.flatMap_cons, h x List.mem_cons_self, flatMap_cg fun y hy => h y (List.mem_cons_of_mem _ hy)]
/-- copies of a strand, and of a layer, by number -/
def cpS (m n a b : Nat) (z : Int) : List Int := if z < (m : Int) then (List.range a).map (fun k : Nat => z + (m : Int) * k) else (List.range b).map fun k : Nat => (m : Int) * a + z - m + (n : Int) * k
structure Cp (m n a b : Nat) (t c : List Int) : Prop where
  p : c.Perm (t.flatMap (cpS m n a b))
  s : c.Pairwise (· ≤ ·)
theorem cpE {X : List Nat} (lt : ∀ e ∈ X, e < m) : (X.map (cQ 0)).flatMap (cpS m n a b) = (cpy m a X).map (cQ 0) := by
  unfold cpy
  rw [List.flatMap_map, List.map_flatMap]
  refine flatMap_cg fun e he => ?_
  unfold cpS
  rw [if_pos (by have := lt e he; unfold cQ; omega), List.map_map]
  refine List.map_congr_left fun k _ => ?_
  show cQ 0 e + (m : Int) * k = cQ 0 (e + m * k)
  unfold cQ
  rw [Nat.zero_add, Nat.zero_add, Int.natCast_add, Int.natCast_mul]
theorem cpP (X : List Nat) : (X.map (cQ m)).flatMap (cpS m n a b) = (cpy n b X).map (cQ (m * a)) := by
  unfold cpy
  rw [List.flatMap_map, List.map_flatMap]
  refine flatMap_cg fun e he => ?_
  unfold cpS
  rw [if_neg (by unfold cQ; omega), List.map_map]
  refine List.map_congr_left fun k _ => ?_
  show (m : Int) * a + cQ m e - m + (n : Int) * k = cQ (m * a) (e + n * k)
  unfold cQ
  simp only [Int.natCast_add, Int.natCast_mul]
  omega
/-- what is due, block by block -/
inductive DueR (m n a b : Nat) (tss : List (List Int)) : Nat → List (List Int) → Prop
  | zero : DueR m n a b tss 0 []
  | mix {k : Nat} {due : List (List Int)} {t c : List Int} : DueR m n a b tss k due → tss[k]? = some t → kd m t = 0 → Cp m n a b t c → DueR m n a b tss (k + 1) (due ++ [c])
  | run {k k2 d : Nat} {due : List (List Int)} {c : List Int} : DueR m n a b tss k due → k < k2 → k2 ≤ tss.length → 0 < d → (∀ i t, k ≤ i → i < k2 → tss[i]? = some t → kd m t = d) → (∀ t, tss[k2]? = some t → kd m t ≠ d) →
      Cp m n a b ((tss.take k2).drop k).flatten c → DueR m n a b tss k2 (due ++ c.map fun z => [z])
theorem run_flat {f : Nat → Int} {l : List Nat} : ∀ {s : Nat} (r : Nat) {L : List (List Int)}, s + r ≤ l.length → L.length = r → (∀ j (h : s + j < l.length), j < r → L[j]? = some [f l[s + j]]) → L.flatten = ((l.drop s).take r).map f ∧ L = ((l.drop s).take r).map fun e => [f e]
  | s, 0, L, _, hl, _ => by rw [List.length_eq_zero_iff.mp hl, List.take_zero]; exact ⟨rfl, rfl⟩
  | s, r + 1, [], _, hl, _ => by cases hl
  | s, r + 1, x :: L, hs, hl, h => by
    have h0 := h 0 (by omega) (by omega)
    have ih := run_flat (f := f) (l := l) (s := s + 1) r (L := L) (by omega) (by simpa using hl) fun j hj hr => by
      have := h (j + 1) (by omega) (by omega)
      rw [List.getElem?_cons_succ] at this
      rw [this]
      congr 4
      omega
    rw [List.drop_eq_getElem_cons (show s < l.length by omega), List.take_succ_cons, List.flatten_cons, ih.1, List.map_cons, List.map_cons]
    have e : x = [f l[s]] := by
      have := Option.some.inj h0
      simpa using this
    rw [e]
    exact ⟨rfl, congrArg (List.cons _) ih.2⟩
theorem Lay.oneE (L : Lay up m n tss zs eo po) {i : Nat} {x : Nat × Nat} (ea : zs[i]? = some x) (eb : zs[i + 1]? = some (x.1 + 1, x.2)) : ∃ h : x.1 < eo.length, tss[i]? = some [cQ 0 eo[x.1]] ∧ aS up n eo[x.1] + x.2 = n := by
  have lE := L.oE.len
  have ll := L.len
  have hb := L.in_ _ _ eb
  have hi : i < tss.length := by have := (List.getElem?_eq_some_iff.mp eb).1; omega
  have h : x.1 < eo.length := by dsimp only at hb; omega
  refine ⟨h, ?_, ?_⟩
  · obtain ⟨p, _⟩ := L.lay i x _ _ ea eb (List.getElem?_eq_getElem hi)
    dsimp only at p
    rw [Nat.sub_self, List.take_zero, List.map_nil, List.append_nil, show x.1 + 1 - x.1 = 1 by omega, List.drop_eq_getElem_cons h] at p
    rw [List.getElem?_eq_getElem hi, List.perm_singleton.mp p]
  · have za := L.z _ _ ea
    have zb := L.z _ _ eb
    dsimp only at zb
    rw [sm_take_succ h, Nat.succ_mul, Nat.succ_mul] at zb
    omega
theorem Lay.oneP (L : Lay up m n tss zs eo po) {i : Nat} {x : Nat × Nat} (ea : zs[i]? = some x) (eb : zs[i + 1]? = some (x.1, x.2 + 1)) : ∃ h : x.2 < po.length, tss[i]? = some [cQ m po[x.2]] ∧ bS up m po[x.2] + x.1 = m := by
  have ll := L.len
  have hi : i < tss.length := by have := (List.getElem?_eq_some_iff.mp eb).1; omega
  obtain ⟨h, e, v⟩ := L.loneVal hi ea eb rfl rfl
  exact ⟨h, by rw [List.getElem?_eq_getElem hi, e], v⟩
/-- the steps of a run of single ends -/
theorem run_zsE {zs : List (Nat × Nat)} {k : Nat} {s t : Nat} (h0 : zs[k]? = some (s, t)) : ∀ {r : Nat}, (∀ j, j < r → zs[k + j]? = some (s + j, t) → zs[k + j + 1]? = some (s + j + 1, t)) → ∀ j, j ≤ r → zs[k + j]? = some (s + j, t)
  | r, st, 0, _ => h0
  | r, st, j + 1, hj => st j (by omega) (run_zsE h0 st j (by omega))
theorem run_zsP {zs : List (Nat × Nat)} {k : Nat} {s t : Nat} (h0 : zs[k]? = some (s, t)) : ∀ {r : Nat}, (∀ j, j < r → zs[k + j]? = some (s, t + j) → zs[k + j + 1]? = some (s, t + j + 1)) → ∀ j, j ≤ r → zs[k + j]? = some (s, t + j)
  | r, st, 0, _ => h0
  | r, st, j + 1, hj => st j (by omega) (run_zsP h0 st j (by omega))
/-- numbers of one score stand by number -/
theorem Ord.sameKey {key : Nat → Nat} {N : Nat} {l : List Nat} (o : Ord key N l) {s r c : Nat} (h : ∀ x ∈ (l.drop s).take r, key x = c) : ((l.drop s).take r).Pairwise (· < ·) := by
  refine ((o.ord.sublist (List.drop_sublist _ _)).sublist (List.take_sublist _ _)).imp_of_mem fun {x y} hx hy q => ?_
  rw [h x hx, h y hy] at q
  omega
end
end Mine

set_option linter.all false
namespace Mine
open L2
section
variable {up up' : Nat → Nat → Bool} {m n a b : Nat} {tss tss' : List (List Int)} {zs zs' : List (Nat × Nat)} {eo po eo' po' : List Nat}
theorem sort_uniq {c d : List Int} (p : c.Perm d) (sc : c.Pairwise (· ≤ ·)) (sd : d.Pairwise (· ≤ ·)) (nd : d.Nodup) : c = d := by
  have f : ∀ {l : List Int}, l.Pairwise (· ≤ ·) → l.Nodup → l.Pairwise (· < ·) := fun {l} h1 h2 => (h1.and h2).imp fun {x y} ⟨h, h'⟩ => by omega
  exact perm_uniq (R := (· < ·)) (fun x y h1 h2 => by omega) p (f sc (p.nodup_iff.mpr nd)) (f sd nd)
theorem in_cell {a r j : Nat} (hj : j < a * r) : 0 < a ∧ j / a < r ∧ j % a < a ∧ j = a * (j / a) + j % a := by
  have ha : 0 < a := by rcases Nat.eq_zero_or_pos a with z | z; subst z; omega; exact z
  exact ⟨ha, (Nat.div_lt_iff_lt_mul ha).mpr (by rw [Nat.mul_comm]; exact hj), Nat.mod_lt _ ha, (Nat.div_add_mod j a).symm⟩
theorem due_all (hU : ∀ e p, e < m * a → p < n * b → up' e p = up (e % m) (p % n)) (hm : 0 < m) (hn : 0 < n) (ha : 0 < a) (hb : 0 < b)
    (L : Lay up m n tss zs eo po) (T : Tpz up m n zs eo po) (S : ∀ i x y, zs[i]? = some x → zs[i + 1]? = some y → 1 < (y.1 - x.1) + (y.2 - x.2) → 2 ≤ y.1 - x.1 ∧ 2 ≤ y.2 - x.2)
    (L' : Lay up' (m * a) (n * b) tss' zs' eo' po') (T' : Tpz up' (m * a) (n * b) zs' eo' po') {k : Nat} {due : List (List Int)} (D : DueR m n a b tss k due) :
    k ≤ tss.length ∧ Brk m tss k ∧ ∀ z, zs[k]? = some z → ∃ k', zs'[k']? = some (a * z.1, b * z.2) ∧ due = tss'.take k' := by
  have ll := L.len
  have ll' := L'.len
  have kE : ∀ x, x < m * a → aS up' (n * b) x = b * aS up n (x % m) := fun x hx => aS_tile hU hn hx
  have kP : ∀ x, x < n * b → bS up' (m * a) x = a * bS up m (x % n) := fun x hx => bS_tile hU hm hx
  induction D with
  | zero =>
    refine ⟨Nat.zero_le _, fun t t' h => absurd h (by omega), fun z hz => ⟨0, ?_, rfl⟩⟩
    rw [L.fst] at hz
    cases hz
    rw [L'.fst, Nat.mul_zero, Nat.mul_zero]
  | @mix k due t c D ht k0 C ih =>
    obtain ⟨hk, B, ih⟩ := ih
    obtain ⟨hkt, et⟩ := List.getElem?_eq_some_iff.mp ht
    have B2 : Brk m tss (k + 1) := fun t1 t2 h1 h2 h3 h4 => by
      rw [Nat.add_sub_cancel, ht] at h2
      cases h2
      exact k0
    refine ⟨hkt, B2, fun z hz => ?_⟩
    have ex := List.getElem?_eq_getElem (l := zs) (i := k) (by omega)
    obtain ⟨k', ek', rfl⟩ := ih _ ex
    generalize zs[k] = x at ex ek'
    have q := (L.kd0 hkt ex hz).2.2.2
    rw [et] at q
    have q1 := q.mp k0
    obtain ⟨s1, s2, s3⟩ := L.stp k x z ex hz
    obtain ⟨b1, b2⟩ := L.in_ _ _ hz
    have big := S k x z ex hz (by omega)
    have ez := tile_mix T T' hU hm hn ha hb ex hz (by omega) ek'
    refine ⟨k' + 1, ez, ?_⟩
    have hk' : k' < tss'.length := by have := (List.getElem?_eq_some_iff.mp ez).1; omega
    rw [List.take_succ_eq_append_getElem hk']
    congr 2
    obtain ⟨tE, tP⟩ := B.ties L T ex
    obtain ⟨uE, uP⟩ := B2.ties L T hz
    obtain ⟨p', s'⟩ := L'.lay k' _ _ _ ek' ez (List.getElem?_eq_getElem hk')
    dsimp only at p'
    obtain ⟨p, s⟩ := L.lay k x z _ ex hz ht
    have pE := L.oE.tileSeg hm hb L'.oE kE s1 b1 tE uE
    have pP := L.oP.tileSeg hn ha L'.oP kP s2 b2 tP uP
    refine sort_uniq (C.p.trans ?_) C.s s' (L'.inc hk' |>.imp fun {x y} h e => by omega)
    refine (p.flatMap_right _).trans ?_
    rw [List.flatMap_append, cpE fun e he => L.oE.lt (List.mem_of_mem_drop (List.mem_of_mem_take he)), cpP]
    exact ((pE.map _).symm.append (pP.map _).symm).trans p'.symm
  | @run k k2 d due c D h12 h2l d0 all nx C ih =>
    obtain ⟨hk, B, ih⟩ := ih
    have B2 : Brk m tss k2 := fun t1 t2 h1 h2 h3 h4 => absurd (h4.symm.trans (all (k2 - 1) t1 (by omega) (by omega) h2)) (nx t2 h3)
    refine ⟨h2l, B2, fun z hz => ?_⟩
    have ex := List.getElem?_eq_getElem (l := zs) (i := k) (by omega)
    obtain ⟨k', ek', rfl⟩ := ih _ ex
    generalize zs[k] = x at ex ek'
    obtain ⟨tE, tP⟩ := B.ties L T ex
    obtain ⟨uE, uP⟩ := B2.ties L T hz
    obtain ⟨b1, b2⟩ := L.in_ _ _ hz
    obtain ⟨r, rfl⟩ : ∃ r, k2 = k + r := ⟨k2 - k, by omega⟩
    have d12 : d = 1 ∨ d = 2 := by
      have hkt : k < tss.length := by omega
      have := (L.kd0 hkt ex (List.getElem?_eq_getElem (by omega))).2.2.1
      have := all k _ (Nat.le_refl _) h12 (List.getElem?_eq_getElem hkt)
      omega
    have stp : ∀ j, j < r → ∀ u v, zs[k + j]? = some u → zs[k + j + 1]? = some v → (d = 1 → v = (u.1 + 1, u.2)) ∧ (d = 2 → v = (u.1, u.2 + 1)) := fun j hj u v hu hv => by
      have hkt : k + j < tss.length := by omega
      have q := L.kd0 hkt hu hv
      have := all (k + j) _ (by omega) (by omega) (List.getElem?_eq_getElem hkt)
      exact ⟨fun e => q.1.mp (by omega), fun e => q.2.1.mp (by omega)⟩
    obtain ⟨x1, x2⟩ := x
    dsimp only at ek' tE tP
    have rz : ((tss.take (k + r)).drop k).length = r := by rw [List.length_drop, List.length_take]; omega
    have rg : ∀ j, j < r → ((tss.take (k + r)).drop k)[j]? = tss[k + j]? := fun j hj => by rw [List.getElem?_drop, List.getElem?_take_of_lt (by omega)]
    have lE := L.oE.len
    have lP := L.oP.len
    have lE' := L'.oE.len
    have lP' := L'.oP.len
    rcases d12 with rfl | rfl
    · -- ends
      have za := run_zsE ex (r := r) fun j hj e => by
        have hv := List.getElem?_eq_getElem (l := zs) (i := k + j + 1) (by omega)
        rw [hv, (stp j hj _ _ e hv).1 rfl]
      have ez := za r (Nat.le_refl _)
      rw [hz] at ez
      cases ez
      dsimp only at b1 b2 uE uP
      -- the tiled steps
      have inz : ∀ j, j ≤ a * r → (a * x1 + j, b * x2) ∈ zs' := fun j hj => by
        rcases Nat.lt_or_ge j (a * r) with h | h
        · obtain ⟨_, c1, c2, c3⟩ := in_cell h
          have := tile_in T T' hU hm hn (s := x1 + j / a) (t := x2) (List.mem_of_getElem? (za _ (by omega))) (i := j % a) (j := 0) (by omega) (Nat.zero_le _) (fun _ => ⟨List.mem_of_getElem? (za (j / a + 1) (by omega)), rfl⟩) (fun z => absurd z (by omega))
          rw [Nat.mul_add, Nat.add_zero, Nat.add_assoc, ← c3] at this
          exact this
        · have := tile_in T T' hU hm hn (s := x1 + r) (t := x2) (List.mem_of_getElem? (za r (Nat.le_refl _))) (i := 0) (j := 0) (Nat.zero_le _) (Nat.zero_le _) (fun z => absurd z (by omega)) (fun z => absurd z (by omega))
          rw [Nat.mul_add, Nat.add_zero, Nat.add_zero, show a * r = j by omega] at this
          exact this
      have za' := run_zsE ek' (r := a * r) fun j hj e => lex_next T'.lex e (inz (j + 1) (by omega)) (.inl (by dsimp only; omega)) fun y hy l1 l2 => by
        have c1 := T'.chn _ _ (List.mem_of_getElem? e) hy l1
        have c2 := T'.chn _ _ hy (inz (j + 1) (by omega)) l2
        unfold lexLt at l1 l2
        dsimp only at c1 c2 l1 l2
        omega
      have fin := za' (a * r) (Nat.le_refl _)
      rw [← Nat.mul_add] at fin
      refine ⟨k' + a * r, fin, ?_⟩
      have hkl : k' + a * r ≤ tss'.length := by have := (List.getElem?_eq_some_iff.mp fin).1; omega
      have m1 : a * (x1 + r) ≤ a * m := Nat.mul_le_mul_left a b1
      rw [Nat.mul_add, Nat.mul_comm a m] at m1
      -- what stands there
      obtain ⟨f1, _⟩ := run_flat (f := cQ 0) (l := eo) (s := x1) r (by omega) rz fun j hj hr => by
        rw [rg j hr]
        obtain ⟨_, e, _⟩ := L.oneE (za j (by omega)) (za (j + 1) (by omega))
        exact e
      obtain ⟨_, f2⟩ := run_flat (f := cQ 0) (l := eo') (s := a * x1) (a * r) (L := (tss'.take (k' + a * r)).drop k') (by omega) (by rw [List.length_drop, List.length_take]; omega) fun j hj hr => by
        rw [List.getElem?_drop, List.getElem?_take_of_lt (by omega)]
        obtain ⟨_, e, _⟩ := L'.oneE (za' j (by omega)) (za' (j + 1) (by omega))
        exact e
      have sp : tss'.take (k' + a * r) = tss'.take k' ++ (tss'.take (k' + a * r)).drop k' := by
        have := List.take_append_drop k' (tss'.take (k' + a * r))
        rw [List.take_take, Nat.min_eq_left (by omega)] at this
        exact this.symm
      rw [sp, f2]
      congr 1
      have pE := L.oE.tileSeg hm hb L'.oE kE (Nat.le_add_right x1 r) b1 tE uE
      rw [Nat.mul_add, Nat.add_sub_cancel_left, Nat.add_sub_cancel_left] at pE
      have sk := L'.oE.sameKey (s := a * x1) (r := a * r) (c := n * b - b * x2) fun y hy => by
        obtain ⟨j, hj, rfl⟩ := List.mem_take_iff_getElem.mp hy
        rw [List.length_drop] at hj
        rw [List.getElem_drop]
        obtain ⟨_, _, v⟩ := L'.oneE (za' j (by omega)) (za' (j + 1) (by omega))
        dsimp only at v
        omega
      have ec : c = ((eo'.drop (a * x1)).take (a * r)).map (cQ 0) := by
        refine sort_uniq (C.p.trans ?_) C.s ?_ ?_
        · rw [f1, cpE fun e he => L.oE.lt (List.mem_of_mem_drop (List.mem_of_mem_take he))]
          exact (pE.map _).symm
        · rw [List.pairwise_map]
          exact sk.imp fun {u v} h => by unfold cQ; omega
        · show List.Pairwise _ _
          rw [List.pairwise_map]
          exact sk.imp fun {u v} h e => by unfold cQ at e; omega
      rw [ec, List.map_map]
      rfl
    · -- picks
      have za := run_zsP ex (r := r) fun j hj e => by
        have hv := List.getElem?_eq_getElem (l := zs) (i := k + j + 1) (by omega)
        rw [hv, (stp j hj _ _ e hv).2 rfl]
      have ez := za r (Nat.le_refl _)
      rw [hz] at ez
      cases ez
      dsimp only at b1 b2 uE uP
      have inz : ∀ j, j ≤ b * r → (a * x1, b * x2 + j) ∈ zs' := fun j hj => by
        rcases Nat.lt_or_ge j (b * r) with h | h
        · obtain ⟨_, c1, c2, c3⟩ := in_cell h
          have := tile_in T T' hU hm hn (s := x1) (t := x2 + j / b) (List.mem_of_getElem? (za _ (by omega))) (i := 0) (j := j % b) (Nat.zero_le _) (by omega) (fun z => absurd z (by omega)) (fun _ => ⟨List.mem_of_getElem? (za (j / b + 1) (by omega)), rfl⟩)
          rw [Nat.mul_add, Nat.add_zero, Nat.add_assoc, ← c3] at this
          exact this
        · have := tile_in T T' hU hm hn (s := x1) (t := x2 + r) (List.mem_of_getElem? (za r (Nat.le_refl _))) (i := 0) (j := 0) (Nat.zero_le _) (Nat.zero_le _) (fun z => absurd z (by omega)) (fun z => absurd z (by omega))
          rw [Nat.mul_add, Nat.add_zero, Nat.add_zero, show b * r = j by omega] at this
          exact this
      have za' := run_zsP ek' (r := b * r) fun j hj e => lex_next T'.lex e (inz (j + 1) (by omega)) (.inr ⟨rfl, by dsimp only; omega⟩) fun y hy l1 l2 => by
        have c1 := T'.chn _ _ (List.mem_of_getElem? e) hy l1
        have c2 := T'.chn _ _ hy (inz (j + 1) (by omega)) l2
        unfold lexLt at l1 l2
        dsimp only at c1 c2 l1 l2
        omega
      have fin := za' (b * r) (Nat.le_refl _)
      rw [← Nat.mul_add] at fin
      refine ⟨k' + b * r, fin, ?_⟩
      have hkl : k' + b * r ≤ tss'.length := by have := (List.getElem?_eq_some_iff.mp fin).1; omega
      have m1 : b * (x2 + r) ≤ b * n := Nat.mul_le_mul_left b b2
      rw [Nat.mul_add, Nat.mul_comm b n] at m1
      obtain ⟨f1, _⟩ := run_flat (f := cQ m) (l := po) (s := x2) r (by omega) rz fun j hj hr => by
        rw [rg j hr]
        obtain ⟨_, e, _⟩ := L.oneP (za j (by omega)) (za (j + 1) (by omega))
        exact e
      obtain ⟨_, f2⟩ := run_flat (f := cQ (m * a)) (l := po') (s := b * x2) (b * r) (L := (tss'.take (k' + b * r)).drop k') (by omega) (by rw [List.length_drop, List.length_take]; omega) fun j hj hr => by
        rw [List.getElem?_drop, List.getElem?_take_of_lt (by omega)]
        obtain ⟨_, e, _⟩ := L'.oneP (za' j (by omega)) (za' (j + 1) (by omega))
        exact e
      have sp : tss'.take (k' + b * r) = tss'.take k' ++ (tss'.take (k' + b * r)).drop k' := by
        have := List.take_append_drop k' (tss'.take (k' + b * r))
        rw [List.take_take, Nat.min_eq_left (by omega)] at this
        exact this.symm
      rw [sp, f2]
      congr 1
      have pP := L.oP.tileSeg hn ha L'.oP kP (Nat.le_add_right x2 r) b2 tP uP
      rw [Nat.mul_add, Nat.add_sub_cancel_left, Nat.add_sub_cancel_left] at pP
      have sk := L'.oP.sameKey (s := b * x2) (r := b * r) (c := m * a - a * x1) fun y hy => by
        obtain ⟨j, hj, rfl⟩ := List.mem_take_iff_getElem.mp hy
        rw [List.length_drop] at hj
        rw [List.getElem_drop]
        obtain ⟨_, _, v⟩ := L'.oneP (za' j (by omega)) (za' (j + 1) (by omega))
        dsimp only at v
        omega
      have ec : c = ((po'.drop (b * x2)).take (b * r)).map (cQ (m * a)) := by
        refine sort_uniq (C.p.trans ?_) C.s ?_ ?_
        · rw [f1, cpP]
          exact (pP.map _).symm
        · rw [List.pairwise_map]
          exact sk.imp fun {u v} h => by unfold cQ; omega
        · show List.Pairwise _ _
          rw [List.pairwise_map]
          exact sk.imp fun {u v} h e => by unfold cQ at e; omega
      rw [ec, List.map_map]
      rfl
theorem due_is (hU : ∀ e p, e < m * a → p < n * b → up' e p = up (e % m) (p % n)) (hm : 0 < m) (hn : 0 < n) (ha : 0 < a) (hb : 0 < b)
    (L : Lay up m n tss zs eo po) (T : Tpz up m n zs eo po) (S : ∀ i x y, zs[i]? = some x → zs[i + 1]? = some y → 1 < (y.1 - x.1) + (y.2 - x.2) → 2 ≤ y.1 - x.1 ∧ 2 ≤ y.2 - x.2)
    (L' : Lay up' (m * a) (n * b) tss' zs' eo' po') (T' : Tpz up' (m * a) (n * b) zs' eo' po') {due : List (List Int)} (D : DueR m n a b tss tss.length due) : due = tss' := by
  have ll := L.len
  have ll' := L'.len
  obtain ⟨_, _, q⟩ := due_all hU hm hn ha hb L T S L' T' D
  obtain ⟨k', e, rfl⟩ := q (m, n) (by rw [show tss.length = zs.length - 1 by omega]; exact L.lst)
  have e2 := L'.lst
  rw [Nat.mul_comm m a, Nat.mul_comm n b] at e2
  have : k' = zs'.length - 1 := by
    obtain ⟨h1, g1⟩ := List.getElem?_eq_some_iff.mp e
    obtain ⟨h2, g2⟩ := List.getElem?_eq_some_iff.mp e2
    have pw := List.pairwise_iff_getElem.mp T'.lex
    rcases Nat.lt_or_ge k' (zs'.length - 1) with c | c
    · have := pw k' _ h1 h2 c
      rw [g1, g2] at this
      exact (lex_irr this).elim
    · omega
  exact List.take_of_length_le (by omega)
end
end Mine

set_option Elab.async false
set_option linter.all false
set_option maxRecDepth 100000
set_option maxHeartbeats 4000000
namespace Mine
open PySem L2
def top (i : Nat) : Stmt := PySem.Challenge.pw_heddle_k71_whole_layers_repeated.main.body.getD i (.Pass ⟨0, 0, 0, 0⟩)
abbrev s_measured : Stmt := top 6
theorem sc_measured : FnScope ["cloth"] ["cloth"] (defScope s_measured) := ⟨rfl, rfl, rfl, by decide +kernel, rfl, by decide +kernel, by decide +kernel⟩
abbrev s_measured_texts : Stmt := top 7
theorem sc_measured_texts : FnScope ["texts", "least", "signs", "ends", "text"] ["texts", "least", "signs"] (defScope s_measured_texts) := ⟨rfl, rfl, rfl, by decide +kernel, rfl, by decide +kernel, by decide +kernel⟩
abbrev s_check_pick : Stmt := top 8
theorem sc_check_pick : FnScope ["text", "ends", "signs", "sign"] ["text", "ends", "signs"] (defScope s_check_pick) := ⟨rfl, rfl, rfl, by decide +kernel, rfl, by decide +kernel, by decide +kernel⟩
abbrev s_end_signs : Stmt := top 9
theorem sc_end_signs : FnScope ["cloth", "end"] ["cloth", "end"] (defScope s_end_signs) := ⟨rfl, rfl, rfl, by decide +kernel, rfl, by decide +kernel, by decide +kernel⟩
abbrev s_scores_of : Stmt := top 11
theorem sc_scores_of : FnScope ["cloth", "size", "of_ends"] ["cloth"] (defScope s_scores_of) := ⟨rfl, rfl, rfl, by decide +kernel, rfl, by decide +kernel, by decide +kernel⟩
abbrev s_tops_of : Stmt := top 13
theorem sc_tops_of : FnScope ["cloth", "size", "scores", "end_scores", "pick_scores", "tops", "ends", "picks", "crossings"] ["cloth"] (defScope s_tops_of) := ⟨rfl, rfl, rfl, by decide +kernel, rfl, by decide +kernel, by decide +kernel⟩
abbrev s_layers_of : Stmt := top 14
theorem sc_layers_of : FnScope ["cloth", "size", "scores", "ends", "picks", "tops", "layers", "upper", "lower"] ["cloth"] (defScope s_layers_of) := ⟨rfl, rfl, rfl, by decide +kernel, rfl, by decide +kernel, by decide +kernel⟩
abbrev s_tiled : Stmt := top 16
theorem sc_tiled : FnScope ["cloth", "across", "along", "size"] ["cloth", "across", "along"] (defScope s_tiled) := ⟨rfl, rfl, rfl, by decide +kernel, rfl, by decide +kernel, by decide +kernel⟩
abbrev s_law_at : Stmt := top 18
theorem sc_law_at : FnScope ["script", "k"] ["script", "k"] (defScope s_law_at) := ⟨rfl, rfl, rfl, by decide +kernel, rfl, by decide +kernel, by decide +kernel⟩
abbrev s_law_numbers : Stmt := top 19
theorem sc_law_numbers : FnScope ["script", "picks", "factor", "numbers", "k", "at", "number"] ["script", "picks", "factor"] (defScope s_law_numbers) := ⟨rfl, rfl, rfl, by decide +kernel, rfl, by decide +kernel, by decide +kernel⟩
abbrev s_law_levels : Stmt := top 20
theorem sc_law_levels : FnScope ["script", "strands", "many", "number", "levels", "k"] ["script", "strands", "many"] (defScope s_law_levels) := ⟨rfl, rfl, rfl, by decide +kernel, rfl, by decide +kernel, by decide +kernel⟩
abbrev s_law_text : Stmt := top 21
theorem sc_law_text : FnScope ["number", "pick", "ends", "levels", "signs", "k", "up"] ["number", "pick", "ends", "levels"] (defScope s_law_text) := ⟨rfl, rfl, rfl, by decide +kernel, rfl, by decide +kernel, by decide +kernel⟩
abbrev s_law_cloth : Stmt := top 22
theorem sc_law_cloth : FnScope ["script", "ends", "picks", "factor", "numbers", "levels"] ["script"] (defScope s_law_cloth) := ⟨rfl, rfl, rfl, by decide +kernel, rfl, by decide +kernel, by decide +kernel⟩
abbrev s_law_whole : Stmt := top 23
theorem sc_law_whole : FnScope ["found"] ["found"] (defScope s_law_whole) := ⟨rfl, rfl, rfl, by decide +kernel, rfl, by decide +kernel, by decide +kernel⟩
abbrev s_law_copies : Stmt := top 24
theorem sc_law_copies : FnScope ["layer", "sizes", "across", "along", "ends", "wide", "made", "strand"] ["layer", "sizes", "across", "along"] (defScope s_law_copies) := ⟨rfl, rfl, rfl, by decide +kernel, rfl, by decide +kernel, by decide +kernel⟩
abbrev s_law_lone : Stmt := top 25
theorem sc_law_lone : FnScope ["layer", "ends"] ["layer", "ends"] (defScope s_law_lone) := ⟨rfl, rfl, rfl, by decide +kernel, rfl, by decide +kernel, by decide +kernel⟩
abbrev s_law_due : Stmt := top 26
theorem sc_law_due : FnScope ["layers", "sizes", "across", "along", "due", "k", "kind", "together", "copies"] ["layers", "sizes", "across", "along"] (defScope s_law_due) := ⟨rfl, rfl, rfl, by decide +kernel, rfl, by decide +kernel, by decide +kernel⟩
abbrev s_law_kinds : Stmt := top 27
theorem sc_law_kinds : FnScope ["found"] ["found"] (defScope s_law_kinds) := ⟨rfl, rfl, rfl, by decide +kernel, rfl, by decide +kernel, by decide +kernel⟩
abbrev s_law : Stmt := top 28
theorem sc_law : FnScope ["script", "rows", "sizes", "across", "along", "handed", "layers", "found"] ["script"] (defScope s_law) := ⟨rfl, rfl, rfl, by decide +kernel, rfl, by decide +kernel, by decide +kernel⟩
abbrev s_WeaveError_called : Stmt := (clsBody (top 1)).getD 0 (.Pass ⟨0, 0, 0, 0⟩)
abbrev s_TooLarge_called : Stmt := (clsBody (top 2)).getD 0 (.Pass ⟨0, 0, 0, 0⟩)
abbrev s_NoCloth_called : Stmt := (clsBody (top 3)).getD 0 (.Pass ⟨0, 0, 0, 0⟩)
set_option genInjectivity false in
structure Adr where
  f_measured : Addr
  d_measured : FuncData
  f_measured_texts : Addr
  d_measured_texts : FuncData
  f_check_pick : Addr
  d_check_pick : FuncData
  f_end_signs : Addr
  d_end_signs : FuncData
  f_scores_of : Addr
  d_scores_of : FuncData
  f_tops_of : Addr
  d_tops_of : FuncData
  f_layers_of : Addr
  d_layers_of : FuncData
  f_tiled : Addr
  d_tiled : FuncData
  f_law_at : Addr
  d_law_at : FuncData
  f_law_numbers : Addr
  d_law_numbers : FuncData
  f_law_levels : Addr
  d_law_levels : FuncData
  f_law_text : Addr
  d_law_text : FuncData
  f_law_cloth : Addr
  d_law_cloth : FuncData
  f_law_whole : Addr
  d_law_whole : FuncData
  f_law_copies : Addr
  d_law_copies : FuncData
  f_law_lone : Addr
  d_law_lone : FuncData
  f_law_due : Addr
  d_law_due : FuncData
  f_law_kinds : Addr
  d_law_kinds : FuncData
  f_law : Addr
  d_law : FuncData
  e_WeaveError : Addr
  f_WeaveError_called : Addr
  d_WeaveError_called : FuncData
  e_TooLarge : Addr
  f_TooLarge_called : Addr
  d_TooLarge_called : FuncData
  e_NoCloth : Addr
  f_NoCloth_called : Addr
  d_NoCloth_called : FuncData
structure Txt (K : PySem.W.Frag) (mg : Str → Option Value) (t : Adr) : Prop where
  measured : Df K mg "measured" s_measured ["cloth"] t.f_measured t.d_measured
  measured_texts : Df K mg "measured_texts" s_measured_texts ["texts", "least", "signs"] t.f_measured_texts t.d_measured_texts
  check_pick : Df K mg "check_pick" s_check_pick ["text", "ends", "signs"] t.f_check_pick t.d_check_pick
  end_signs : Df K mg "end_signs" s_end_signs ["cloth", "end"] t.f_end_signs t.d_end_signs
  scores_of : Df K mg "scores_of" s_scores_of ["cloth"] t.f_scores_of t.d_scores_of
  tops_of : Df K mg "tops_of" s_tops_of ["cloth"] t.f_tops_of t.d_tops_of
  layers_of : Df K mg "layers_of" s_layers_of ["cloth"] t.f_layers_of t.d_layers_of
  tiled : Df K mg "tiled" s_tiled ["cloth", "across", "along"] t.f_tiled t.d_tiled
  law_at : Df K mg "_law_at" s_law_at ["script", "k"] t.f_law_at t.d_law_at
  law_numbers : Df K mg "_law_numbers" s_law_numbers ["script", "picks", "factor"] t.f_law_numbers t.d_law_numbers
  law_levels : Df K mg "_law_levels" s_law_levels ["script", "strands", "many"] t.f_law_levels t.d_law_levels
  law_text : Df K mg "_law_text" s_law_text ["number", "pick", "ends", "levels"] t.f_law_text t.d_law_text
  law_cloth : Df K mg "_law_cloth" s_law_cloth ["script"] t.f_law_cloth t.d_law_cloth
  law_whole : Df K mg "_law_whole" s_law_whole ["found"] t.f_law_whole t.d_law_whole
  law_copies : Df K mg "_law_copies" s_law_copies ["layer", "sizes", "across", "along"] t.f_law_copies t.d_law_copies
  law_lone : Df K mg "_law_lone" s_law_lone ["layer", "ends"] t.f_law_lone t.d_law_lone
  law_due : Df K mg "_law_due" s_law_due ["layers", "sizes", "across", "along"] t.f_law_due t.d_law_due
  law_kinds : Df K mg "_law_kinds" s_law_kinds ["found"] t.f_law_kinds t.d_law_kinds
  law : Df K mg "law" s_law ["script"] t.f_law t.d_law
  b_all : mg "all" = none
  b_bool : mg "bool" = none
  b_int : mg "int" = none
  b_isinstance : mg "isinstance" = none
  b_len : mg "len" = none
  b_list : mg "list" = none
  b_range : mg "range" = none
  b_sorted : mg "sorted" = none
  b_sum : mg "sum" = none
  b_zip : mg "zip" = none
  c_MOST_STRANDS : ∃ tk, mg "MOST_STRANDS" = some (.int 40 tk)
  k_WeaveError : mg "WeaveError" = some (.ref t.e_WeaveError)
  x_WeaveError : Exn K t.e_WeaveError
  m_WeaveError : Mf K "called" "WeaveError.called" s_WeaveError_called ["self"] t.e_WeaveError t.f_WeaveError_called t.d_WeaveError_called
  r_WeaveError_WeaveError : PySem.W.mroIn K t.e_WeaveError (.ref t.e_WeaveError) = some true
  r_WeaveError_TooLarge : PySem.W.mroIn K t.e_WeaveError (.ref t.e_TooLarge) = some false
  r_WeaveError_NoCloth : PySem.W.mroIn K t.e_WeaveError (.ref t.e_NoCloth) = some false
  k_TooLarge : mg "TooLarge" = some (.ref t.e_TooLarge)
  x_TooLarge : Exn K t.e_TooLarge
  m_TooLarge : Mf K "called" "TooLarge.called" s_TooLarge_called ["self"] t.e_TooLarge t.f_TooLarge_called t.d_TooLarge_called
  r_TooLarge_WeaveError : PySem.W.mroIn K t.e_TooLarge (.ref t.e_WeaveError) = some true
  r_TooLarge_TooLarge : PySem.W.mroIn K t.e_TooLarge (.ref t.e_TooLarge) = some true
  r_TooLarge_NoCloth : PySem.W.mroIn K t.e_TooLarge (.ref t.e_NoCloth) = some false
  k_NoCloth : mg "NoCloth" = some (.ref t.e_NoCloth)
  x_NoCloth : Exn K t.e_NoCloth
  m_NoCloth : Mf K "called" "NoCloth.called" s_NoCloth_called ["self"] t.e_NoCloth t.f_NoCloth_called t.d_NoCloth_called
  r_NoCloth_WeaveError : PySem.W.mroIn K t.e_NoCloth (.ref t.e_WeaveError) = some true
  r_NoCloth_TooLarge : PySem.W.mroIn K t.e_NoCloth (.ref t.e_TooLarge) = some false
  r_NoCloth_NoCloth : PySem.W.mroIn K t.e_NoCloth (.ref t.e_NoCloth) = some true
theorem bl1 {fd : FuncData} {ps : List Str} (h : ∀ a0 : Value, bindArgs fd ⟨[a0], []⟩ = pure (ps.zip [a0])) (us : List Value) (hl : us.length = 1) : bindArgs fd ⟨us, []⟩ = pure (ps.zip us) := by
  rcases us with _ | ⟨a0, us⟩
  · cases hl
  rcases us with _ | ⟨b, us⟩
  · exact h a0
  · cases hl
theorem bl2 {fd : FuncData} {ps : List Str} (h : ∀ a0 a1 : Value, bindArgs fd ⟨[a0, a1], []⟩ = pure (ps.zip [a0, a1])) (us : List Value) (hl : us.length = 2) : bindArgs fd ⟨us, []⟩ = pure (ps.zip us) := by
  rcases us with _ | ⟨a0, us⟩
  · cases hl
  rcases us with _ | ⟨a1, us⟩
  · cases hl
  rcases us with _ | ⟨b, us⟩
  · exact h a0 a1
  · cases hl
theorem bl3 {fd : FuncData} {ps : List Str} (h : ∀ a0 a1 a2 : Value, bindArgs fd ⟨[a0, a1, a2], []⟩ = pure (ps.zip [a0, a1, a2])) (us : List Value) (hl : us.length = 3) : bindArgs fd ⟨us, []⟩ = pure (ps.zip us) := by
  rcases us with _ | ⟨a0, us⟩
  · cases hl
  rcases us with _ | ⟨a1, us⟩
  · cases hl
  rcases us with _ | ⟨a2, us⟩
  · cases hl
  rcases us with _ | ⟨b, us⟩
  · exact h a0 a1 a2
  · cases hl
theorem bl4 {fd : FuncData} {ps : List Str} (h : ∀ a0 a1 a2 a3 : Value, bindArgs fd ⟨[a0, a1, a2, a3], []⟩ = pure (ps.zip [a0, a1, a2, a3])) (us : List Value) (hl : us.length = 4) : bindArgs fd ⟨us, []⟩ = pure (ps.zip us) := by
  rcases us with _ | ⟨a0, us⟩
  · cases hl
  rcases us with _ | ⟨a1, us⟩
  · cases hl
  rcases us with _ | ⟨a2, us⟩
  · cases hl
  rcases us with _ | ⟨a3, us⟩
  · cases hl
  rcases us with _ | ⟨b, us⟩
  · exact h a0 a1 a2 a3
  · cases hl
theorem txt_mk {K : PySem.W.Frag} {h : Heap} {mg : Str → Option Value} {f_measured : Addr} {od_measured an_measured : Option Addr} {sl_measured : Array (Option Value)} {oc_measured kV_measured dc_measured pm_measured cd_measured ct_measured : Value}
    {f_measured_texts : Addr} {od_measured_texts an_measured_texts : Option Addr} {sl_measured_texts : Array (Option Value)} {oc_measured_texts kV_measured_texts dc_measured_texts pm_measured_texts cd_measured_texts ct_measured_texts : Value}
    {f_check_pick : Addr} {od_check_pick an_check_pick : Option Addr} {sl_check_pick : Array (Option Value)} {oc_check_pick kV_check_pick dc_check_pick pm_check_pick cd_check_pick ct_check_pick : Value}
    {f_end_signs : Addr} {od_end_signs an_end_signs : Option Addr} {sl_end_signs : Array (Option Value)} {oc_end_signs kV_end_signs dc_end_signs pm_end_signs cd_end_signs ct_end_signs : Value}
    {f_scores_of : Addr} {od_scores_of an_scores_of : Option Addr} {sl_scores_of : Array (Option Value)} {oc_scores_of kV_scores_of dc_scores_of pm_scores_of cd_scores_of ct_scores_of : Value}
    {f_tops_of : Addr} {od_tops_of an_tops_of : Option Addr} {sl_tops_of : Array (Option Value)} {oc_tops_of kV_tops_of dc_tops_of pm_tops_of cd_tops_of ct_tops_of : Value}
    {f_layers_of : Addr} {od_layers_of an_layers_of : Option Addr} {sl_layers_of : Array (Option Value)} {oc_layers_of kV_layers_of dc_layers_of pm_layers_of cd_layers_of ct_layers_of : Value}
    {f_tiled : Addr} {od_tiled an_tiled : Option Addr} {sl_tiled : Array (Option Value)} {oc_tiled kV_tiled dc_tiled pm_tiled cd_tiled ct_tiled : Value}
    {f_law_at : Addr} {od_law_at an_law_at : Option Addr} {sl_law_at : Array (Option Value)} {oc_law_at kV_law_at dc_law_at pm_law_at cd_law_at ct_law_at : Value}
    {f_law_numbers : Addr} {od_law_numbers an_law_numbers : Option Addr} {sl_law_numbers : Array (Option Value)} {oc_law_numbers kV_law_numbers dc_law_numbers pm_law_numbers cd_law_numbers ct_law_numbers : Value}
    {f_law_levels : Addr} {od_law_levels an_law_levels : Option Addr} {sl_law_levels : Array (Option Value)} {oc_law_levels kV_law_levels dc_law_levels pm_law_levels cd_law_levels ct_law_levels : Value}
    {f_law_text : Addr} {od_law_text an_law_text : Option Addr} {sl_law_text : Array (Option Value)} {oc_law_text kV_law_text dc_law_text pm_law_text cd_law_text ct_law_text : Value}
    {f_law_cloth : Addr} {od_law_cloth an_law_cloth : Option Addr} {sl_law_cloth : Array (Option Value)} {oc_law_cloth kV_law_cloth dc_law_cloth pm_law_cloth cd_law_cloth ct_law_cloth : Value}
    {f_law_whole : Addr} {od_law_whole an_law_whole : Option Addr} {sl_law_whole : Array (Option Value)} {oc_law_whole kV_law_whole dc_law_whole pm_law_whole cd_law_whole ct_law_whole : Value}
    {f_law_copies : Addr} {od_law_copies an_law_copies : Option Addr} {sl_law_copies : Array (Option Value)} {oc_law_copies kV_law_copies dc_law_copies pm_law_copies cd_law_copies ct_law_copies : Value}
    {f_law_lone : Addr} {od_law_lone an_law_lone : Option Addr} {sl_law_lone : Array (Option Value)} {oc_law_lone kV_law_lone dc_law_lone pm_law_lone cd_law_lone ct_law_lone : Value}
    {f_law_due : Addr} {od_law_due an_law_due : Option Addr} {sl_law_due : Array (Option Value)} {oc_law_due kV_law_due dc_law_due pm_law_due cd_law_due ct_law_due : Value}
    {f_law_kinds : Addr} {od_law_kinds an_law_kinds : Option Addr} {sl_law_kinds : Array (Option Value)} {oc_law_kinds kV_law_kinds dc_law_kinds pm_law_kinds cd_law_kinds ct_law_kinds : Value}
    {f_law : Addr} {od_law an_law : Option Addr} {sl_law : Array (Option Value)} {oc_law kV_law dc_law pm_law cd_law ct_law : Value}
    {q_MOST_STRANDS : Tok}
    {e_WeaveError : Addr}
    {e_TooLarge : Addr}
    {e_NoCloth : Addr}
    {f_WeaveError_called : Addr} {od_WeaveError_called an_WeaveError_called : Option Addr} {sl_WeaveError_called : Array (Option Value)} {oc_WeaveError_called kV_WeaveError_called dc_WeaveError_called pm_WeaveError_called cd_WeaveError_called ct_WeaveError_called : Value}
    {f_TooLarge_called : Addr} {od_TooLarge_called an_TooLarge_called : Option Addr} {sl_TooLarge_called : Array (Option Value)} {oc_TooLarge_called kV_TooLarge_called dc_TooLarge_called pm_TooLarge_called cd_TooLarge_called ct_TooLarge_called : Value}
    {f_NoCloth_called : Addr} {od_NoCloth_called an_NoCloth_called : Option Addr} {sl_NoCloth_called : Array (Option Value)} {oc_NoCloth_called kV_NoCloth_called dc_NoCloth_called pm_NoCloth_called cd_NoCloth_called ct_NoCloth_called : Value}
    (X : K.In h) (G : h.Ns mainGlobals mg)
    (a_measured : PySem.W.nsIn K mainGlobals "measured" = some (some (.ref f_measured)))
    (l_measured : K.lookup f_measured = some ⟨oc_measured, od_measured, .func (PySem.W.fnOf "measured" "measured" (defArgs s_measured) (defBody s_measured) (defScope s_measured) .none kV_measured dc_measured pm_measured an_measured cd_measured ct_measured), sl_measured⟩)
    (c_measured : PySem.W.codeIn K cd_measured "measured" = true)
    (k_measured : PySem.W.keepIn K (.ref f_measured) = true)
    (a_measured_texts : PySem.W.nsIn K mainGlobals "measured_texts" = some (some (.ref f_measured_texts)))
    (l_measured_texts : K.lookup f_measured_texts = some ⟨oc_measured_texts, od_measured_texts, .func (PySem.W.fnOf "measured_texts" "measured_texts" (defArgs s_measured_texts) (defBody s_measured_texts) (defScope s_measured_texts) .none kV_measured_texts dc_measured_texts pm_measured_texts an_measured_texts cd_measured_texts ct_measured_texts), sl_measured_texts⟩)
    (c_measured_texts : PySem.W.codeIn K cd_measured_texts "measured_texts" = true)
    (k_measured_texts : PySem.W.keepIn K (.ref f_measured_texts) = true)
    (a_check_pick : PySem.W.nsIn K mainGlobals "check_pick" = some (some (.ref f_check_pick)))
    (l_check_pick : K.lookup f_check_pick = some ⟨oc_check_pick, od_check_pick, .func (PySem.W.fnOf "check_pick" "check_pick" (defArgs s_check_pick) (defBody s_check_pick) (defScope s_check_pick) .none kV_check_pick dc_check_pick pm_check_pick an_check_pick cd_check_pick ct_check_pick), sl_check_pick⟩)
    (c_check_pick : PySem.W.codeIn K cd_check_pick "check_pick" = true)
    (k_check_pick : PySem.W.keepIn K (.ref f_check_pick) = true)
    (a_end_signs : PySem.W.nsIn K mainGlobals "end_signs" = some (some (.ref f_end_signs)))
    (l_end_signs : K.lookup f_end_signs = some ⟨oc_end_signs, od_end_signs, .func (PySem.W.fnOf "end_signs" "end_signs" (defArgs s_end_signs) (defBody s_end_signs) (defScope s_end_signs) .none kV_end_signs dc_end_signs pm_end_signs an_end_signs cd_end_signs ct_end_signs), sl_end_signs⟩)
    (c_end_signs : PySem.W.codeIn K cd_end_signs "end_signs" = true)
    (k_end_signs : PySem.W.keepIn K (.ref f_end_signs) = true)
    (a_scores_of : PySem.W.nsIn K mainGlobals "scores_of" = some (some (.ref f_scores_of)))
    (l_scores_of : K.lookup f_scores_of = some ⟨oc_scores_of, od_scores_of, .func (PySem.W.fnOf "scores_of" "scores_of" (defArgs s_scores_of) (defBody s_scores_of) (defScope s_scores_of) .none kV_scores_of dc_scores_of pm_scores_of an_scores_of cd_scores_of ct_scores_of), sl_scores_of⟩)
    (c_scores_of : PySem.W.codeIn K cd_scores_of "scores_of" = true)
    (k_scores_of : PySem.W.keepIn K (.ref f_scores_of) = true)
    (a_tops_of : PySem.W.nsIn K mainGlobals "tops_of" = some (some (.ref f_tops_of)))
    (l_tops_of : K.lookup f_tops_of = some ⟨oc_tops_of, od_tops_of, .func (PySem.W.fnOf "tops_of" "tops_of" (defArgs s_tops_of) (defBody s_tops_of) (defScope s_tops_of) .none kV_tops_of dc_tops_of pm_tops_of an_tops_of cd_tops_of ct_tops_of), sl_tops_of⟩)
    (c_tops_of : PySem.W.codeIn K cd_tops_of "tops_of" = true)
    (k_tops_of : PySem.W.keepIn K (.ref f_tops_of) = true)
    (a_layers_of : PySem.W.nsIn K mainGlobals "layers_of" = some (some (.ref f_layers_of)))
    (l_layers_of : K.lookup f_layers_of = some ⟨oc_layers_of, od_layers_of, .func (PySem.W.fnOf "layers_of" "layers_of" (defArgs s_layers_of) (defBody s_layers_of) (defScope s_layers_of) .none kV_layers_of dc_layers_of pm_layers_of an_layers_of cd_layers_of ct_layers_of), sl_layers_of⟩)
    (c_layers_of : PySem.W.codeIn K cd_layers_of "layers_of" = true)
    (k_layers_of : PySem.W.keepIn K (.ref f_layers_of) = true)
    (a_tiled : PySem.W.nsIn K mainGlobals "tiled" = some (some (.ref f_tiled)))
    (l_tiled : K.lookup f_tiled = some ⟨oc_tiled, od_tiled, .func (PySem.W.fnOf "tiled" "tiled" (defArgs s_tiled) (defBody s_tiled) (defScope s_tiled) .none kV_tiled dc_tiled pm_tiled an_tiled cd_tiled ct_tiled), sl_tiled⟩)
    (c_tiled : PySem.W.codeIn K cd_tiled "tiled" = true)
    (k_tiled : PySem.W.keepIn K (.ref f_tiled) = true)
    (a_law_at : PySem.W.nsIn K mainGlobals "_law_at" = some (some (.ref f_law_at)))
    (l_law_at : K.lookup f_law_at = some ⟨oc_law_at, od_law_at, .func (PySem.W.fnOf "_law_at" "_law_at" (defArgs s_law_at) (defBody s_law_at) (defScope s_law_at) .none kV_law_at dc_law_at pm_law_at an_law_at cd_law_at ct_law_at), sl_law_at⟩)
    (c_law_at : PySem.W.codeIn K cd_law_at "_law_at" = true)
    (k_law_at : PySem.W.keepIn K (.ref f_law_at) = true)
    (a_law_numbers : PySem.W.nsIn K mainGlobals "_law_numbers" = some (some (.ref f_law_numbers)))
    (l_law_numbers : K.lookup f_law_numbers = some ⟨oc_law_numbers, od_law_numbers, .func (PySem.W.fnOf "_law_numbers" "_law_numbers" (defArgs s_law_numbers) (defBody s_law_numbers) (defScope s_law_numbers) .none kV_law_numbers dc_law_numbers pm_law_numbers an_law_numbers cd_law_numbers ct_law_numbers), sl_law_numbers⟩)
    (c_law_numbers : PySem.W.codeIn K cd_law_numbers "_law_numbers" = true)
    (k_law_numbers : PySem.W.keepIn K (.ref f_law_numbers) = true)
    (a_law_levels : PySem.W.nsIn K mainGlobals "_law_levels" = some (some (.ref f_law_levels)))
    (l_law_levels : K.lookup f_law_levels = some ⟨oc_law_levels, od_law_levels, .func (PySem.W.fnOf "_law_levels" "_law_levels" (defArgs s_law_levels) (defBody s_law_levels) (defScope s_law_levels) .none kV_law_levels dc_law_levels pm_law_levels an_law_levels cd_law_levels ct_law_levels), sl_law_levels⟩)
    (c_law_levels : PySem.W.codeIn K cd_law_levels "_law_levels" = true)
    (k_law_levels : PySem.W.keepIn K (.ref f_law_levels) = true)
    (a_law_text : PySem.W.nsIn K mainGlobals "_law_text" = some (some (.ref f_law_text)))
    (l_law_text : K.lookup f_law_text = some ⟨oc_law_text, od_law_text, .func (PySem.W.fnOf "_law_text" "_law_text" (defArgs s_law_text) (defBody s_law_text) (defScope s_law_text) .none kV_law_text dc_law_text pm_law_text an_law_text cd_law_text ct_law_text), sl_law_text⟩)
    (c_law_text : PySem.W.codeIn K cd_law_text "_law_text" = true)
    (k_law_text : PySem.W.keepIn K (.ref f_law_text) = true)
    (a_law_cloth : PySem.W.nsIn K mainGlobals "_law_cloth" = some (some (.ref f_law_cloth)))
    (l_law_cloth : K.lookup f_law_cloth = some ⟨oc_law_cloth, od_law_cloth, .func (PySem.W.fnOf "_law_cloth" "_law_cloth" (defArgs s_law_cloth) (defBody s_law_cloth) (defScope s_law_cloth) .none kV_law_cloth dc_law_cloth pm_law_cloth an_law_cloth cd_law_cloth ct_law_cloth), sl_law_cloth⟩)
    (c_law_cloth : PySem.W.codeIn K cd_law_cloth "_law_cloth" = true)
    (k_law_cloth : PySem.W.keepIn K (.ref f_law_cloth) = true)
    (a_law_whole : PySem.W.nsIn K mainGlobals "_law_whole" = some (some (.ref f_law_whole)))
    (l_law_whole : K.lookup f_law_whole = some ⟨oc_law_whole, od_law_whole, .func (PySem.W.fnOf "_law_whole" "_law_whole" (defArgs s_law_whole) (defBody s_law_whole) (defScope s_law_whole) .none kV_law_whole dc_law_whole pm_law_whole an_law_whole cd_law_whole ct_law_whole), sl_law_whole⟩)
    (c_law_whole : PySem.W.codeIn K cd_law_whole "_law_whole" = true)
    (k_law_whole : PySem.W.keepIn K (.ref f_law_whole) = true)
    (a_law_copies : PySem.W.nsIn K mainGlobals "_law_copies" = some (some (.ref f_law_copies)))
    (l_law_copies : K.lookup f_law_copies = some ⟨oc_law_copies, od_law_copies, .func (PySem.W.fnOf "_law_copies" "_law_copies" (defArgs s_law_copies) (defBody s_law_copies) (defScope s_law_copies) .none kV_law_copies dc_law_copies pm_law_copies an_law_copies cd_law_copies ct_law_copies), sl_law_copies⟩)
    (c_law_copies : PySem.W.codeIn K cd_law_copies "_law_copies" = true)
    (k_law_copies : PySem.W.keepIn K (.ref f_law_copies) = true)
    (a_law_lone : PySem.W.nsIn K mainGlobals "_law_lone" = some (some (.ref f_law_lone)))
    (l_law_lone : K.lookup f_law_lone = some ⟨oc_law_lone, od_law_lone, .func (PySem.W.fnOf "_law_lone" "_law_lone" (defArgs s_law_lone) (defBody s_law_lone) (defScope s_law_lone) .none kV_law_lone dc_law_lone pm_law_lone an_law_lone cd_law_lone ct_law_lone), sl_law_lone⟩)
    (c_law_lone : PySem.W.codeIn K cd_law_lone "_law_lone" = true)
    (k_law_lone : PySem.W.keepIn K (.ref f_law_lone) = true)
    (a_law_due : PySem.W.nsIn K mainGlobals "_law_due" = some (some (.ref f_law_due)))
    (l_law_due : K.lookup f_law_due = some ⟨oc_law_due, od_law_due, .func (PySem.W.fnOf "_law_due" "_law_due" (defArgs s_law_due) (defBody s_law_due) (defScope s_law_due) .none kV_law_due dc_law_due pm_law_due an_law_due cd_law_due ct_law_due), sl_law_due⟩)
    (c_law_due : PySem.W.codeIn K cd_law_due "_law_due" = true)
    (k_law_due : PySem.W.keepIn K (.ref f_law_due) = true)
    (a_law_kinds : PySem.W.nsIn K mainGlobals "_law_kinds" = some (some (.ref f_law_kinds)))
    (l_law_kinds : K.lookup f_law_kinds = some ⟨oc_law_kinds, od_law_kinds, .func (PySem.W.fnOf "_law_kinds" "_law_kinds" (defArgs s_law_kinds) (defBody s_law_kinds) (defScope s_law_kinds) .none kV_law_kinds dc_law_kinds pm_law_kinds an_law_kinds cd_law_kinds ct_law_kinds), sl_law_kinds⟩)
    (c_law_kinds : PySem.W.codeIn K cd_law_kinds "_law_kinds" = true)
    (k_law_kinds : PySem.W.keepIn K (.ref f_law_kinds) = true)
    (a_law : PySem.W.nsIn K mainGlobals "law" = some (some (.ref f_law)))
    (l_law : K.lookup f_law = some ⟨oc_law, od_law, .func (PySem.W.fnOf "law" "law" (defArgs s_law) (defBody s_law) (defScope s_law) .none kV_law dc_law pm_law an_law cd_law ct_law), sl_law⟩)
    (c_law : PySem.W.codeIn K cd_law "law" = true)
    (k_law : PySem.W.keepIn K (.ref f_law) = true)
    (z_all : PySem.W.nsIn K mainGlobals "all" = some none)
    (z_bool : PySem.W.nsIn K mainGlobals "bool" = some none)
    (z_int : PySem.W.nsIn K mainGlobals "int" = some none)
    (z_isinstance : PySem.W.nsIn K mainGlobals "isinstance" = some none)
    (z_len : PySem.W.nsIn K mainGlobals "len" = some none)
    (z_list : PySem.W.nsIn K mainGlobals "list" = some none)
    (z_range : PySem.W.nsIn K mainGlobals "range" = some none)
    (z_sorted : PySem.W.nsIn K mainGlobals "sorted" = some none)
    (z_sum : PySem.W.nsIn K mainGlobals "sum" = some none)
    (z_zip : PySem.W.nsIn K mainGlobals "zip" = some none)
    (x_MOST_STRANDS : PySem.W.nsIn K mainGlobals "MOST_STRANDS" = some (some (.int 40 q_MOST_STRANDS)))
    (n_WeaveError : PySem.W.nsIn K mainGlobals "WeaveError" = some (some (.ref e_WeaveError)))
    (n_TooLarge : PySem.W.nsIn K mainGlobals "TooLarge" = some (some (.ref e_TooLarge)))
    (n_NoCloth : PySem.W.nsIn K mainGlobals "NoCloth" = some (some (.ref e_NoCloth)))
    (y1_WeaveError : PySem.W.excIn K e_WeaveError vE vN = true)
    (y2_WeaveError : PySem.W.findIn K (.ref e_WeaveError) "__getattribute__" = some (some (.builtin "BaseException.__getattribute__")))
    (y3_WeaveError : PySem.W.findIn K (.ref e_WeaveError) "__getattr__" = some none)
    (y4_WeaveError : PySem.W.findIn K (.ref e_WeaveError) "__class__" = some (some (.builtin "object.__class__")))
    (y5_WeaveError : PySem.W.specialIn K (.builtin "object.__class__") "__get__" = some (some (.builtin "getset_descriptor.__get__")))
    (y6_WeaveError : PySem.W.takesIn K (.builtin "object.__class__") = some true)
    (y7_WeaveError : PySem.W.mroIn K e_WeaveError (.type "object") = some true)
    (y8_WeaveError : PySem.W.mroIn K e_WeaveError (.type "BaseException") = some true)
    (y9_WeaveError : PySem.W.isClsIn K e_WeaveError = true)
    (y10_WeaveError : PySem.W.typeIn K (.ref e_WeaveError) = some (.type "type"))
    (y11_WeaveError : PySem.W.mroIn K e_WeaveError (.type "ValueError") = some true)
    (r_WeaveError_WeaveError : PySem.W.mroIn K e_WeaveError (.ref e_WeaveError) = some true)
    (r_WeaveError_TooLarge : PySem.W.mroIn K e_WeaveError (.ref e_TooLarge) = some false)
    (r_WeaveError_NoCloth : PySem.W.mroIn K e_WeaveError (.ref e_NoCloth) = some false)
    (y1_TooLarge : PySem.W.excIn K e_TooLarge vE vN = true)
    (y2_TooLarge : PySem.W.findIn K (.ref e_TooLarge) "__getattribute__" = some (some (.builtin "BaseException.__getattribute__")))
    (y3_TooLarge : PySem.W.findIn K (.ref e_TooLarge) "__getattr__" = some none)
    (y4_TooLarge : PySem.W.findIn K (.ref e_TooLarge) "__class__" = some (some (.builtin "object.__class__")))
    (y7_TooLarge : PySem.W.mroIn K e_TooLarge (.type "object") = some true)
    (y8_TooLarge : PySem.W.mroIn K e_TooLarge (.type "BaseException") = some true)
    (y9_TooLarge : PySem.W.isClsIn K e_TooLarge = true)
    (y10_TooLarge : PySem.W.typeIn K (.ref e_TooLarge) = some (.type "type"))
    (y11_TooLarge : PySem.W.mroIn K e_TooLarge (.type "ValueError") = some true)
    (r_TooLarge_WeaveError : PySem.W.mroIn K e_TooLarge (.ref e_WeaveError) = some true)
    (r_TooLarge_TooLarge : PySem.W.mroIn K e_TooLarge (.ref e_TooLarge) = some true)
    (r_TooLarge_NoCloth : PySem.W.mroIn K e_TooLarge (.ref e_NoCloth) = some false)
    (y1_NoCloth : PySem.W.excIn K e_NoCloth vE vN = true)
    (y2_NoCloth : PySem.W.findIn K (.ref e_NoCloth) "__getattribute__" = some (some (.builtin "BaseException.__getattribute__")))
    (y3_NoCloth : PySem.W.findIn K (.ref e_NoCloth) "__getattr__" = some none)
    (y4_NoCloth : PySem.W.findIn K (.ref e_NoCloth) "__class__" = some (some (.builtin "object.__class__")))
    (y7_NoCloth : PySem.W.mroIn K e_NoCloth (.type "object") = some true)
    (y8_NoCloth : PySem.W.mroIn K e_NoCloth (.type "BaseException") = some true)
    (y9_NoCloth : PySem.W.isClsIn K e_NoCloth = true)
    (y10_NoCloth : PySem.W.typeIn K (.ref e_NoCloth) = some (.type "type"))
    (y11_NoCloth : PySem.W.mroIn K e_NoCloth (.type "ValueError") = some true)
    (r_NoCloth_WeaveError : PySem.W.mroIn K e_NoCloth (.ref e_WeaveError) = some true)
    (r_NoCloth_TooLarge : PySem.W.mroIn K e_NoCloth (.ref e_TooLarge) = some false)
    (r_NoCloth_NoCloth : PySem.W.mroIn K e_NoCloth (.ref e_NoCloth) = some true)
    (fm_WeaveError : PySem.W.findIn K (.ref e_WeaveError) "called" = some (some (.ref f_WeaveError_called)))
    (gm_WeaveError : PySem.W.isFn K (.ref f_WeaveError_called) = true)
    (lm_WeaveError : K.lookup f_WeaveError_called = some ⟨oc_WeaveError_called, od_WeaveError_called, .func (PySem.W.fnOf "called" "WeaveError.called" (defArgs s_WeaveError_called) (defBody s_WeaveError_called) (defScope s_WeaveError_called) .none kV_WeaveError_called dc_WeaveError_called pm_WeaveError_called an_WeaveError_called cd_WeaveError_called ct_WeaveError_called), sl_WeaveError_called⟩)
    (cm_WeaveError : PySem.W.codeIn K cd_WeaveError_called "WeaveError.called" = true)
    (km_WeaveError : PySem.W.keepIn K (.ref f_WeaveError_called) = true)
    (fm_TooLarge : PySem.W.findIn K (.ref e_TooLarge) "called" = some (some (.ref f_TooLarge_called)))
    (gm_TooLarge : PySem.W.isFn K (.ref f_TooLarge_called) = true)
    (lm_TooLarge : K.lookup f_TooLarge_called = some ⟨oc_TooLarge_called, od_TooLarge_called, .func (PySem.W.fnOf "called" "TooLarge.called" (defArgs s_TooLarge_called) (defBody s_TooLarge_called) (defScope s_TooLarge_called) .none kV_TooLarge_called dc_TooLarge_called pm_TooLarge_called an_TooLarge_called cd_TooLarge_called ct_TooLarge_called), sl_TooLarge_called⟩)
    (cm_TooLarge : PySem.W.codeIn K cd_TooLarge_called "TooLarge.called" = true)
    (km_TooLarge : PySem.W.keepIn K (.ref f_TooLarge_called) = true)
    (fm_NoCloth : PySem.W.findIn K (.ref e_NoCloth) "called" = some (some (.ref f_NoCloth_called)))
    (gm_NoCloth : PySem.W.isFn K (.ref f_NoCloth_called) = true)
    (lm_NoCloth : K.lookup f_NoCloth_called = some ⟨oc_NoCloth_called, od_NoCloth_called, .func (PySem.W.fnOf "called" "NoCloth.called" (defArgs s_NoCloth_called) (defBody s_NoCloth_called) (defScope s_NoCloth_called) .none kV_NoCloth_called dc_NoCloth_called pm_NoCloth_called an_NoCloth_called cd_NoCloth_called ct_NoCloth_called), sl_NoCloth_called⟩)
    (cm_NoCloth : PySem.W.codeIn K cd_NoCloth_called "NoCloth.called" = true)
    (km_NoCloth : PySem.W.keepIn K (.ref f_NoCloth_called) = true) :
    Txt K mg ⟨f_measured, PySem.W.fnOf "measured" "measured" (defArgs s_measured) (defBody s_measured) (defScope s_measured) .none kV_measured dc_measured pm_measured an_measured cd_measured ct_measured, f_measured_texts, PySem.W.fnOf "measured_texts" "measured_texts" (defArgs s_measured_texts) (defBody s_measured_texts) (defScope s_measured_texts) .none kV_measured_texts dc_measured_texts pm_measured_texts an_measured_texts cd_measured_texts ct_measured_texts, f_check_pick, PySem.W.fnOf "check_pick" "check_pick" (defArgs s_check_pick) (defBody s_check_pick) (defScope s_check_pick) .none kV_check_pick dc_check_pick pm_check_pick an_check_pick cd_check_pick ct_check_pick, f_end_signs, PySem.W.fnOf "end_signs" "end_signs" (defArgs s_end_signs) (defBody s_end_signs) (defScope s_end_signs) .none kV_end_signs dc_end_signs pm_end_signs an_end_signs cd_end_signs ct_end_signs, f_scores_of, PySem.W.fnOf "scores_of" "scores_of" (defArgs s_scores_of) (defBody s_scores_of) (defScope s_scores_of) .none kV_scores_of dc_scores_of pm_scores_of an_scores_of cd_scores_of ct_scores_of, f_tops_of, PySem.W.fnOf "tops_of" "tops_of" (defArgs s_tops_of) (defBody s_tops_of) (defScope s_tops_of) .none kV_tops_of dc_tops_of pm_tops_of an_tops_of cd_tops_of ct_tops_of, f_layers_of, PySem.W.fnOf "layers_of" "layers_of" (defArgs s_layers_of) (defBody s_layers_of) (defScope s_layers_of) .none kV_layers_of dc_layers_of pm_layers_of an_layers_of cd_layers_of ct_layers_of, f_tiled, PySem.W.fnOf "tiled" "tiled" (defArgs s_tiled) (defBody s_tiled) (defScope s_tiled) .none kV_tiled dc_tiled pm_tiled an_tiled cd_tiled ct_tiled, f_law_at, PySem.W.fnOf "_law_at" "_law_at" (defArgs s_law_at) (defBody s_law_at) (defScope s_law_at) .none kV_law_at dc_law_at pm_law_at an_law_at cd_law_at ct_law_at, f_law_numbers, PySem.W.fnOf "_law_numbers" "_law_numbers" (defArgs s_law_numbers) (defBody s_law_numbers) (defScope s_law_numbers) .none kV_law_numbers dc_law_numbers pm_law_numbers an_law_numbers cd_law_numbers ct_law_numbers, f_law_levels, PySem.W.fnOf "_law_levels" "_law_levels" (defArgs s_law_levels) (defBody s_law_levels) (defScope s_law_levels) .none kV_law_levels dc_law_levels pm_law_levels an_law_levels cd_law_levels ct_law_levels, f_law_text, PySem.W.fnOf "_law_text" "_law_text" (defArgs s_law_text) (defBody s_law_text) (defScope s_law_text) .none kV_law_text dc_law_text pm_law_text an_law_text cd_law_text ct_law_text, f_law_cloth, PySem.W.fnOf "_law_cloth" "_law_cloth" (defArgs s_law_cloth) (defBody s_law_cloth) (defScope s_law_cloth) .none kV_law_cloth dc_law_cloth pm_law_cloth an_law_cloth cd_law_cloth ct_law_cloth, f_law_whole, PySem.W.fnOf "_law_whole" "_law_whole" (defArgs s_law_whole) (defBody s_law_whole) (defScope s_law_whole) .none kV_law_whole dc_law_whole pm_law_whole an_law_whole cd_law_whole ct_law_whole, f_law_copies, PySem.W.fnOf "_law_copies" "_law_copies" (defArgs s_law_copies) (defBody s_law_copies) (defScope s_law_copies) .none kV_law_copies dc_law_copies pm_law_copies an_law_copies cd_law_copies ct_law_copies, f_law_lone, PySem.W.fnOf "_law_lone" "_law_lone" (defArgs s_law_lone) (defBody s_law_lone) (defScope s_law_lone) .none kV_law_lone dc_law_lone pm_law_lone an_law_lone cd_law_lone ct_law_lone, f_law_due, PySem.W.fnOf "_law_due" "_law_due" (defArgs s_law_due) (defBody s_law_due) (defScope s_law_due) .none kV_law_due dc_law_due pm_law_due an_law_due cd_law_due ct_law_due, f_law_kinds, PySem.W.fnOf "_law_kinds" "_law_kinds" (defArgs s_law_kinds) (defBody s_law_kinds) (defScope s_law_kinds) .none kV_law_kinds dc_law_kinds pm_law_kinds an_law_kinds cd_law_kinds ct_law_kinds, f_law, PySem.W.fnOf "law" "law" (defArgs s_law) (defBody s_law) (defScope s_law) .none kV_law dc_law pm_law an_law cd_law ct_law, e_WeaveError, f_WeaveError_called, PySem.W.fnOf "called" "WeaveError.called" (defArgs s_WeaveError_called) (defBody s_WeaveError_called) (defScope s_WeaveError_called) .none kV_WeaveError_called dc_WeaveError_called pm_WeaveError_called an_WeaveError_called cd_WeaveError_called ct_WeaveError_called, e_TooLarge, f_TooLarge_called, PySem.W.fnOf "called" "TooLarge.called" (defArgs s_TooLarge_called) (defBody s_TooLarge_called) (defScope s_TooLarge_called) .none kV_TooLarge_called dc_TooLarge_called pm_TooLarge_called an_TooLarge_called cd_TooLarge_called ct_TooLarge_called, e_NoCloth, f_NoCloth_called, PySem.W.fnOf "called" "NoCloth.called" (defArgs s_NoCloth_called) (defBody s_NoCloth_called) (defScope s_NoCloth_called) .none kV_NoCloth_called dc_NoCloth_called pm_NoCloth_called an_NoCloth_called cd_NoCloth_called ct_NoCloth_called⟩ :=
  ⟨⟨fun_mk (st := s_measured) l_measured c_measured k_measured, PySem.W.mg_of X G a_measured, (fun_mk (st := s_measured) l_measured c_measured k_measured).binds (ps := ["cloth"]) fun _ _ _ _ _ _ us hl => bl1 (fun _ => rfl) us hl⟩,
   ⟨fun_mk (st := s_measured_texts) l_measured_texts c_measured_texts k_measured_texts, PySem.W.mg_of X G a_measured_texts, (fun_mk (st := s_measured_texts) l_measured_texts c_measured_texts k_measured_texts).binds (ps := ["texts", "least", "signs"]) fun _ _ _ _ _ _ us hl => bl3 (fun _ _ _ => rfl) us hl⟩,
   ⟨fun_mk (st := s_check_pick) l_check_pick c_check_pick k_check_pick, PySem.W.mg_of X G a_check_pick, (fun_mk (st := s_check_pick) l_check_pick c_check_pick k_check_pick).binds (ps := ["text", "ends", "signs"]) fun _ _ _ _ _ _ us hl => bl3 (fun _ _ _ => rfl) us hl⟩,
   ⟨fun_mk (st := s_end_signs) l_end_signs c_end_signs k_end_signs, PySem.W.mg_of X G a_end_signs, (fun_mk (st := s_end_signs) l_end_signs c_end_signs k_end_signs).binds (ps := ["cloth", "end"]) fun _ _ _ _ _ _ us hl => bl2 (fun _ _ => rfl) us hl⟩,
   ⟨fun_mk (st := s_scores_of) l_scores_of c_scores_of k_scores_of, PySem.W.mg_of X G a_scores_of, (fun_mk (st := s_scores_of) l_scores_of c_scores_of k_scores_of).binds (ps := ["cloth"]) fun _ _ _ _ _ _ us hl => bl1 (fun _ => rfl) us hl⟩,
   ⟨fun_mk (st := s_tops_of) l_tops_of c_tops_of k_tops_of, PySem.W.mg_of X G a_tops_of, (fun_mk (st := s_tops_of) l_tops_of c_tops_of k_tops_of).binds (ps := ["cloth"]) fun _ _ _ _ _ _ us hl => bl1 (fun _ => rfl) us hl⟩,
   ⟨fun_mk (st := s_layers_of) l_layers_of c_layers_of k_layers_of, PySem.W.mg_of X G a_layers_of, (fun_mk (st := s_layers_of) l_layers_of c_layers_of k_layers_of).binds (ps := ["cloth"]) fun _ _ _ _ _ _ us hl => bl1 (fun _ => rfl) us hl⟩,
   ⟨fun_mk (st := s_tiled) l_tiled c_tiled k_tiled, PySem.W.mg_of X G a_tiled, (fun_mk (st := s_tiled) l_tiled c_tiled k_tiled).binds (ps := ["cloth", "across", "along"]) fun _ _ _ _ _ _ us hl => bl3 (fun _ _ _ => rfl) us hl⟩,
   ⟨fun_mk (st := s_law_at) l_law_at c_law_at k_law_at, PySem.W.mg_of X G a_law_at, (fun_mk (st := s_law_at) l_law_at c_law_at k_law_at).binds (ps := ["script", "k"]) fun _ _ _ _ _ _ us hl => bl2 (fun _ _ => rfl) us hl⟩,
   ⟨fun_mk (st := s_law_numbers) l_law_numbers c_law_numbers k_law_numbers, PySem.W.mg_of X G a_law_numbers, (fun_mk (st := s_law_numbers) l_law_numbers c_law_numbers k_law_numbers).binds (ps := ["script", "picks", "factor"]) fun _ _ _ _ _ _ us hl => bl3 (fun _ _ _ => rfl) us hl⟩,
   ⟨fun_mk (st := s_law_levels) l_law_levels c_law_levels k_law_levels, PySem.W.mg_of X G a_law_levels, (fun_mk (st := s_law_levels) l_law_levels c_law_levels k_law_levels).binds (ps := ["script", "strands", "many"]) fun _ _ _ _ _ _ us hl => bl3 (fun _ _ _ => rfl) us hl⟩,
   ⟨fun_mk (st := s_law_text) l_law_text c_law_text k_law_text, PySem.W.mg_of X G a_law_text, (fun_mk (st := s_law_text) l_law_text c_law_text k_law_text).binds (ps := ["number", "pick", "ends", "levels"]) fun _ _ _ _ _ _ us hl => bl4 (fun _ _ _ _ => rfl) us hl⟩,
   ⟨fun_mk (st := s_law_cloth) l_law_cloth c_law_cloth k_law_cloth, PySem.W.mg_of X G a_law_cloth, (fun_mk (st := s_law_cloth) l_law_cloth c_law_cloth k_law_cloth).binds (ps := ["script"]) fun _ _ _ _ _ _ us hl => bl1 (fun _ => rfl) us hl⟩,
   ⟨fun_mk (st := s_law_whole) l_law_whole c_law_whole k_law_whole, PySem.W.mg_of X G a_law_whole, (fun_mk (st := s_law_whole) l_law_whole c_law_whole k_law_whole).binds (ps := ["found"]) fun _ _ _ _ _ _ us hl => bl1 (fun _ => rfl) us hl⟩,
   ⟨fun_mk (st := s_law_copies) l_law_copies c_law_copies k_law_copies, PySem.W.mg_of X G a_law_copies, (fun_mk (st := s_law_copies) l_law_copies c_law_copies k_law_copies).binds (ps := ["layer", "sizes", "across", "along"]) fun _ _ _ _ _ _ us hl => bl4 (fun _ _ _ _ => rfl) us hl⟩,
   ⟨fun_mk (st := s_law_lone) l_law_lone c_law_lone k_law_lone, PySem.W.mg_of X G a_law_lone, (fun_mk (st := s_law_lone) l_law_lone c_law_lone k_law_lone).binds (ps := ["layer", "ends"]) fun _ _ _ _ _ _ us hl => bl2 (fun _ _ => rfl) us hl⟩,
   ⟨fun_mk (st := s_law_due) l_law_due c_law_due k_law_due, PySem.W.mg_of X G a_law_due, (fun_mk (st := s_law_due) l_law_due c_law_due k_law_due).binds (ps := ["layers", "sizes", "across", "along"]) fun _ _ _ _ _ _ us hl => bl4 (fun _ _ _ _ => rfl) us hl⟩,
   ⟨fun_mk (st := s_law_kinds) l_law_kinds c_law_kinds k_law_kinds, PySem.W.mg_of X G a_law_kinds, (fun_mk (st := s_law_kinds) l_law_kinds c_law_kinds k_law_kinds).binds (ps := ["found"]) fun _ _ _ _ _ _ us hl => bl1 (fun _ => rfl) us hl⟩,
   ⟨fun_mk (st := s_law) l_law c_law k_law, PySem.W.mg_of X G a_law, (fun_mk (st := s_law) l_law c_law k_law).binds (ps := ["script"]) fun _ _ _ _ _ _ us hl => bl1 (fun _ => rfl) us hl⟩,
   PySem.W.mg_none_of X G z_all,
   PySem.W.mg_none_of X G z_bool,
   PySem.W.mg_none_of X G z_int,
   PySem.W.mg_none_of X G z_isinstance,
   PySem.W.mg_none_of X G z_len,
   PySem.W.mg_none_of X G z_list,
   PySem.W.mg_none_of X G z_range,
   PySem.W.mg_none_of X G z_sorted,
   PySem.W.mg_none_of X G z_sum,
   PySem.W.mg_none_of X G z_zip,
   ⟨_, PySem.W.mg_of X G x_MOST_STRANDS⟩,
   PySem.W.mg_of X G n_WeaveError,
   exn_mk y1_WeaveError y2_WeaveError y3_WeaveError y4_WeaveError y5_WeaveError y6_WeaveError y7_WeaveError y8_WeaveError y9_WeaveError y10_WeaveError y11_WeaveError,
   ⟨fun_mk (st := s_WeaveError_called) lm_WeaveError cm_WeaveError km_WeaveError, ⟨fm_WeaveError, gm_WeaveError, km_WeaveError⟩, (fun_mk (st := s_WeaveError_called) lm_WeaveError cm_WeaveError km_WeaveError).binds (ps := ["self"]) fun _ _ _ _ _ _ us hl => match us, hl with | [_], _ => rfl⟩,
   r_WeaveError_WeaveError,
   r_WeaveError_TooLarge,
   r_WeaveError_NoCloth,
   PySem.W.mg_of X G n_TooLarge,
   exn_mk y1_TooLarge y2_TooLarge y3_TooLarge y4_TooLarge y5_WeaveError y6_WeaveError y7_TooLarge y8_TooLarge y9_TooLarge y10_TooLarge y11_TooLarge,
   ⟨fun_mk (st := s_TooLarge_called) lm_TooLarge cm_TooLarge km_TooLarge, ⟨fm_TooLarge, gm_TooLarge, km_TooLarge⟩, (fun_mk (st := s_TooLarge_called) lm_TooLarge cm_TooLarge km_TooLarge).binds (ps := ["self"]) fun _ _ _ _ _ _ us hl => match us, hl with | [_], _ => rfl⟩,
   r_TooLarge_WeaveError,
   r_TooLarge_TooLarge,
   r_TooLarge_NoCloth,
   PySem.W.mg_of X G n_NoCloth,
   exn_mk y1_NoCloth y2_NoCloth y3_NoCloth y4_NoCloth y5_WeaveError y6_WeaveError y7_NoCloth y8_NoCloth y9_NoCloth y10_NoCloth y11_NoCloth,
   ⟨fun_mk (st := s_NoCloth_called) lm_NoCloth cm_NoCloth km_NoCloth, ⟨fm_NoCloth, gm_NoCloth, km_NoCloth⟩, (fun_mk (st := s_NoCloth_called) lm_NoCloth cm_NoCloth km_NoCloth).binds (ps := ["self"]) fun _ _ _ _ _ _ us hl => match us, hl with | [_], _ => rfl⟩,
   r_NoCloth_WeaveError,
   r_NoCloth_TooLarge,
   r_NoCloth_NoCloth⟩
section
variable {P : Program} {w : World} {K : PySem.W.Frag} {mg : Str → Option Value} {base : Heap} {t : Adr}
def sp_called (z : Str) : Sp := fun vs H Q _ => ∃ v, vs = [v] ∧ Q (.str z) H
end
section
variable {P : Program} {w : World} {K : PySem.W.Frag} {mg : Str → Option Value} {base : Heap} {t : Adr}
theorem z0 (i : Nat) : (0 + (i : Int)).toNat = i := by omega
theorem kit_same (K : PySem.W.Frag) (n : String) : PySem.W.kitOne K (.type n) (.type n) = some true := if_pos (beq_self_eq_true _)
theorem e35 : (V.str ⟨#[35]⟩ : V) = V.str "#" := congrArg V.str (by decide +kernel)
theorem e46 : (V.str ⟨#[46]⟩ : V) = V.str "." := congrArg V.str (by decide +kernel)
theorem small40 {n : Nat} (h : n ≤ 40) : n ≤ sizeLine := Nat.le_trans h (by decide)
theorem occ {c : Nat} (h : Sg c) : (!(!(Builtin.Str.occurrences "#." ⟨#[c]⟩ 0 (Str.length "#.") 1).isEmpty)) = false := by
  rcases h with h | h <;> subst h <;> decide +kernel

def sp_check_pick : Sp := fun vs H Q _ => ∃ (t : List Nat), vs = [.str (tx t), .int (t.length : Int), .str "#."] ∧ (∀ c ∈ t, Sg c) ∧ t.length ≤ 40 ∧ Q .non H
theorem ok_check_pick (T : Txt K mg t) : FnOk P w K mg base CX0 1 t.f_check_pick t.d_check_pick ["text", "ends", "signs"] sp_check_pick := by
  refine T.check_pick.F.ok sc_check_pick (fun vs H Q E h => ?_) (fun cdv A outer s H vs Q E hr h => ?_)
  · obtain ⟨t, rfl, _⟩ := h
    rfl
  · obtain ⟨t, rfl, hsg, hl, k⟩ := h
    refine ⟨_, (pss_cons (ps_if (pt_cmpR op_ne (pe_callB call_len_str rfl T.b_len bt_len (pa_cons (pv 0) pa_nil)) (pv 1) (nomark _))
        (pss_one ps_never)
        pss_nil)
      (pss_one (ps_for PassesOwn.never rfl (pi_str (pv 0)) (pg_name (i := 3) sc_check_pick.nd rfl (Or.inl rfl))
        (pss_one (ps_if (pt_cmpR op_notin_str (pv 3) (pv 2) rfl)
          (pss_one ps_never)
          pss_nil))))), ?_⟩
    refine ⟨_, rfl, _, rfl, (by rw [tx_len]; exact small40 hl), _, rfl, rfl, _, rfl, ?_⟩
    refine iteNS (by rw [tx_len]) ?_
    refine ⟨_, rfl, _, rfl, for_str (z := tx t) (fun i σ H2 => ∃ v, σ = [some (.str (tx t)), some (.int (t.length : Int)), some (.str "#."), v] ∧ H2 = H) ⟨none, rfl, rfl⟩ ?_ ?_⟩
    · rintro i c σ H2 hc ⟨v, rfl, rfl⟩
      rw [tx_get] at hc
      refine ⟨_, rfl, _, rfl, _, _, rfl, rfl, _, rfl, ?_⟩
      rw [occ (hsg c (List.mem_of_getElem? hc))]
      exact iteF ⟨_, rfl, rfl⟩
    · rintro σ H2 ⟨v, rfl, rfl⟩
      exact k

def sp_measured_texts (K : PySem.W.Frag) : Sp := fun vs H Q _ => ∃ (a : Addr) (cl : List (List Nat)) (m n : Nat), vs = [.ref a, .int 1, .str "#."] ∧ SqL K H a (vS cl) ∧ Cl cl m n ∧ ∀ p, H p = none → Q (.ref p) (upd H p (.tup [.int (m : Int), .int (n : Int)]))
theorem ok_measured_texts (T : Txt K mg t) : FnOk P w K mg base CX0 2 t.f_measured_texts t.d_measured_texts ["texts", "least", "signs"] (sp_measured_texts K) := by
  have G_check_pick : FnOk P w K mg base CX0 1 t.f_check_pick t.d_check_pick _ _ := ok_check_pick T
  refine T.measured_texts.F.ok sc_measured_texts (fun vs H Q E h => ?_) (fun cdv A outer s H vs Q E hr h => ?_)
  · obtain ⟨a, cl, m, n, rfl, _⟩ := h
    rfl
  · obtain ⟨a, cl, m, n, rfl, hS, C, k⟩ := h
    have hlen : (vS cl).length = n := by rw [vS_len, C.hn]
    have h0 : 0 < cl.length := by rw [C.hn]; exact C.n1
    have hm0 := C.hm cl[0] (List.getElem_mem h0)
    have c1 := C.n1
    have c2 := C.n40
    have c3 := C.m1
    have c4 := C.m40
    refine ⟨_, (pss_cons (ps_if (PW.pt (pw_or (pt_cmpR op_lt (pe_callB (call_len_seqK (K := K)) rfl T.b_len bt_len (pa_cons (pv 0) pa_nil)) (pv 1) (nomark _)) (pw_or1 (pt_cmpR op_gt (pe_callB (call_len_seqK (K := K)) rfl T.b_len bt_len (pa_cons (pv 0) pa_nil)) (pe_glob (v := .int 40) rfl T.c_MOST_STRANDS.choose_spec ⟨_, rfl⟩) (nomark _)))))
        (pss_one ps_never)
        pss_nil)
      (pss_cons (ps_set (i := 3) sc_measured_texts.nd rfl (Or.inl rfl) (pe_callB call_len_str rfl T.b_len bt_len (pa_cons (pe_ix (ix_listK (K := K)) (pv 0) pe_int (fun _ _ => rfl)) pa_nil)))
      (pss_cons (ps_if (PW.pt (pw_or (pt_cmpR op_lt (pv 3) (pv 1) (nomark _)) (pw_or1 (pt_cmpR op_gt (pv 3) (pe_glob (v := .int 40) rfl T.c_MOST_STRANDS.choose_spec ⟨_, rfl⟩) (nomark _)))))
        (pss_one ps_never)
        pss_nil)
      (pss_cons (ps_for PassesOwn.never rfl (pi_listK (K := K) (pv 0)) (pg_name (i := 4) sc_measured_texts.nd rfl (Or.inl rfl))
        (pss_one (ps_expr (pe_call (G_check_pick.mono (by decide)) hr rfl T.check_pick.m T.check_pick.F.kp T.check_pick.b .nil pass0 (pa_cons (pv 4) (pa_cons (pv 3) (pa_cons (pv 2) pa_nil)))))))
      (pss_one (ps_ret (pe_tup (pa_cons (pv 3) (pa_cons (pe_callB (call_len_seqK (K := K)) rfl T.b_len bt_len (pa_cons (pv 0) pa_nil)) pa_nil))))))))), ?_⟩
    refine ⟨_, rfl, _, _, rfl, .inl hS, _, rfl, _, _, rfl, rfl, _, rfl, ?_⟩
    refine iteDn (by rw [hlen]; omega) ?_
    refine ⟨_, rfl, _, _, rfl, .inl hS, _, _, rfl, rfl, _, rfl, ?_⟩
    refine iteDn (by rw [hlen]; omega) ?_
    refine ⟨_, rfl, _, _, _, _, rfl, rfl, hS, atI_of (by decide) (vS_get (List.getElem?_eq_getElem h0)), _, rfl, (by rw [tx_len, hm0]; exact small40 c4), ?_⟩
    rw [tx_len, hm0]
    refine ⟨_, rfl, _, rfl, _, _, rfl, rfl, _, rfl, ?_⟩
    refine iteDn (by omega) ?_
    refine ⟨_, rfl, _, _, rfl, rfl, _, rfl, ?_⟩
    refine iteDn (by omega) ?_
    refine ⟨_, rfl, _, rfl, ⟨_, hS⟩, for_list (K := K) (a := a) (xs := vS cl) (fun i σ H2 => ∃ v, σ = [some (.ref a), some (.int 1), some (.str "#."), some (.int (m : Int)), v] ∧ H2 = H) ⟨none, rfl, rfl⟩ (fun i σ H2 _ ⟨_, _, e⟩ => e ▸ hS) ?_ ?_⟩
    · rintro i x σ H2 hx ⟨v, rfl, rfl⟩
      obtain ⟨t, ht, rfl⟩ := vS_got hx
      have htm := List.mem_of_getElem? ht
      refine ⟨_, rfl, _, rfl, _, rfl, t, ?_, C.sg t htm, ?_, ⟨_, rfl, rfl⟩⟩
      · rw [C.hm t htm]; rfl
      · rw [C.hm t htm]; exact c4
    · rintro σ H2 ⟨v, rfl, rfl⟩
      refine ⟨_, rfl, _, rfl, _, _, rfl, .inl hS, (by show 2 ≤ sizeLine; decide), fun p hp => ?_⟩
      rw [hlen]
      exact k p hp

def sp_measured (K : PySem.W.Frag) : Sp := fun vs H Q _ => ∃ (a : Addr) (cl : List (List Nat)) (m n : Nat), vs = [.ref a] ∧ SqL K H a (vS cl) ∧ Cl cl m n ∧ ∀ p, H p = none → Q (.ref p) (upd H p (.tup [.int (m : Int), .int (n : Int)]))
theorem ok_measured (T : Txt K mg t) : FnOk P w K mg base CX0 3 t.f_measured t.d_measured ["cloth"] (sp_measured K) := by
  have G_measured_texts : FnOk P w K mg base CX0 2 t.f_measured_texts t.d_measured_texts _ _ := ok_measured_texts T
  refine T.measured.F.ok sc_measured (fun vs H Q E h => ?_) (fun cdv A outer s H vs Q E hr h => ?_)
  · obtain ⟨a, cl, m, n, rfl, _⟩ := h
    rfl
  · obtain ⟨a, cl, m, n, rfl, hS, C, k⟩ := h
    exact ⟨_, (pss_one (ps_ret (pe_call (G_measured_texts.mono (by decide)) hr rfl T.measured_texts.m T.measured_texts.F.kp T.measured_texts.b .nil pass0 (pa_cons (pv 0) (pa_cons pe_int (pa_cons pe_str pa_nil)))))), _, rfl, a, cl, m, n, rfl, hS, C, k⟩
def sp_end_signs (K : PySem.W.Frag) : Sp := fun vs H Q _ => ∃ (a : Addr) (cl : List (List Nat)) (m n e : Nat), vs = [.ref a, .int (e : Int)] ∧ SqL K H a (vS cl) ∧ Cl cl m n ∧ e < m ∧ ∀ H', Same H H' → Q (.str (tx (col cl e))) H'
theorem ok_end_signs (T : Txt K mg t) : FnOk P w K mg base CX0 1 t.f_end_signs t.d_end_signs ["cloth", "end"] (sp_end_signs K) := by
  refine T.end_signs.F.ok sc_end_signs (fun vs H Q E h => ?_) (fun cdv A outer s H vs Q E hr h => ?_)
  · obtain ⟨a, cl, m, n, e, rfl, _⟩ := h
    rfl
  · obtain ⟨a, cl, m, n, e, rfl, hS, C, he, k⟩ := h
    have c2 := C.n40
    have c4 := C.m40
    refine ⟨_, (pss_one (ps_ret (pe_bmK (K := K) PySem.F.plainAttrs_str PySem.F.slot_str_join PySem.F.type_str_join (mt_joinK (K := K)) pe_str (pa_cons (pe_comp (CompOk.mk (caps := [1]) (Nc := ["text", "end"]) rfl (by decide +kernel) (by decide +kernel) (comp_fr (sc0 := defScope s_end_signs) rfl (by decide +kernel)) rfl rfl rfl (by decide +kernel) (fun k j h => match k, h with | 0, h => by obtain rfl := Option.some.inj h; exact ⟨_, rfl, rfl, rfl⟩ | _ + 1, h => by simp at h)) rfl (pi_listK (K := K) (pv 0)) (fun _ _ _ _ _ => .nil) (fun _ _ _ _ _ => (pe_ix ix_str (pv 0) (pv 1) (fun _ _ => rfl)))) pa_nil)))), ?_⟩
    refine ⟨rfl, _, rfl, _, rfl, ⟨_, hS⟩, comp_list (K := K) (a := a) (xs := vS cl) (fun i ys H2 => H2 = H ∧ ys = vS ((cl.take i).map fun t => [t.getD e 0])) ⟨rfl, rfl⟩ ?_ ?_ ?_ ?_⟩
    · rintro i ys H2 hi ⟨rfl, rfl⟩
      refine ⟨hS, ?_⟩
      rw [vS_len, List.length_map, List.length_take]
      omega
    · rw [vS_len, C.hn]; exact small40 c2
    · rintro i x ys H2 hi hx ⟨rfl, rfl⟩
      obtain ⟨t, ht, rfl⟩ := vS_got hx
      have htm := List.mem_of_getElem? ht
      have htl := C.hm t htm
      have hel : e < t.length := by omega
      refine CTurn.no ?_
      refine ⟨_, rfl, _, rfl, _, _, t[e], rfl, rfl, (by rw [tx_len, htl]; exact small40 c4), (by rw [tx_list]; exact atI_nat (List.getElem?_eq_getElem hel)), ?_⟩
      refine CN.of hi ⟨rfl, ?_⟩
      rw [tx_one, vS_app, List.take_add_one, ht, List.map_append]
      simp [List.getD, hel]
    · rintro ys H2 p ⟨rfl, rfl⟩ hp
      rw [vS_len, List.take_length]
      refine ⟨_, _, ((cl.map fun t => [t.getD e 0]).map tx), rfl, rfl, SqL.of (by rw [upd_same, vS_map]), ?_, ?_⟩
      · have e1 := sum1 (fun t : List Nat => t.getD e 0) cl
        rw [e1, List.length_map, List.length_map, C.hn]
        have : n * (Str.length "") = 0 := by rw [show Str.length "" = 0 from by decide +kernel]; omega
        omega
      · rw [show (("" : Str)) = tx [] from by decide +kernel, tx_join]
        have e2 : (cl.map fun t => [t.getD e 0]).flatten = col cl e := flat1 (fun t : List Nat => t.getD e 0) cl
        rw [e2]
        exact k _ (.upd hp)

theorem rep_vI (m : Nat) (z : Int) : (List.replicate m [V.int z]).flatten = vI (List.replicate m z) := by
  induction m with
  | zero => rfl
  | succ m ih => rw [List.replicate_succ, List.flatten_cons, ih, List.replicate_succ]; rfl
def sp_at (K : PySem.W.Frag) : Sp := fun vs H Q _ => ∃ (a : Addr) (ns : List Int) (i : Int), vs = [.ref a, .int i] ∧ SqL K H a (vI ns) ∧ 0 ≤ i ∧ ∀ c : Int, Q (.int c) H
theorem ok_law_at (T : Txt K mg t) : FnOk P w K mg base CX0 1 t.f_law_at t.d_law_at ["script", "k"] (sp_at K) := by
  refine T.law_at.F.ok sc_law_at (fun vs H Q E h => ?_) (fun cdv A outer s H vs Q E hr h => ?_)
  · obtain ⟨a, ns, i, rfl, _⟩ := h
    rfl
  · obtain ⟨a, ns, i, rfl, hS, hi, k⟩ := h
    refine ⟨_, (pss_cons (ps_if (pt_cmpR op_lt (pv 1) (pe_callB (call_len_seqK (K := K)) rfl T.b_len bt_len (pa_cons (pv 0) pa_nil)) (nomark _))
        (pss_one (ps_ret (pe_ix (ix_listK (K := K)) (pv 0) (pv 1) (fun _ _ => rfl))))
        pss_nil)
      (pss_one (ps_ret pe_int))), ?_⟩
    refine ⟨_, rfl, _, rfl, _, _, rfl, .inl hS, _, _, rfl, rfl, _, rfl, ?_⟩
    refine ite2D (fun h1 => ?_) (fun h1 => ?_)
    · rw [vI_len] at h1
      have hlt : i.toNat < ns.length := by omega
      exact ⟨_, rfl, _, rfl, _, _, _, _, rfl, rfl, hS, atI_of hi (vI_get (List.getElem?_eq_getElem hlt)), k _⟩
    · exact k 0

def sp_lnumbers (K : PySem.W.Frag) : Sp := fun vs H Q _ => ∃ (a : Addr) (ns : List Int) (m : Nat) (f : Int), vs = [.ref a, .int (m : Int), .int f] ∧ SqL K H a (vI ns) ∧ ns.length ≤ 63 ∧ 1 ≤ m ∧ m ≤ 1000 ∧ 0 ≤ f ∧ f ≤ 48271 ∧
  ∀ (l : Addr) (ks : List Int) (H' : Hp), Same H H' → H l = none → H' l = some (.lst (vI ks)) → ks.length = m → Q (.ref l) H'
theorem ok_law_numbers (T : Txt K mg t) : FnOk P w K mg base CX0 1 t.f_law_numbers t.d_law_numbers ["script", "picks", "factor"] (sp_lnumbers K) := by
  refine T.law_numbers.F.ok sc_law_numbers (fun vs H Q E h => ?_) (fun cdv A outer s H vs Q E hr h => ?_)
  · obtain ⟨a, ns, m, f, rfl, _⟩ := h
    rfl
  · obtain ⟨a, ns, m, f, rfl, hS, hl, hm, hm2, f0, f1, k⟩ := h
    have hsz : sizeLine = 16777216 := sizeLine_eq
    refine ⟨_, (pss_cons (ps_set (i := 3) sc_law_numbers.nd rfl (Or.inl rfl) (pe_op op_rep (pe_lst (pa_cons pe_int pa_nil)) (pv 1)))
      (pss_cons (ps_for PassesOwn.never rfl (pi_range1 rfl T.b_range (pa_cons (pe_callB (call_len_seqK (K := K)) rfl T.b_len bt_len (pa_cons (pv 0) pa_nil)) pa_nil)) (pg_name (i := 4) sc_law_numbers.nd rfl (Or.inl rfl))
        (pss_cons (ps_set (i := 5) sc_law_numbers.nd rfl (Or.inl rfl) (pe_op op_mod (pv 4) (pv 1)))
        (pss_cons (ps_set (i := 6) sc_law_numbers.nd rfl (Or.inl rfl) (pe_op op_add (pe_op op_mul (pe_ix (ix_listK (K := K)) (pv 3) (pv 5) (fun _ _ => rfl)) (pv 2)) (pe_ix (ix_listK (K := K)) (pv 0) (pv 4) (fun _ _ => rfl))))
        (pss_one (ps_asg (pe_op op_mod (pv 6) pe_int) (pg_sub (pv 3) (pv 5) set_list))))))
      (pss_one (ps_ret (pv 3))))), ?_⟩
    refine ⟨(by show 1 ≤ sizeLine; decide), fun p hp => ?_⟩
    refine ⟨_, rfl, _, _, _, rfl, rfl, upd_same, (by omega), (by omega), (by show 1 * ((m : Int).toNat) ≤ sizeLine; omega), fun q hq => ?_⟩
    rw [Int.toNat_natCast, rep_vI]
    have s1 : Same H (upd H p (.lst [.int 0])) := .upd hp
    have nq : H q = none := s1.free hq
    have s2 : Same H (upd (upd H p (.lst [.int 0])) q (.lst (vI (List.replicate m 0)))) := s1.new hq
    refine ⟨_, rfl, _, _, rfl, .inl (s2.seq hS), _, rfl, (by omega), (by rw [vI_len]; omega), ?_⟩
    rw [Int.toNat_natCast, vI_len]
    refine for_range (lo := 0) (n := ns.length) (fun i σ H2 => ∃ (ks : List Int) (v1 v2 v3 : Option V), σ = [some (.ref a), some (.int (m : Int)), some (.int f), some (.ref q), v1, v2, v3] ∧ Same H H2 ∧ H2 q = some (.lst (vI ks)) ∧ ks.length = m)
      ⟨_, none, none, none, rfl, s2, upd_same, by rw [List.length_replicate]⟩ ?_ ?_
    · rintro i σ H2 hi ⟨ks, v1, v2, v3, rfl, s3, hq2, hkl⟩
      have hix : (0 + (i : Int)) % (m : Int) = ((i % m : Nat) : Int) := by rw [Int.zero_add]; omega
      have hlt : i % m < ks.length := by rw [hkl]; exact Nat.mod_lt _ (by omega)
      have e1 : (vI ks)[((0 + (i : Int)) % (m : Int)).toNat]? = some (.int ks[i % m]) := by
        rw [hix, Int.toNat_natCast]
        exact vI_get (List.getElem?_eq_getElem hlt)
      have e2 : (vI ns)[(0 + (i : Int)).toNat]? = some (.int ns[i]) := by
        rw [Int.zero_add, Int.toNat_natCast]
        exact vI_get (List.getElem?_eq_getElem hi)
      have n1 : 0 ≤ (0 + (i : Int)) % (m : Int) := by rw [hix]; omega
      refine ⟨_, rfl, _, rfl, _, _, rfl, rfl, (by show (0 : Int) < m; omega), ?_⟩
      refine ⟨_, rfl, _, rfl, _, _, _, _, rfl, rfl, SqL.of hq2, atI_of n1 e1, _, rfl, _, _, rfl, rfl, .inr ⟨by omega, by omega⟩, ?_⟩
      refine ⟨_, rfl, _, rfl, _, _, _, _, rfl, rfl, s3.seq hS, atI_of (by omega) e2, _, _, rfl, rfl, ?_⟩
      refine ⟨_, rfl, _, _, rfl, rfl, (by show (0 : Int) < 1099511627776; decide), ?_⟩
      refine ⟨_, rfl, _, rfl, _, _, _, _, rfl, rfl, hq2, ixN_of n1 (by rw [vI_len, hkl, hix]; omega), ?_⟩
      rw [vI_set]
      exact ⟨_, _, _, _, rfl, s3.over nq, upd_same, by rw [List.length_set]; exact hkl⟩
    · rintro σ H2 ⟨ks, v1, v2, v3, rfl, s3, hq2, hkl⟩
      exact ⟨_, rfl, k q ks H2 s3 nq hq2 hkl⟩

def sp_levels (K : PySem.W.Frag) : Sp := fun vs H Q _ => ∃ (a : Addr) (ns : List Int) (m : Nat) (y : Int), vs = [.ref a, .int (m : Int), .int y] ∧ SqL K H a (vI ns) ∧ m ≤ 1000 ∧ 0 < y ∧
  ∀ (l : Addr) (ks : List Int) (H' : Hp), Same H H' → H l = none → H' l = some (.lst (vI ks)) → ks.length = m → Q (.ref l) H'
theorem ok_law_levels (T : Txt K mg t) : FnOk P w K mg base CX0 2 t.f_law_levels t.d_law_levels ["script", "strands", "many"] (sp_levels K) := by
  have G_law_at : FnOk P w K mg base CX0 1 t.f_law_at t.d_law_at _ _ := ok_law_at T
  refine T.law_levels.F.ok sc_law_levels (fun vs H Q E h => ?_) (fun cdv A outer s H vs Q E hr h => ?_)
  · obtain ⟨a, ns, m, y, rfl, _⟩ := h
    rfl
  · obtain ⟨a, ns, m, y, rfl, hS, hm, hy, k⟩ := h
    have hsz : sizeLine = 16777216 := sizeLine_eq
    refine ⟨_, (pss_cons (ps_set (i := 3) sc_law_levels.nd rfl (Or.inl rfl) (pe_op op_mod (pe_op op_add (pe_call (G_law_at.mono (by decide)) hr rfl T.law_at.m T.law_at.F.kp T.law_at.b .nil pass0 (pa_cons (pv 0) (pa_cons pe_int pa_nil))) pe_int) pe_int))
      (pss_cons (ps_set (i := 4) sc_law_levels.nd rfl (Or.inl rfl) (pe_lst pa_nil))
      (pss_cons (ps_for PassesOwn.never rfl (pi_range1 rfl T.b_range (pa_cons (pv 1) pa_nil)) (pg_name (i := 5) sc_law_levels.nd rfl (Or.inl rfl))
        (pss_cons (ps_set (i := 3) sc_law_levels.nd rfl (Or.inl rfl) (pe_op op_mod (pe_op op_add (pe_op op_mul (pv 3) pe_int) pe_int) pe_int))
        (pss_one (ps_expr (pe_bmK (K := K) PySem.F.plainAttrs_list PySem.F.slot_list_append PySem.F.type_list_append mt_append (pv 4) (pa_cons (pe_op op_mod (pe_op op_fdiv (pv 3) pe_int) (pv 2)) pa_nil))))))
      (pss_one (ps_ret (pv 4)))))), ?_⟩
    refine ⟨_, rfl, a, ns, 3, rfl, hS, by decide, fun c => ?_⟩
    refine ⟨_, _, rfl, rfl, _, _, rfl, rfl, (by show (0 : Int) < 2147483647; decide), ?_⟩
    refine ⟨Nat.zero_le _, fun q hq => ?_⟩
    refine ⟨_, rfl, _, rfl, (by omega), (by omega), ?_⟩
    rw [Int.toNat_natCast]
    refine for_range (lo := 0) (n := m) (fun i σ H2 => ∃ (z : Int) (ks : List Int) (v1 : Option V), σ = [some (.ref a), some (.int (m : Int)), some (.int y), some (.int z), some (.ref q), v1] ∧ Same H H2 ∧ H2 q = some (.lst (vI ks)) ∧ ks.length = i)
      ⟨_, [], none, rfl, .upd hq, upd_same, rfl⟩ ?_ ?_
    · rintro i σ H2 hi ⟨z, ks, v1, rfl, s2, hq2, hkl⟩
      refine ⟨_, rfl, _, _, rfl, rfl, .inr ⟨by decide, by decide⟩, _, _, rfl, rfl, _, _, rfl, rfl, (by show (0 : Int) < 2147483647; decide), ?_⟩
      refine ⟨_, rfl, .inl ⟨rfl, _, SqL.of hq2⟩, _, rfl, _, _, rfl, rfl, ⟨by decide, by decide⟩, _, rfl, _, _, rfl, rfl, hy, _, _, _, rfl, rfl, hq2, (by rw [vI_len, hkl]; omega), ?_⟩
      rw [vI_app]
      exact ⟨_, _, _, rfl, s2.over hq, upd_same, by rw [List.length_append, hkl]; rfl⟩
    · rintro σ H2 ⟨z, ks, v1, rfl, s2, hq2, hkl⟩
      exact ⟨_, rfl, k q ks H2 s2 hq hq2 hkl⟩

theorem dot_at (b : Bool) : atI ((".#" : Str)).cps.toList (if b = true then 1 else 0) = some (if b = true then 35 else 46) := by cases b <;> decide +kernel
theorem sg_b (b : Bool) : Sg (if b = true then 35 else 46) := by cases b <;> unfold Sg <;> simp
theorem sg_add {u : List Nat} {c : Nat} (h : ∀ d ∈ u, Sg d) (hc : Sg c) : ∀ d ∈ u ++ [c], Sg d := fun d hd => by
  rcases List.mem_append.mp hd with h1 | h1
  · exact h d h1
  · rw [List.mem_singleton.mp h1]; exact hc
def sp_text : Sp := fun vs H Q _ => ∃ (z : Int) (p m : Nat) (l : Addr) (ks : List Int), vs = [.int z, .int (p : Int), .int (m : Int), .ref l] ∧ H l = some (.lst (vI ks)) ∧ m + p < ks.length ∧ m ≤ 40 ∧
  ∀ u : List Nat, u.length = m → (∀ c ∈ u, Sg c) → Q (.str (tx u)) H
theorem ok_law_text (T : Txt K mg t) : FnOk P w K mg base CX0 1 t.f_law_text t.d_law_text ["number", "pick", "ends", "levels"] sp_text := by
  refine T.law_text.F.ok sc_law_text (fun vs H Q E h => ?_) (fun cdv A outer s H vs Q E hr h => ?_)
  · obtain ⟨z, p, m, l, ks, rfl, _⟩ := h
    rfl
  · obtain ⟨z, p, m, l, ks, rfl, hl, hp, hm, k⟩ := h
    have hsz : sizeLine = 16777216 := sizeLine_eq
    refine ⟨_, (pss_cons (ps_set (i := 4) sc_law_text.nd rfl (Or.inl rfl) pe_str)
      (pss_cons (ps_for PassesOwn.never rfl (pi_range1 rfl T.b_range (pa_cons (pv 2) pa_nil)) (pg_name (i := 5) sc_law_text.nd rfl (Or.inl rfl))
        (pss_cons (ps_set (i := 6) sc_law_text.nd rfl (Or.inl rfl) (pe_cmpR op_eq (pe_op op_mod (pv 0) pe_int) pe_int (nomark _)))
        (pss_cons (ps_if (pt_cmpR op_ne (pe_ix (ix_listK (K := K)) (pv 3) (pv 5) (fun _ _ => rfl)) (pe_ix (ix_listK (K := K)) (pv 3) (pe_op op_add (pv 2) (pv 1)) (fun _ _ => rfl)) (nomark _))
          (pss_one (ps_set (i := 6) sc_law_text.nd rfl (Or.inl rfl) (pe_cmpR op_lt (pe_ix (ix_listK (K := K)) (pv 3) (pv 5) (fun _ _ => rfl)) (pe_ix (ix_listK (K := K)) (pv 3) (pe_op op_add (pv 2) (pv 1)) (fun _ _ => rfl)) (nomark _))))
          pss_nil)
        (pss_cons (ps_set (i := 4) sc_law_text.nd rfl (Or.inl rfl) (pe_op op_add_str (pv 4) (pe_ix ix_str pe_str (pe_callTy call_int1 rfl T.b_int bt_int (pa_cons (pv 6) pa_nil)) (fun _ _ => rfl))))
        (pss_one (ps_set (i := 0) sc_law_text.nd rfl (Or.inl rfl) (pe_op op_fdiv (pv 0) pe_int)))))))
      (pss_one (ps_ret (pv 4))))), ?_⟩
    refine ⟨_, rfl, _, rfl, (by omega), (by omega), ?_⟩
    rw [Int.toNat_natCast]
    refine for_range (lo := 0) (n := m) (fun i σ H2 => ∃ (z : Int) (u : List Nat) (v1 v2 : Option V), σ = [some (.int z), some (.int (p : Int)), some (.int (m : Int)), some (.ref l), some (.str (tx u)), v1, v2] ∧ H2 = H ∧ u.length = i ∧ ∀ c ∈ u, Sg c)
      ⟨z, [], none, none, by rw [show (("" : Str)) = tx [] from by decide +kernel]; rfl, rfl, rfl, fun _ h => absurd h (by simp)⟩ ?_ ?_
    · rintro i σ H2 hi ⟨z, u, v1, v2, rfl, rfl, hul, hus⟩
      have e1 : atI (vI ks) (0 + (i : Int)) = some (.int ks[i]) := atI_of (by omega) (by rw [z0]; exact vI_get (List.getElem?_eq_getElem (by omega)))
      have e2 : atI (vI ks) ((m : Int) + (p : Int)) = some (.int ks[m + p]) := atI_of (by omega) (by rw [show ((m : Int) + (p : Int)).toNat = m + p by omega]; exact vI_get (List.getElem?_eq_getElem hp))
      have sm : ∀ c : Nat, (tx u).length + (⟨#[c]⟩ : Str).length ≤ sizeLine := fun c => by
        rw [tx_len, tx_one, tx_len, hul]
        show i + 1 ≤ sizeLine
        omega
      refine ⟨_, rfl, _, _, rfl, rfl, (by show (0 : Int) < 2; decide), rfl, ?_⟩
      refine ⟨_, rfl, _, rfl, _, _, _, _, rfl, rfl, SqL.of hl, e1, _, rfl, _, rfl, _, rfl, _, _, rfl, rfl, _, _, _, _, rfl, rfl, SqL.of hl, e2, rfl, _, rfl, ?_⟩
      refine iteB (fun _ => ?_) (fun _ => ?_)
      · refine ⟨_, rfl, _, rfl, _, _, _, _, rfl, rfl, SqL.of hl, e1, _, rfl, _, rfl, _, rfl, _, _, rfl, rfl, _, _, _, _, rfl, rfl, SqL.of hl, e2, _, _, rfl, rfl, ?_⟩
        refine ⟨_, rfl, _, rfl, .inr ⟨_, rfl, _, _, _, rfl, rfl, (by decide +kernel), dot_at _, _, _, rfl, rfl, sm _, ?_⟩⟩
        rw [tx_one, tx_app]
        refine ⟨_, rfl, _, _, rfl, rfl, ⟨by decide, by decide⟩, ?_⟩
        exact ⟨_, _, _, _, rfl, rfl, by rw [List.length_append, hul]; rfl, sg_add hus (sg_b _)⟩
      · refine ⟨_, rfl, _, rfl, .inr ⟨_, rfl, _, _, _, rfl, rfl, (by decide +kernel), dot_at _, _, _, rfl, rfl, sm _, ?_⟩⟩
        rw [tx_one, tx_app]
        refine ⟨_, rfl, _, _, rfl, rfl, ⟨by decide, by decide⟩, ?_⟩
        exact ⟨_, _, _, _, rfl, rfl, by rw [List.length_append, hul]; rfl, sg_add hus (sg_b _)⟩
    · rintro σ H2 ⟨z, u, v1, v2, rfl, rfl, hul, hus⟩
      exact ⟨_, rfl, k u hul hus⟩

theorem pick3 {z : Int} (h0 : 0 ≤ z) (h3 : z < 3) : ∃ f : Int, atI [V.int 1, V.int 3, V.int 48271] z = some (.int f) ∧ 0 ≤ f ∧ f ≤ 48271 := by
  have : z = 0 ∨ z = 1 ∨ z = 2 := by omega
  rcases this with e | e | e <;> subst e
  · exact ⟨1, rfl, by decide, by decide⟩
  · exact ⟨3, rfl, by decide, by decide⟩
  · exact ⟨48271, rfl, by decide, by decide⟩
theorem one_of (c : Int) {z : Int} (hz : 0 < z) {y : Nat} (hz2 : z ≤ (y : Int)) : ∃ m : Nat, 1 + c % z = (m : Int) ∧ 1 ≤ m ∧ m ≤ y := by
  have h1 := Int.emod_nonneg c (show z ≠ 0 by omega)
  have h2 := Int.emod_lt_of_pos c hz
  exact ⟨(1 + c % z).toNat, by omega, by omega, by omega⟩
def sp_cloth (K : PySem.W.Frag) : Sp := fun vs H Q _ => ∃ (a : Addr) (ns : List Int), vs = [.ref a] ∧ SqL K H a (vI ns) ∧ ns.length ≤ 63 ∧
  ∀ (l : Addr) (cl : List (List Nat)) (m n : Nat) (H' : Hp), Same H H' → H l = none → H' l = some (.lst (vS cl)) → Cl cl m n → m ≤ 7 → n ≤ 7 → Q (.ref l) H'
theorem ok_law_cloth (T : Txt K mg t) : FnOk P w K mg base CX0 3 t.f_law_cloth t.d_law_cloth ["script"] (sp_cloth K) := by
  have G_law_at : FnOk P w K mg base CX0 1 t.f_law_at t.d_law_at _ _ := ok_law_at T
  have G_law_numbers : FnOk P w K mg base CX0 1 t.f_law_numbers t.d_law_numbers _ _ := ok_law_numbers T
  have G_law_levels : FnOk P w K mg base CX0 2 t.f_law_levels t.d_law_levels _ _ := ok_law_levels T
  have G_law_text : FnOk P w K mg base CX0 1 t.f_law_text t.d_law_text _ _ := ok_law_text T
  refine T.law_cloth.F.ok sc_law_cloth (fun vs H Q E h => ?_) (fun cdv A outer s H vs Q E hr h => ?_)
  · obtain ⟨a, ns, rfl, _⟩ := h
    rfl
  · obtain ⟨a, ns, rfl, hS, hl, k⟩ := h
    have hsz : sizeLine = 16777216 := sizeLine_eq
    refine ⟨_, (pss_cons (ps_set (i := 1) sc_law_cloth.nd rfl (Or.inr rfl) (pe_op op_add pe_int (pe_op op_mod (pe_call (G_law_at.mono (by decide)) hr rfl T.law_at.m T.law_at.F.kp T.law_at.b .nil pass0 (pa_cons (pv 0) (pa_cons pe_int pa_nil))) pe_int)))
      (pss_cons (ps_set (i := 2) sc_law_cloth.nd rfl (Or.inl rfl) (pe_op op_add pe_int (pe_op op_mod (pe_call (G_law_at.mono (by decide)) hr rfl T.law_at.m T.law_at.F.kp T.law_at.b .nil pass0 (pa_cons (pv 0) (pa_cons pe_int pa_nil))) pe_int)))
      (pss_cons (ps_set (i := 3) sc_law_cloth.nd rfl (Or.inl rfl) (pe_ix (ix_listK (K := K)) (pe_lst (pa_cons pe_int (pa_cons pe_int (pa_cons pe_int pa_nil)))) (pe_op op_mod (pe_op op_fdiv (pe_call (G_law_at.mono (by decide)) hr rfl T.law_at.m T.law_at.F.kp T.law_at.b .nil pass0 (pa_cons (pv 0) (pa_cons pe_int pa_nil))) pe_int) pe_int) (fun _ _ => rfl)))
      (pss_cons (ps_set (i := 4) sc_law_cloth.nd rfl (Or.inr rfl) (pe_call (G_law_numbers.mono (by decide)) hr rfl T.law_numbers.m T.law_numbers.F.kp T.law_numbers.b .nil pass0 (pa_cons (pv 0) (pa_cons (pv 2) (pa_cons (pv 3) pa_nil)))))
      (pss_cons (ps_set (i := 5) sc_law_cloth.nd rfl (Or.inr rfl) (pe_call (G_law_levels.mono (by decide)) hr rfl T.law_levels.m T.law_levels.F.kp T.law_levels.b .nil pass0 (pa_cons (pv 0) (pa_cons (pe_op op_add (pv 1) (pv 2)) (pa_cons (pe_op op_add pe_int (pe_op op_mod (pe_op op_fdiv (pe_call (G_law_at.mono (by decide)) hr rfl T.law_at.m T.law_at.F.kp T.law_at.b .nil pass0 (pa_cons (pv 0) (pa_cons pe_int pa_nil))) pe_int) pe_int)) pa_nil)))))
      (pss_one (ps_ret (pe_comp (CompOk.mk (caps := [1, 4, 5]) (Nc := ["j", "ends", "numbers", "levels"]) rfl (by decide +kernel) (by decide +kernel) (comp_fr (sc0 := defScope s_law_cloth) rfl (by decide +kernel)) rfl rfl rfl (by decide +kernel) (fun k j h => match k, h with | 0, h => by obtain rfl := Option.some.inj h; exact ⟨_, rfl, rfl, rfl⟩ | 1, h => by obtain rfl := Option.some.inj h; exact ⟨_, rfl, rfl, rfl⟩ | 2, h => by obtain rfl := Option.some.inj h; exact ⟨_, rfl, rfl, rfl⟩ | _ + 3, h => by simp at h)) rfl (pi_range1 rfl T.b_range (pa_cons (pv 2) pa_nil)) (fun _ _ _ _ _ => .nil) (fun _ _ _ _ _ => (pe_call (G_law_text.mono (by decide)) hr rfl T.law_text.m T.law_text.F.kp T.law_text.b .nil pass0 (pa_cons (pe_ix (ix_listK (K := K)) (pv 2) (pv 0) (fun _ _ => rfl)) (pa_cons (pv 0) (pa_cons (pv 1) (pa_cons (pv 3) pa_nil)))))))))))))), ?_⟩
    refine ⟨_, rfl, a, ns, 0, rfl, hS, by decide, fun c0 => ?_⟩
    refine ⟨_, _, rfl, rfl, (by show (0 : Int) < 7; decide), _, _, rfl, rfl, ?_⟩
    refine ⟨_, rfl, a, ns, 1, rfl, hS, by decide, fun c1 => ?_⟩
    refine ⟨_, _, rfl, rfl, (by show (0 : Int) < 7; decide), _, _, rfl, rfl, ?_⟩
    obtain ⟨m, em0, m1, m40⟩ := one_of c0 (z := 7) (by decide) (y := 7) (by decide)
    obtain ⟨n, en0, n1, n40⟩ := one_of c1 (z := 7) (by decide) (y := 7) (by decide)
    dsimp only
    rw [em0, en0]
    refine ⟨(by show 3 ≤ sizeLine; decide), fun p hp => ?_⟩
    have s1 : Same H (upd H p (.lst [.int 1, .int 3, .int 48271])) := .upd hp
    refine ⟨_, rfl, a, ns, 2, rfl, s1.seq hS, by decide, fun c2 => ?_⟩
    obtain ⟨f, ef, f0, f1⟩ := pick3 (z := c2 / 7 % 3) (Int.emod_nonneg _ (by decide)) (Int.emod_lt_of_pos _ (by decide))
    refine ⟨_, _, rfl, rfl, ⟨by decide, by decide⟩, _, _, rfl, rfl, (by show (0 : Int) < 3; decide), _, _, _, _, rfl, rfl, SqL.of upd_same, ef, ?_⟩
    refine ⟨_, rfl, _, rfl, _, rfl, a, ns, n, f, rfl, s1.seq hS, hl, n1, by omega, f0, f1, fun ln ks H2 s2 nln hln hkl => ?_⟩
    have u2 := s1.trans s2
    refine ⟨_, rfl, _, rfl, _, rfl, _, _, rfl, rfl, _, rfl, a, ns, 2, rfl, u2.seq hS, by decide, fun c3 => ?_⟩
    refine ⟨_, _, rfl, rfl, ⟨by decide, by decide⟩, _, _, rfl, rfl, (by show (0 : Int) < 4; decide), _, _, rfl, rfl, ?_⟩
    refine ⟨a, ns, m + n, 1 + c3 / 21 % 4, (by rw [Int.natCast_add]; rfl), u2.seq hS, by omega, ?_, fun ll ls H3 s3 nll hll hlsl => ?_⟩
    · have := Int.emod_nonneg (c3 / 21) (show (4 : Int) ≠ 0 by decide)
      omega
    have u3 := u2.trans s3
    refine ⟨_, rfl, _, rfl, (by omega), (by omega), ?_⟩
    rw [Int.toNat_natCast]
    refine comp_range (lo := 0) (n := n) (fun i ys H4 => H4 = H3 ∧ ∃ cl : List (List Nat), ys = vS cl ∧ cl.length = i ∧ (∀ t ∈ cl, t.length = m) ∧ ∀ t ∈ cl, ∀ c ∈ t, Sg c) ⟨rfl, [], rfl, rfl, fun _ h => absurd h (by simp), fun _ h => absurd h (by simp)⟩ ?_ ?_ ?_ ?_
    · rintro i ys H4 hi ⟨rfl, cl, rfl, hcl, _⟩
      rw [vS_len, hcl]
      exact Nat.le_refl _
    · omega
    · rintro i ys H4 hi ⟨rfl, cl, rfl, hcl, hcm, hcs⟩
      refine CTurn.no ?_
      have e1 : atI (vI ks) (0 + (i : Int)) = some (.int ks[i]) := atI_of (by omega) (by rw [z0]; exact vI_get (List.getElem?_eq_getElem (by omega)))
      refine ⟨_, rfl, _, rfl, _, _, _, _, rfl, rfl, SqL.of (s3 _ _ hln), e1, _, rfl, _, rfl, _, rfl, _, i, m, ll, ls, (by rw [Int.zero_add] <;> rfl), hll, by omega, by omega, fun u hu hus => ?_⟩
      refine CN.of hi ⟨rfl, cl ++ [u], vS_app _ _, by rw [List.length_append, hcl]; rfl, fun t ht => ?_, fun t ht => ?_⟩
      · rcases List.mem_append.mp ht with h | h
        · exact hcm t h
        · rw [List.mem_singleton.mp h]; exact hu
      · rcases List.mem_append.mp ht with h | h
        · exact hcs t h
        · rw [List.mem_singleton.mp h]; exact hus
    · rintro ys H4 q ⟨rfl, cl, rfl, hcl, hcm, hcs⟩ hq
      exact k q cl m n _ (u3.new hq) (u3.free hq) upd_same ⟨hcl, hcm, hcs, m1, by omega, n1, by omega⟩ m40 n40
def sp_scores (K : PySem.W.Frag) : Sp := fun vs H Q _ => ∃ (a : Addr) (cl : List (List Nat)) (m n : Nat), vs = [.ref a] ∧ SqL K H a (vS cl) ∧ Cl cl m n ∧ ∀ l H', Same H H' → H l = none → H' l = some (.lst (vI (scores cl m))) → Q (.ref l) H'
theorem ok_scores_of (T : Txt K mg t) : FnOk P w K mg base CX0 4 t.f_scores_of t.d_scores_of ["cloth"] (sp_scores K) := by
  have G_measured : FnOk P w K mg base CX0 3 t.f_measured t.d_measured _ _ := ok_measured T
  have G_end_signs : FnOk P w K mg base CX0 1 t.f_end_signs t.d_end_signs _ _ := ok_end_signs T
  refine T.scores_of.F.ok sc_scores_of (fun vs H Q E h => ?_) (fun cdv A outer s H vs Q E hr h => ?_)
  · obtain ⟨a, cl, m, n, rfl, _⟩ := h
    rfl
  · obtain ⟨a, cl, m, n, rfl, hS, C, k⟩ := h
    have c2 := C.n40
    have c4 := C.m40
    refine ⟨_, (pss_cons (ps_set (i := 1) sc_scores_of.nd rfl (Or.inl rfl) (pe_call (G_measured.mono (by decide)) hr rfl T.measured.m T.measured.F.kp T.measured.b .nil pass0 (pa_cons (pv 0) pa_nil)))
      (pss_cons (ps_setC (i := 2) (CompOk.mk (caps := [0]) (Nc := ["end", "cloth"]) rfl (by decide +kernel) (by decide +kernel) (comp_fr (sc0 := defScope s_scores_of) rfl (by decide +kernel)) rfl rfl rfl (by decide +kernel) (fun k j h => match k, h with | 0, h => by obtain rfl := Option.some.inj h; exact ⟨_, rfl, rfl, rfl⟩ | _ + 1, h => by simp at h)) rfl sc_scores_of.nd rfl rfl (pi_range1 rfl T.b_range (pa_cons (pe_ix (ix_tupK (K := K)) (pv 1) pe_int (fun _ _ => rfl)) pa_nil)) (fun _ _ _ _ _ => .nil) (fun _ _ _ _ _ => (pe_bmK (K := K) PySem.F.plainAttrs_str PySem.F.slot_str_count PySem.F.type_str_count mt_count (pe_call (G_end_signs.mono (by decide)) hr rfl T.end_signs.m T.end_signs.F.kp T.end_signs.b .nil pass0 (pa_cons (pv 1) (pa_cons (pv 0) pa_nil))) (pa_cons pe_str pa_nil))) rfl)
      (pss_one (ps_ret (pe_op op_cat (pv 2) (pe_comp (CompOk.mk (caps := []) (Nc := ["text"]) rfl (by decide +kernel) (by decide +kernel) (comp_fr (sc0 := defScope s_scores_of) rfl (by decide +kernel)) rfl rfl rfl (by decide +kernel) (fun _ _ h => by simp at h)) rfl (pi_listK (K := K) (pv 0)) (fun _ _ _ _ _ => .nil) (fun _ _ _ _ _ => (pe_bmK (K := K) PySem.F.plainAttrs_str PySem.F.slot_str_count PySem.F.type_str_count mt_count (pv 0) (pa_cons pe_str pa_nil))))))))), ?_⟩
    refine ⟨_, rfl, a, cl, m, n, rfl, hS, C, fun p hp => ?_⟩
    have s1 : Same H (upd H p (.tup [.int (m : Int), .int (n : Int)])) := .upd hp
    have gp : SqT K (upd H p (.tup [.int (m : Int), .int (n : Int)])) p [.int (m : Int), .int (n : Int)] := SqT.of upd_same
    refine ⟨_, rfl, _, _, _, _, rfl, rfl, gp, atI_of (by decide) rfl, _, rfl, (by omega), (by omega), ?_⟩
    rw [Int.toNat_natCast]
    refine comp_range (lo := 0) (n := m) (fun i ys H2 => Same H H2 ∧ ys = vI ((List.range i).map fun e => (((col cl e).count 35 : Nat) : Int))) ⟨s1, rfl⟩ ?_ ?_ ?_ ?_
    · rintro i ys H2 hi ⟨s2, rfl⟩
      rw [vI_len, List.length_map, List.length_range]
      exact Nat.le_refl _
    · exact small40 c4
    · rintro i ys H2 hi ⟨s2, rfl⟩
      refine CTurn.no ?_
      refine ⟨_, rfl, _, rfl, a, cl, m, n, i, (by rw [Int.zero_add] <;> rfl), s2.seq hS, C, hi, fun H3 s3 => ?_⟩
      refine ⟨rfl, col cl i, 35, rfl, (by rw [e35]), ?_⟩
      refine CN.of hi ⟨s2.trans s3, ?_⟩
      rw [vI_app, List.range_succ, List.map_append]
      rfl
    · rintro ys H2 q ⟨s2, rfl⟩ hq
      have s3 : Same H (upd H2 q (.lst (vI ((List.range m).map fun e => (((col cl e).count 35 : Nat) : Int))))) := s2.new hq
      refine ⟨_, rfl, _, rfl, _, rfl, ⟨_, s3.seq hS⟩, comp_list (K := K) (a := a) (xs := vS cl) (fun i ys H4 => H4 = upd H2 q (.lst (vI ((List.range m).map fun e => (((col cl e).count 35 : Nat) : Int)))) ∧ ys = vI ((cl.take i).map fun t => ((t.count 46 : Nat) : Int))) ⟨rfl, rfl⟩ ?_ ?_ ?_ ?_⟩
      · rintro i ys H4 hi ⟨rfl, rfl⟩
        refine ⟨s3.seq hS, ?_⟩
        rw [vI_len, List.length_map, List.length_take]
        omega
      · rw [vS_len, C.hn]; exact small40 c2
      · rintro i x ys H4 hi hx ⟨rfl, rfl⟩
        obtain ⟨t, ht, rfl⟩ := vS_got hx
        refine CTurn.no ?_
        refine ⟨_, rfl, rfl, t, 46, rfl, (by rw [e46]), ?_⟩
        refine CN.of hi ⟨rfl, ?_⟩
        rw [vI_app, List.take_add_one, ht, List.map_append]
        rfl
      · rintro ys H4 q2 ⟨rfl, rfl⟩ hq2
        rw [vS_len, List.take_length]
        have hq4 : (upd (upd H2 q (.lst (vI ((List.range m).map fun e => (((col cl e).count 35 : Nat) : Int))))) q2 (.lst (vI (cl.map fun t => ((t.count 46 : Nat) : Int))))) q = some (.lst (vI ((List.range m).map fun e => (((col cl e).count 35 : Nat) : Int)))) := (Same.upd hq2) _ _ upd_same
        refine ⟨_, _, _, _, rfl, rfl, hq4, upd_same, (by rw [vI_len, vI_len, List.length_map, List.length_map, List.length_range, C.hn, sizeLine_eq]; omega), fun l hl => ?_⟩
        have e : vI ((List.range m).map fun e => (((col cl e).count 35 : Nat) : Int)) ++ vI (cl.map fun t => ((t.count 46 : Nat) : Int)) = vI (scores cl m) := by
          unfold vI scores
          rw [List.map_append]
        rw [e]
        exact k l _ ((s3.new hq2).new hl) ((s3.new hq2).free hl) upd_same
end
end Mine

set_option Elab.async false
set_option linter.all false
set_option maxRecDepth 100000
set_option maxHeartbeats 4000000
namespace Mine
open PySem L2
section
variable {P : Program} {w : World} {K : PySem.W.Frag} {mg : Str → Option Value} {base : Heap} {t : Adr}
/-- a list of pairs of numbers -/
structure PL (H : Hp) (l : Addr) (ps : List Addr) (zs : List (Nat × Nat)) : Prop where
  h : H l = some (.lst (ps.map V.ref))
  len : ps.length = zs.length
  at_ : ∀ (i : Nat) (p : Addr) (z : Nat × Nat), ps[i]? = some p → zs[i]? = some z → H p = some (.tup [.int (z.1 : Int), .int (z.2 : Int)])
theorem PL.same {H H' : Hp} {l : Addr} {ps : List Addr} {zs : List (Nat × Nat)} (N : PL H l ps zs) (s : Same H H') : PL H' l ps zs := ⟨s _ _ N.h, N.len, fun i p z e1 e2 => s _ _ (N.at_ i p z e1 e2)⟩
theorem PL.app {H : Hp} {l tp : Addr} {ps : List Addr} {zs : List (Nat × Nat)} {z : Nat × Nat} (N : PL H l ps zs) (ht : H tp = some (.tup [.int (z.1 : Int), .int (z.2 : Int)])) :
    PL (upd H l (.lst (ps.map V.ref ++ [.ref tp]))) l (ps ++ [tp]) (zs ++ [z]) := by
  refine ⟨by rw [upd_same, List.map_append]; rfl, by rw [List.length_append, List.length_append, N.len]; rfl, fun i p y e1 e2 => ?_⟩
  have pl : H p = some (.tup [.int (y.1 : Int), .int (y.2 : Int)]) := by
    by_cases hi : i < ps.length
    · rw [List.getElem?_append_left hi] at e1
      rw [List.getElem?_append_left (by rw [← N.len]; exact hi)] at e2
      exact N.at_ i p y e1 e2
    · have hi2 := (List.getElem?_eq_some_iff.mp e1).1
      rw [List.length_append] at hi2
      have e : i = ps.length := by have : [tp].length = 1 := rfl; omega
      rw [e, List.getElem?_append_right (Nat.le_refl _), Nat.sub_self] at e1
      rw [e, N.len, List.getElem?_append_right (Nat.le_refl _), Nat.sub_self] at e2
      cases e1
      cases e2
      exact ht
  rw [upd_ne (fun e => by rw [e, N.h] at pl; cases pl)]
  exact pl
theorem PL.get {H : Hp} {l : Addr} {ps : List Addr} {zs : List (Nat × Nat)} (N : PL H l ps zs) {i : Nat} {z : Nat × Nat} (h : zs[i]? = some z) : ∃ p, (ps.map V.ref)[i]? = some (.ref p) ∧ H p = some (.tup [.int (z.1 : Int), .int (z.2 : Int)]) := by
  have hi : i < ps.length := by rw [N.len]; exact (List.getElem?_eq_some_iff.mp h).1
  exact ⟨ps[i], by rw [List.getElem?_map, List.getElem?_eq_getElem hi]; rfl, N.at_ i _ z (List.getElem?_eq_getElem hi) h⟩
theorem cutI_to {ks : List Int} {k : Nat} (h : k ≤ ks.length) : cutV (vI ks) none (some (k : Int)) = vI (ks.take k) := by
  unfold cutV
  rw [HT.sIx_none, HT.sIx_nat, List.drop_zero, vI_len, Nat.min_eq_left h, Nat.sub_zero]
  unfold vI
  rw [List.map_take]
theorem cutI_from {ks : List Int} {k : Nat} (h : k ≤ ks.length) : cutV (vI ks) (some (k : Int)) none = vI (ks.drop k) := by
  unfold cutV
  have e1 : HT.sIx (vI ks).length 0 (some (k : Int)) = k := by rw [HT.sIx_nat, vI_len, Nat.min_eq_left h]
  have e2 : HT.sIx (vI ks).length (vI ks).length none = (vI ks).length := rfl
  rw [e1, e2]
  unfold vI
  rw [← List.map_drop]
  exact List.take_of_length_le (by rw [List.length_map, List.length_map, List.length_drop]; omega)
def sp_tops (K : PySem.W.Frag) : Sp := fun vs H Q _ => ∃ (a : Addr) (cl : List (List Nat)) (m n : Nat), vs = [.ref a] ∧ SqL K H a (vS cl) ∧ Cl cl m n ∧
  ∀ l H' ps dA dB, Same H H' → H l = none → dA.Perm (eS cl m) → dB.Perm (pS cl) → dA.Pairwise (· ≥ ·) → dB.Pairwise (· ≥ ·) → PL H' l ps (allT (Pz m n dA dB) n (m + 1)) → Q (.ref l) H'
theorem ok_tops_of (T : Txt K mg t) : FnOk P w K mg base CX0 5 t.f_tops_of t.d_tops_of ["cloth"] (sp_tops K) := by
  have G_measured : FnOk P w K mg base CX0 3 t.f_measured t.d_measured _ _ := ok_measured T
  have G_scores_of : FnOk P w K mg base CX0 4 t.f_scores_of t.d_scores_of _ _ := ok_scores_of T
  refine T.tops_of.F.ok sc_tops_of (fun vs H Q E h => ?_) (fun cdv A outer s H vs Q E hr h => ?_)
  · obtain ⟨a, cl, m, n, rfl, _⟩ := h
    rfl
  · obtain ⟨a, cl, m, n, rfl, hS, C, k⟩ := h
    have c2 := C.n40
    have c4 := C.m40
    have hsz : sizeLine = 16777216 := sizeLine_eq
    refine ⟨_, (pss_cons (ps_set (i := 1) sc_tops_of.nd rfl (Or.inl rfl) (pe_call (G_measured.mono (by decide)) hr rfl T.measured.m T.measured.F.kp T.measured.b .nil pass0 (pa_cons (pv 0) pa_nil)))
      (pss_cons (ps_set (i := 2) sc_tops_of.nd rfl (Or.inl rfl) (pe_call (G_scores_of.mono (by decide)) hr rfl T.scores_of.m T.scores_of.F.kp T.scores_of.b .nil pass0 (pa_cons (pv 0) pa_nil)))
      (pss_cons (ps_set (i := 3) sc_tops_of.nd rfl (Or.inl rfl) (pe_sortR (K := K) rfl T.b_sorted (pe_slice (sl_listK (K := K)) (pv 2) po_none (po_some (pe_ix (ix_tupK (K := K)) (pv 1) pe_int (fun _ _ => rfl))))))
      (pss_cons (ps_set (i := 4) sc_tops_of.nd rfl (Or.inl rfl) (pe_sortR (K := K) rfl T.b_sorted (pe_slice (sl_listK (K := K)) (pv 2) (po_some (pe_ix (ix_tupK (K := K)) (pv 1) pe_int (fun _ _ => rfl))) po_none)))
      (pss_cons (ps_set (i := 5) sc_tops_of.nd rfl (Or.inl rfl) (pe_lst pa_nil))
      (pss_cons (ps_for PassesOwn.never rfl (pi_range1 rfl T.b_range (pa_cons (pe_op op_add (pe_ix (ix_tupK (K := K)) (pv 1) pe_int (fun _ _ => rfl)) pe_int) pa_nil)) (pg_name (i := 6) sc_tops_of.nd rfl (Or.inl rfl))
        (pss_one (ps_for PassesOwn.never rfl (pi_range1 rfl T.b_range (pa_cons (pe_op op_add (pe_ix (ix_tupK (K := K)) (pv 1) pe_int (fun _ _ => rfl)) pe_int) pa_nil)) (pg_name (i := 7) sc_tops_of.nd rfl (Or.inl rfl))
          (pss_cons (ps_set (i := 8) sc_tops_of.nd rfl (Or.inl rfl) (pe_op op_sub (pe_op op_add (pe_op op_mul (pv 6) (pe_ix (ix_tupK (K := K)) (pv 1) pe_int (fun _ _ => rfl))) (pe_op op_mul (pv 7) (pe_ix (ix_tupK (K := K)) (pv 1) pe_int (fun _ _ => rfl)))) (pe_op op_mul (pv 6) (pv 7))))
          (pss_one (ps_if (pt_cmpR op_eq (pe_op op_add (pe_callB (call_sumI (K := K)) rfl T.b_sum bt_sum (pa_cons (pe_slice (sl_listK (K := K)) (pv 3) po_none (po_some (pv 6))) pa_nil)) (pe_callB (call_sumI (K := K)) rfl T.b_sum bt_sum (pa_cons (pe_slice (sl_listK (K := K)) (pv 4) po_none (po_some (pv 7))) pa_nil))) (pv 8) (nomark _))
            (pss_one (ps_expr (pe_bmK (K := K) PySem.F.plainAttrs_list PySem.F.slot_list_append PySem.F.type_list_append mt_append (pv 5) (pa_cons (pe_tup (pa_cons (pv 6) (pa_cons (pv 7) pa_nil))) pa_nil))))
            pss_nil))))))
      (pss_one (ps_ret (pv 5))))))))), ?_⟩
    refine ⟨_, rfl, a, cl, m, n, rfl, hS, C, fun p hp => ?_⟩
    have s1 : Same H (upd H p (.tup [.int (m : Int), .int (n : Int)])) := .upd hp
    have gp1 : (upd H p (.tup [.int (m : Int), .int (n : Int)])) p = some (.tup [.int (m : Int), .int (n : Int)]) := upd_same
    refine ⟨_, rfl, a, cl, m, n, rfl, s1.seq hS, C, fun lf H2 s2 nlf hlf => ?_⟩
    have gp2 := s2 _ _ gp1
    have u2 := s1.trans s2
    have lsc : (scores cl m).length = m + n := by rw [scores_len, C.hn]
    refine ⟨_, rfl, _, rfl, _, _, _, _, rfl, rfl, SqT.of gp2, atI_of (by decide) rfl, _, rfl, _, _, rfl, SqL.of hlf, fun q1 hq1 => ?_⟩
    rw [cutI_to (by omega), scores_take]
    refine ⟨_, _, rfl, SqL.of upd_same, (by rw [eS_len]; omega), fun le dA pA decA hle => ?_⟩
    have u3 : Same H (upd (upd H2 q1 (.lst (vI (eS cl m)))) le (.lst (vI dA))) := (u2.new hq1).new hle
    have s3 : Same H2 (upd (upd H2 q1 (.lst (vI (eS cl m)))) le (.lst (vI dA))) := (Same.upd hq1).new hle
    have gle3 : (upd (upd H2 q1 (.lst (vI (eS cl m)))) le (.lst (vI dA))) le = some (.lst (vI dA)) := upd_same
    generalize hH3 : upd (upd H2 q1 (.lst (vI (eS cl m)))) le (.lst (vI dA)) = H3 at u3 s3 gle3 ⊢
    refine ⟨_, rfl, _, rfl, _, _, _, _, rfl, rfl, SqT.of (s3 _ _ gp2), atI_of (by decide) rfl, _, rfl, _, _, rfl, SqL.of (s3 _ _ hlf), fun q2 hq2 => ?_⟩
    rw [cutI_from (by omega), scores_drop]
    refine ⟨_, _, rfl, SqL.of upd_same, (by rw [pS_len, C.hn]; omega), fun lp dB pB decB hlp => ?_⟩
    have s4 : Same H3 (upd (upd H3 q2 (.lst (vI (pS cl)))) lp (.lst (vI dB))) := (Same.upd hq2).new hlp
    have glp4 : (upd (upd H3 q2 (.lst (vI (pS cl)))) lp (.lst (vI dB))) lp = some (.lst (vI dB)) := upd_same
    generalize hH4 : upd (upd H3 q2 (.lst (vI (pS cl)))) lp (.lst (vI dB)) = H4 at s4 glp4 ⊢
    have u4 := u3.trans s4
    have gp4 := s4 _ _ (s3 _ _ gp2)
    have gle4 := s4 _ _ gle3
    have dAl : dA.length = m := by rw [pA.length_eq, eS_len]
    have dBl : dB.length = n := by rw [pB.length_eq, pS_len, C.hn]
    refine ⟨Nat.zero_le _, fun lt hlt => ?_⟩
    have nlt := u4.free hlt
    have pl0 : PL (upd H4 lt (.lst [])) lt [] (allT (Pz m n dA dB) n 0) := ⟨upd_same, rfl, fun i p z e => by simp at e⟩
    refine ⟨_, rfl, _, _, _, _, rfl, rfl, SqT.of ((Same.upd hlt) _ _ gp4), atI_of (by decide) rfl, _, _, rfl, rfl, _, rfl, (by omega), (by omega), ?_⟩
    rw [show ((m : Int) + 1).toNat = m + 1 by omega]
    refine for_range (lo := 0) (n := m + 1) (fun i σ H5 => ∃ (ps : List Addr) (v6 v7 v8 : Option V), σ = [some (.ref a), some (.ref p), some (.ref lf), some (.ref le), some (.ref lp), some (.ref lt), v6, v7, v8] ∧ Same H4 H5 ∧ PL H5 lt ps (allT (Pz m n dA dB) n i))
      ⟨[], none, none, none, rfl, .upd hlt, pl0⟩ ?_ ?_
    · rintro i σ H5 hi ⟨ps, v6, v7, v8, rfl, s5, N5⟩
      refine ⟨_, rfl, _, _, _, _, rfl, rfl, SqT.of (s5 _ _ gp4), atI_of (by decide) rfl, _, _, rfl, rfl, _, rfl, (by omega), (by omega), ?_⟩
      rw [show ((n : Int) + 1).toNat = n + 1 by omega]
      refine for_range (lo := 0) (n := n + 1) (fun j σ H6 => ∃ (ps : List Addr) (v7 v8 : Option V), σ = [some (.ref a), some (.ref p), some (.ref lf), some (.ref le), some (.ref lp), some (.ref lt), some (.int (0 + (i : Int))), v7, v8] ∧ Same H4 H6 ∧ PL H6 lt ps (allT (Pz m n dA dB) n i ++ rowT (Pz m n dA dB) i j))
        ⟨ps, v7, v8, rfl, s5, by rw [show rowT (Pz m n dA dB) i 0 = [] from rfl, List.append_nil]; exact N5⟩ ?_ ?_
      · rintro j σ H6 hj ⟨ps6, w7, w8, rfl, s6, N6⟩
        have gp6 := s6 _ _ gp4
        refine ⟨_, rfl, _, rfl, _, _, _, _, rfl, rfl, SqT.of gp6, atI_of (by decide) rfl, _, _, rfl, rfl, .inl ⟨by omega, by omega⟩, _, rfl, _, rfl, _, _, _, _, rfl, rfl, SqT.of gp6, atI_of (by decide) rfl, _, _, rfl, rfl, .inl ⟨by omega, by omega⟩, _, _, rfl, rfl, _, rfl, _, rfl, _, _, rfl, rfl, .inl ⟨by omega, by omega⟩, _, _, rfl, rfl, ?_⟩
        refine ⟨_, rfl, _, rfl, _, rfl, _, _, rfl, SqL.of (s6 _ _ gle4), fun c1 hc1 => ?_⟩
        rw [show (0 : Int) + (i : Int) = (i : Int) by omega, cutI_to (by omega)]
        refine ⟨_, _, rfl, SqL.of upd_same, ?_⟩
        have s7 : Same H6 (upd H6 c1 (.lst (vI (dA.take i)))) := .upd hc1
        refine ⟨_, rfl, _, rfl, _, rfl, _, _, rfl, SqL.of (s7 _ _ (s6 _ _ glp4)), fun c2 hc2 => ?_⟩
        rw [show (0 : Int) + (j : Int) = (j : Int) by omega, cutI_to (by omega)]
        have s8 : Same H6 (upd (upd H6 c1 (.lst (vI (dA.take i)))) c2 (.lst (vI (dB.take j)))) := s7.new hc2
        refine ⟨_, _, rfl, SqL.of upd_same, _, _, rfl, rfl, _, rfl, rfl, _, rfl, ?_⟩
        have N8 := N6.same s8
        have u8 := s6.trans s8
        generalize hH8 : upd (upd H6 c1 (.lst (vI (dA.take i)))) c2 (.lst (vI (dB.take j))) = H8 at s8 N8 u8 ⊢
        have len8 : (ps6.map V.ref).length < sizeLine := by
          have q1 := allT_len (Pz m n dA dB) n i
          have q2 := rowT_len (Pz m n dA dB) i j
          have q3 : i * (n + 1) ≤ 41 * 41 := Nat.mul_le_mul (by omega) (by omega)
          have q4 := N6.len
          rw [List.length_append] at q4
          rw [List.length_map]
          omega
        refine ite2D (fun h => ?_) (fun h => ?_)
        · have hz : Pz m n dA dB i j = true := by unfold Pz; exact decide_eq_true (V.int.inj h)
          refine ⟨_, rfl, .inl ⟨rfl, _, SqL.of N8.h⟩, _, rfl, _, rfl, (by show 2 ≤ sizeLine; omega), fun tp htp => ?_⟩
          have s9 : Same H8 (upd H8 tp (.tup [.int (i : Int), .int (j : Int)])) := .upd htp
          refine ⟨_, _, _, rfl, rfl, s9 _ _ N8.h, len8, ?_⟩
          refine ⟨ps6 ++ [tp], _, _, rfl, (u8.trans s9).over hlt, ?_⟩
          rw [rowT_succ, if_pos hz, ← List.append_assoc]
          exact (N8.same s9).app (z := (i, j)) upd_same
        · have hz : ¬ Pz m n dA dB i j = true := fun z => h (congrArg V.int (of_decide_eq_true z))
          refine ⟨ps6, _, _, rfl, u8, ?_⟩
          rw [rowT_succ, if_neg hz, List.append_nil]
          exact N8
      · rintro σ H6 ⟨ps6, w7, w8, rfl, s6, N6⟩
        exact ⟨ps6, _, _, _, rfl, s6, by rw [allT_succ]; exact N6⟩
    · rintro σ H5 ⟨ps, v6, v7, v8, rfl, s5, N5⟩
      exact ⟨_, rfl, k lt H5 ps dA dB (u4.trans s5) nlt pA pB decA decB N5⟩
end
end Mine

set_option Elab.async false
set_option linter.all false
set_option maxRecDepth 100000
set_option maxHeartbeats 4000000
namespace Mine
open PySem L2
section
variable {P : Program} {w : World} {K : PySem.W.Frag} {mg : Str → Option Value} {base : Heap} {t : Adr}
/-- a list of lists of numbers -/
structure NL (H : Hp) (y : Addr) (rs : List Addr) (tss : List (List Int)) : Prop where
  h : H y = some (.lst (rs.map V.ref))
  l : rs.length = tss.length
  r : ∀ (i : Nat) (a : Addr) (ks : List Int), rs[i]? = some a → tss[i]? = some ks → H a = some (.lst (vI ks))
theorem NL.same {H H' : Hp} {y : Addr} {rs : List Addr} {tss : List (List Int)} (N : NL H y rs tss) (s : Same H H') : NL H' y rs tss := ⟨s _ _ N.h, N.l, fun i a ks h1 h2 => s _ _ (N.r i a ks h1 h2)⟩
theorem NL.at {H : Hp} {y : Addr} {rs : List Addr} {tss : List (List Int)} (N : NL H y rs tss) {i : Nat} {a : V} (h : (rs.map V.ref)[i]? = some a) : ∃ r ks, a = .ref r ∧ rs[i]? = some r ∧ tss[i]? = some ks ∧ H r = some (.lst (vI ks)) := by
  rw [List.getElem?_map] at h
  cases e : rs[i]? with
  | none => rw [e] at h; cases h
  | some r =>
    rw [e] at h
    cases h
    have hi : i < tss.length := by rw [← N.l]; exact (List.getElem?_eq_some_iff.mp e).1
    exact ⟨r, tss[i], rfl, rfl, List.getElem?_eq_getElem hi, N.r i r _ e (List.getElem?_eq_getElem hi)⟩
/-- a cut of a list of ints, both bounds within -/
theorem cut_vI {ks : List Int} {i j : Int} (h0 : 0 ≤ i) (h1 : i ≤ j) (h2 : j ≤ ks.length) : cutV (vI ks) (some i) (some j) = vI ((ks.drop i.toNat).take (j.toNat - i.toNat)) := by
  unfold cutV
  have e1 : HT.sIx (vI ks).length 0 (some i) = i.toNat := by
    show (if i < 0 then _ else _) = _
    rw [if_neg (by omega), vI_len]; omega
  have e2 : HT.sIx (vI ks).length (vI ks).length (some j) = j.toNat := by
    show (if j < 0 then _ else _) = _
    rw [if_neg (by omega), vI_len]; omega
  rw [e1, e2]
  unfold vI
  rw [← List.map_drop, ← List.map_take]
theorem cutR_from {ps : List Addr} {k : Nat} (h : k ≤ ps.length) : cutV (ps.map V.ref) (some (k : Int)) none = (ps.drop k).map V.ref := by
  unfold cutV
  have e1 : HT.sIx (ps.map V.ref).length 0 (some (k : Int)) = k := by rw [HT.sIx_nat, List.length_map, Nat.min_eq_left h]
  have e2 : HT.sIx (ps.map V.ref).length (ps.map V.ref).length none = (ps.map V.ref).length := rfl
  rw [e1, e2, ← List.map_drop]
  exact List.take_of_length_le (by rw [List.length_map, List.length_map, List.length_drop]; omega)
theorem rng_two {lo n : Nat} (h : lo + n ≤ 1000) : Builtin.Range.rangeSize (lo : Int) ((lo + n : Nat) : Int) 1 = (n : Int) ∧ Builtin.Range.small (lo : Int) ((lo + n : Nat) : Int) 1 = true := by
  have rs : Builtin.Range.rangeSize (lo : Int) ((lo + n : Nat) : Int) 1 = (n : Int) := by
    unfold Builtin.Range.rangeSize
    rw [if_pos (by decide)]
    by_cases h : (lo : Int) < ((lo + n : Nat) : Int)
    · rw [if_pos h, Int.ediv_one]
      omega
    · rw [if_neg h]
      omega
  refine ⟨rs, ?_⟩
  have fits : ∀ {z : Int}, -1000000 ≤ z → z ≤ 1000000 → Builtin.Range.rangeFitsLong z = true := fun {z} h1 h2 => by
    unfold Builtin.Range.rangeFitsLong
    simp only [Bool.and_eq_true, decide_eq_true_eq]
    omega
  unfold Builtin.Range.small
  rw [rs, fits (by omega) (by omega), fits (by omega) (by omega), fits (by omega) (by omega), fits (by omega) (by omega)]
  simp only [show (1 : Int) > 0 by decide, if_true, Bool.true_and, Bool.or_eq_true]
  exact .inr (fits (by omega) (by omega))
theorem rngL_cQ (lo n : Nat) : rngL (lo : Int) 1 n = (List.range n).map (cQ lo) := by
  unfold rngL cQ
  refine List.map_congr_left fun i _ => ?_
  omega
theorem key_e {cl : List (List Nat)} {m n : Nat} (C : Cl cl m n) {k : Nat} (h : k < m) : (scores cl m).getD (cQ 0 k).toNat 0 = ((aS (upC cl) n k : Nat) : Int) := by
  have e : (cQ 0 k).toNat = k := by unfold cQ; omega
  have hl := eS_len cl m
  rw [e, List.getD_eq_getElem?_getD]
  show ((eS cl m ++ pS cl)[k]?).getD 0 = _
  rw [List.getElem?_append_left (by omega), eS_up C, List.getElem?_map, List.getElem?_range h]
  rfl
theorem key_p {cl : List (List Nat)} {m n : Nat} (C : Cl cl m n) {k : Nat} (h : k < n) : (scores cl m).getD (cQ m k).toNat 0 = ((bS (upC cl) m k : Nat) : Int) := by
  have e : (cQ m k).toNat = m + k := by unfold cQ; omega
  have hl := eS_len cl m
  rw [e, List.getD_eq_getElem?_getD]
  show ((eS cl m ++ pS cl)[m + k]?).getD 0 = _
  rw [List.getElem?_append_right (by omega), pS_up C, hl, Nat.add_sub_cancel_left, List.getElem?_map, List.getElem?_range h]
  rfl
theorem ord_e {cl : List (List Nat)} {m n : Nat} (C : Cl cl m n) {n1 : List Int} (p1 : n1.Perm (rngL 0 1 m))
    (w1 : n1.Pairwise (fun x y => -((scores cl m).getD x.toNat 0) < -((scores cl m).getD y.toNat 0) ∨ (-((scores cl m).getD x.toNat 0) = -((scores cl m).getD y.toNat 0) ∧ x < y))) : ∃ eo, Ord (aS (upC cl) n) m eo ∧ n1 = eo.map (cQ 0) := by
  have p1' : n1.Perm ((List.range m).map (cQ 0)) := by rw [← rngL_cQ]; exact p1
  obtain ⟨eo, p, e⟩ := perm_map p1' _ rfl
  refine ⟨eo, ⟨p, ?_⟩, e⟩
  rw [e, List.pairwise_map] at w1
  refine w1.imp_of_mem fun {x y} hx hy h => ?_
  rw [key_e C (List.mem_range.mp (p.mem_iff.mp hx)), key_e C (List.mem_range.mp (p.mem_iff.mp hy))] at h
  unfold cQ at h
  omega
theorem ord_p {cl : List (List Nat)} {m n : Nat} (C : Cl cl m n) {n1 : List Int} (p1 : n1.Perm (rngL (m : Int) 1 n))
    (w1 : n1.Pairwise (fun x y => -((scores cl m).getD x.toNat 0) < -((scores cl m).getD y.toNat 0) ∨ (-((scores cl m).getD x.toNat 0) = -((scores cl m).getD y.toNat 0) ∧ x < y))) : ∃ po, Ord (bS (upC cl) m) n po ∧ n1 = po.map (cQ m) := by
  have p1' : n1.Perm ((List.range n).map (cQ m)) := by rw [← rngL_cQ]; exact p1
  obtain ⟨po, p, e⟩ := perm_map p1' _ rfl
  refine ⟨po, ⟨p, ?_⟩, e⟩
  rw [e, List.pairwise_map] at w1
  refine w1.imp_of_mem fun {x y} hx hy h => ?_
  rw [key_p C (List.mem_range.mp (p.mem_iff.mp hx)), key_p C (List.mem_range.mp (p.mem_iff.mp hy))] at h
  unfold cQ at h
  omega
theorem dec_map {key : Nat → Nat} {N : Nat} {l : List Nat} (o : Ord key N l) : (l.map fun e => ((key e : Nat) : Int)).Pairwise (· ≥ ·) := by
  rw [List.pairwise_map]
  exact o.ord.imp fun {x y} h => by omega
theorem lay_of {cl : List (List Nat)} {m n : Nat} (C : Cl cl m n) {dA dB : List Int} (pA : dA.Perm (eS cl m)) (pB : dB.Perm (pS cl)) (decA : dA.Pairwise (· ≥ ·)) (decB : dB.Pairwise (· ≥ ·)) {eo po : List Nat}
    (oE : Ord (aS (upC cl) n) m eo) (oP : Ord (bS (upC cl) m) n po) {tss : List (List Int)} (len : tss.length + 1 = (allT (Pz m n dA dB) n (m + 1)).length)
    (lay : ∀ (i : Nat) (a b : Nat × Nat) (t : List Int), (allT (Pz m n dA dB) n (m + 1))[i]? = some a → (allT (Pz m n dA dB) n (m + 1))[i + 1]? = some b → tss[i]? = some t →
      t.Perm (((eo.drop a.1).take (b.1 - a.1)).map (cQ 0) ++ ((po.drop a.2).take (b.2 - a.2)).map (cQ m)) ∧ t.Pairwise (· ≤ ·)) : Lay (upC cl) m n tss (allT (Pz m n dA dB) n (m + 1)) eo po := by
  have tp := Tps.of (sc_of C pA pB decA decB) C.m1
  have eA : dA = eo.map fun e => ((aS (upC cl) n e : Nat) : Int) := dec_uniq (pA.trans (by rw [eS_up C]; exact (oE.perm.map _).symm)) decA (dec_map oE)
  have eB : dB = po.map fun e => ((bS (upC cl) m e : Nat) : Int) := dec_uniq (pB.trans (by rw [pS_up C]; exact (oP.perm.map _).symm)) decB (dec_map oP)
  refine ⟨oE, oP, tp.fst, tp.lst, tp.in_, fun i a b ea eb => ?_, fun i a ea => ?_, len, lay⟩
  · obtain ⟨h1, h2, h3, _⟩ := tp.stp i a b ea eb
    exact ⟨h1, h2, h3⟩
  · have hm := (mem_allT.mp (List.mem_of_getElem? ea)).2.2
    unfold Pz at hm
    have hz := of_decide_eq_true hm
    rw [eA, eB, ← List.map_take, ← List.map_take, sum_map, sum_map] at hz
    have e1 : ((a.1 * n : Nat) : Int) = (a.1 : Int) * n := by rw [Int.natCast_mul]
    have e2 : ((a.2 * m : Nat) : Int) = (a.2 : Int) * m := by rw [Int.natCast_mul]
    have e3 : ((a.1 * a.2 : Nat) : Int) = (a.1 : Int) * a.2 := by rw [Int.natCast_mul]
    omega
theorem lam_q : (("layers_of" : Str) ++ ".<locals>.") ++ "<lambda>" = "layers_of.<locals>.<lambda>" := by decide +kernel
def sp_layers (K : PySem.W.Frag) (tT : Addr) : Sp := fun vs H Q _ => ∃ (a : Addr) (cl : List (List Nat)) (m n : Nat), vs = [.ref a] ∧ SqL K H a (vS cl) ∧ Cl cl m n ∧ m + n < 64 ∧ Tb tT "layers_of.<locals>.<lambda>" H ∧
  ∀ l H' rs tss dA dB eo po, SameT H H' → Tb tT "layers_of.<locals>.<lambda>" H' → dA.Perm (eS cl m) → dB.Perm (pS cl) → dA.Pairwise (· ≥ ·) → dB.Pairwise (· ≥ ·) → Lay (upC cl) m n tss (allT (Pz m n dA dB) n (m + 1)) eo po → NL H' l rs tss → Q (.ref l) H'
theorem ok_layers_of {tc tT : Addr} (T : Txt K mg t) (hcd : t.d_layers_of.code = .ref tc) (hCd : PySem.W.CodeHd base tc tT) (hBm : Bm mg base) : FnOk P w K mg base CX0 6 t.f_layers_of t.d_layers_of ["cloth"] (sp_layers K tT) := by
  have G_measured : FnOk P w K mg base CX0 3 t.f_measured t.d_measured _ _ := ok_measured T
  have G_scores_of : FnOk P w K mg base CX0 4 t.f_scores_of t.d_scores_of _ _ := ok_scores_of T
  have G_tops_of : FnOk P w K mg base CX0 5 t.f_tops_of t.d_tops_of _ _ := ok_tops_of T
  refine T.layers_of.F.okC hcd sc_layers_of (fun vs H Q E h => ?_) (fun A outer s H vs Q E hr h => ?_)
  · obtain ⟨a, cl, m, n, rfl, _⟩ := h
    rfl
  · obtain ⟨a, cl, m, n, rfl, hS, C, h64, tb, k⟩ := h
    have c2 := C.n40
    have c4 := C.m40
    have hsz : sizeLine = 16777216 := sizeLine_eq
    refine ⟨_, (pss_cons (ps_set (i := 1) sc_layers_of.nd rfl (Or.inl rfl) (pe_call (G_measured.mono (by decide)) hr rfl T.measured.m T.measured.F.kp T.measured.b .nil pass0 (pa_cons (pv 0) pa_nil)))
      (pss_cons (ps_set (i := 2) sc_layers_of.nd rfl (Or.inr rfl) (pe_call (G_scores_of.mono (by decide)) hr rfl T.scores_of.m T.scores_of.F.kp T.scores_of.b .nil pass0 (pa_cons (pv 0) pa_nil)))
      (pss_cons (ps_set (i := 3) sc_layers_of.nd rfl (Or.inl rfl) (pe_sortKey (K := K) (j := 2) (q := "layers_of.<locals>.<lambda>") rfl T.b_sorted (pe_callTy call_rng1 rfl T.b_range bt_range (pa_cons (pe_ix (ix_tupK (K := K)) (pv 1) pe_int (fun _ _ => rfl)) pa_nil)) hCd hBm (hr.mono (by decide)) rfl lam_q))
      (pss_cons (ps_set (i := 4) sc_layers_of.nd rfl (Or.inl rfl) (pe_sortKey (K := K) (j := 2) (q := "layers_of.<locals>.<lambda>") rfl T.b_sorted (pe_callTy call_rng2 rfl T.b_range bt_range (pa_cons (pe_ix (ix_tupK (K := K)) (pv 1) pe_int (fun _ _ => rfl)) (pa_cons (pe_callB (call_len_seqK (K := K)) rfl T.b_len bt_len (pa_cons (pv 2) pa_nil)) pa_nil))) hCd hBm (hr.mono (by decide)) rfl lam_q))
      (pss_cons (ps_set (i := 5) sc_layers_of.nd rfl (Or.inl rfl) (pe_call (G_tops_of.mono (by decide)) hr rfl T.tops_of.m T.tops_of.F.kp T.tops_of.b .nil pass0 (pa_cons (pv 0) pa_nil)))
      (pss_cons (ps_set (i := 6) sc_layers_of.nd rfl (Or.inl rfl) (pe_lst pa_nil))
      (pss_cons (ps_for PassesOwn.never rfl (pi_zip (K := K) rfl T.b_zip (pa_cons (pv 5) (pa_cons (pe_slice (sl_listK (K := K)) (pv 5) (po_some pe_int) po_none) pa_nil))) (pg_tup rfl (pgs_cons (pg_name (i := 7) sc_layers_of.nd rfl (Or.inl rfl)) (pgs_cons (pg_name (i := 8) sc_layers_of.nd rfl (Or.inl rfl)) pgs_nil)))
        (pss_one (ps_expr (pe_bmK (K := K) PySem.F.plainAttrs_list PySem.F.slot_list_append PySem.F.type_list_append mt_append (pv 6) (pa_cons (pe_callB (call_sortI (K := K)) rfl T.b_sorted bt_sorted (pa_cons (pe_op op_cat (pe_slice (sl_listK (K := K)) (pv 3) (po_some (pe_ix (ix_tupK (K := K)) (pv 7) pe_int (fun _ _ => rfl))) (po_some (pe_ix (ix_tupK (K := K)) (pv 8) pe_int (fun _ _ => rfl)))) (pe_slice (sl_listK (K := K)) (pv 4) (po_some (pe_ix (ix_tupK (K := K)) (pv 7) pe_int (fun _ _ => rfl))) (po_some (pe_ix (ix_tupK (K := K)) (pv 8) pe_int (fun _ _ => rfl))))) pa_nil)) pa_nil)))))
      (pss_one (ps_ret (pv 6)))))))))), ?_⟩
    refine ⟨_, rfl, a, cl, m, n, rfl, hS, C, fun p hp => ?_⟩
    have s1 : Same H (upd H p (.tup [.int (m : Int), .int (n : Int)])) := .upd hp
    have gp1 : (upd H p (.tup [.int (m : Int), .int (n : Int)])) p = some (.tup [.int (m : Int), .int (n : Int)]) := upd_same
    refine ⟨_, rfl, a, cl, m, n, rfl, s1.seq hS, C, fun lf H2 s2 nlf hlf => ?_⟩
    have gp2 := s2 _ _ gp1
    have u2 := s1.trans s2
    have tb2 := tb.same u2
    have lsc : (scores cl m).length = m + n := by rw [scores_len, C.hn]
    refine ⟨_, rfl, _, _, _, _, rfl, rfl, SqT.of gp2, atI_of (by decide) rfl, _, rfl, fun pr npr => ?_⟩
    have s3 : Same H2 (upd H2 pr (rngO pr 0 (m : Int) 1)) := .upd npr
    obtain ⟨r1, r2⟩ := rng_two (lo := 0) (n := m) (by omega)
    rw [Nat.zero_add] at r1 r2
    refine ⟨pr, 0, (m : Int), m, lf, scores cl m, rfl, upd_same, r2, r1, (by omega), rfl, SqL.of (s3 _ _ hlf), by decide, (by show 0 + m ≤ _; omega), tb2.same s3, fun l1 H3 n1 t3 tb3 nl1 hl1 p1 w1 => ?_⟩
    have v3 : SameT H2 H3 := s3.toT.trans t3
    have gp3 := v3.tup gp2
    have hlf3 := v3.lst hlf
    refine ⟨_, rfl, _, _, _, _, rfl, rfl, SqT.of gp3, atI_of (by decide) rfl, _, rfl, _, _, rfl, .inl (SqL.of hlf3), _, _, rfl, fun pr2 npr2 => ?_⟩
    rw [vI_len, lsc]
    have s4 : Same H3 (upd H3 pr2 (rngO pr2 (m : Int) ((m + n : Nat) : Int) 1)) := .upd npr2
    obtain ⟨q1, q2⟩ := rng_two (lo := m) (n := n) (by omega)
    refine ⟨pr2, (m : Int), ((m + n : Nat) : Int), n, lf, scores cl m, rfl, upd_same, q2, q1, (by omega), rfl, SqL.of (s4 _ _ hlf3), by omega, (by omega), tb3.same s4, fun l2 H4 n2 t4 tb4 nl2 hl2 p2 w2 => ?_⟩
    have v4 : SameT H3 H4 := s4.toT.trans t4
    have x4 : SameT H H4 := u2.toT.trans (v3.trans v4)
    have hl14 := v4.lst hl1
    obtain ⟨eo, oE, rfl⟩ := ord_e C p1 w1
    obtain ⟨po, oP, rfl⟩ := ord_p C p2 w2
    refine ⟨_, rfl, a, cl, m, n, rfl, x4.seq hS, C, fun lt H5 ps dA dB s5 nlt pA pB decA decB N => ?_⟩
    have tp := Tps.of (sc_of C pA pB decA decB) C.m1
    have x5 : SameT H H5 := x4.trans s5.toT
    have tb5 := tb4.same s5
    have hl15 := s5 _ _ hl14
    have hl25 := s5 _ _ hl2
    have zlen : (allT (Pz m n dA dB) n (m + 1)).length ≤ 41 * 41 := by
      have q1 := allT_len (Pz m n dA dB) n (m + 1)
      have q3 : (m + 1) * (n + 1) ≤ 41 * 41 := Nat.mul_le_mul (by omega) (by omega)
      omega
    have lay1 := fun (tss : List (List Int)) => lay_of (tss := tss) C pA pB decA decB oE oP
    generalize hzs : allT (Pz m n dA dB) n (m + 1) = zs at N tp zlen lay1
    refine ⟨Nat.zero_le _, fun ll nll => ?_⟩
    have s6 : Same H5 (upd H5 ll (.lst [])) := .upd nll
    have N6 := N.same s6
    refine ⟨_, rfl, _, rfl, _, rfl, _, _, rfl, SqL.of N6.h, fun lc nlc => ?_⟩
    have s7 := s6.new nlc (o := .lst (cutV (ps.map V.ref) (some 1) none))
    have ct : cutV (ps.map V.ref) (some 1) none = (ps.drop 1).map V.ref := by
      have := cutR_from (ps := ps) (k := 1) (by rw [N.len]; have := tp.two; omega)
      exact this
    rw [ct] at s7 ⊢
    have N7 := N.same s7
    have hlc7 : (upd (upd H5 ll (.lst [])) lc (.lst ((ps.drop 1).map V.ref))) lc = some (.lst ((ps.drop 1).map V.ref)) := upd_same
    have lne : ll ≠ lc := fun e => by rw [← e, upd_same] at nlc; cases nlc
    have hll7 : (upd (upd H5 ll (.lst [])) lc (.lst ((ps.drop 1).map V.ref))) ll = some (.lst []) := by rw [upd_ne lne]; exact upd_same
    generalize upd (upd H5 ll (.lst [])) lc (.lst ((ps.drop 1).map V.ref)) = H7 at s7 N7 hlc7 hll7 ⊢
    have plen : ps.length = zs.length := N.len
    refine ⟨_, _, rfl, ⟨_, SqL.of N7.h⟩, ⟨_, SqL.of hlc7⟩, for_zip (K := K) (n := zs.length - 1) (xs := ps.map V.ref) (ys := (ps.drop 1).map V.ref) (by rw [List.length_map, List.length_map, List.length_drop, plen]; omega)
      (fun i σ H8 => ∃ (rs : List Addr) (tss : List (List Int)) (v7 v8 : Option V), σ = [some (.ref a), some (.ref p), some (.ref lf), some (.ref l1), some (.ref l2), some (.ref lt), some (.ref ll), v7, v8] ∧ Same H5 H8 ∧ H8 lc = some (.lst ((ps.drop 1).map V.ref)) ∧ lc ≠ ll ∧ NL H8 ll rs tss ∧ rs.length = i ∧ (∀ r ∈ rs, r ≠ ll) ∧
        ∀ (j : Nat) (x y : Nat × Nat) (t : List Int), zs[j]? = some x → zs[j + 1]? = some y → tss[j]? = some t → t.Perm (((eo.drop x.1).take (y.1 - x.1)).map (cQ 0) ++ ((po.drop x.2).take (y.2 - x.2)).map (cQ m)) ∧ t.Pairwise (· ≤ ·))
      ⟨[], [], none, none, rfl, s7, hlc7, Ne.symm lne, ⟨hll7, rfl, fun i a ks e => by simp at e⟩, rfl, fun r hr => by simp at hr, fun j x y t _ _ e => by simp at e⟩ (fun i σ H8 ⟨_, _, _, _, _, s8, hlc8, _⟩ => ⟨SqL.of (s8 _ _ N.h), SqL.of hlc8⟩) ?_ ?_⟩
    · rintro i x y σ H8 T8 hx hy ⟨rs, tss, v7, v8, rfl, s8, hlc8, lcn, N8, rl, rne, ly⟩ nT
      have hi : i + 1 < zs.length := by
        have := (List.getElem?_eq_some_iff.mp hy).1
        rw [List.length_map, List.length_drop, plen] at this
        omega
      have ex := List.getElem?_eq_getElem (l := zs) (i := i) (by omega)
      have ey := List.getElem?_eq_getElem (l := zs) (i := i + 1) hi
      obtain ⟨px, hpx, hpx2⟩ := N.get ex
      obtain ⟨py, hpy, hpy2⟩ := N.get ey
      rw [hpx] at hx
      cases hx
      have hy' : (ps.map V.ref)[i + 1]? = some y := by
        rw [List.map_drop, List.getElem?_drop, Nat.add_comm 1 i] at hy
        exact hy
      rw [hpy] at hy'
      cases hy'
      obtain ⟨st1, st2, st3, _⟩ := tp.stp i _ _ ex ey
      obtain ⟨in1, in2⟩ := tp.in_ _ _ ey
      have s9 : Same H5 (upd H8 T8 (.tup [.ref px, .ref py])) := s8.new nT
      have hpx9 := s9 _ _ hpx2
      have hpy9 := s9 _ _ hpy2
      have N9 := N8.same (Same.upd nT (o := .tup [.ref px, .ref py]))
      have hlc9 := (Same.upd nT (o := .tup [.ref px, .ref py])) _ _ hlc8
      refine ⟨_, _, rfl, SqT.of upd_same, rfl, _, _, rfl, _, _, rfl, rfl, ?_⟩
      generalize upd H8 T8 (.tup [.ref px, .ref py]) = H9 at s9 hpx9 hpy9 N9 hlc9 ⊢
      have eol := oE.len
      have pol := oP.len
      generalize zs[i] = za at ex hpx9 st1 st2 st3 hpx2 ⊢
      generalize zs[i + 1] = zb at ey hpy9 st1 st2 st3 in1 in2 hpy2 ⊢
      refine ⟨_, rfl, .inl ⟨rfl, _, SqL.of N9.h⟩, _, rfl, _, rfl, _, _, _, _, rfl, rfl, SqT.of hpx9, atI_of (by decide) rfl, _, rfl, _, rfl, _, _, _, _, rfl, rfl, SqT.of hpy9, atI_of (by decide) rfl, _, rfl, _, _, rfl, SqL.of (s9 _ _ hl15), fun c1 nc1 => ?_⟩
      rw [cut_vI (by omega) (by omega) (by rw [List.length_map, eol]; omega)]
      rw [show ((za.1 : Nat) : Int).toNat = za.1 by omega, show ((zb.1 : Nat) : Int).toNat = zb.1 by omega, ← List.map_drop, ← List.map_take]
      have s10 : Same H9 (upd H9 c1 (.lst (vI (((eo.drop za.1).take (zb.1 - za.1)).map (cQ 0))))) := .upd nc1
      have g10 : (upd H9 c1 (.lst (vI (((eo.drop za.1).take (zb.1 - za.1)).map (cQ 0))))) c1 = some (.lst (vI (((eo.drop za.1).take (zb.1 - za.1)).map (cQ 0)))) := upd_same
      generalize upd H9 c1 (.lst (vI (((eo.drop za.1).take (zb.1 - za.1)).map (cQ 0)))) = H10 at s10 g10 ⊢
      refine ⟨_, rfl, _, rfl, _, _, _, _, rfl, rfl, SqT.of (s10 _ _ hpx9), atI_of (by decide) rfl, _, rfl, _, rfl, _, _, _, _, rfl, rfl, SqT.of (s10 _ _ hpy9), atI_of (by decide) rfl, _, rfl, _, _, rfl, SqL.of (s10 _ _ (s9 _ _ hl25)), fun c2 nc2 => ?_⟩
      rw [cut_vI (by omega) (by omega) (by rw [List.length_map, pol]; omega)]
      rw [show ((za.2 : Nat) : Int).toNat = za.2 by omega, show ((zb.2 : Nat) : Int).toNat = zb.2 by omega, ← List.map_drop, ← List.map_take]
      have s11 : Same H10 (upd H10 c2 (.lst (vI (((po.drop za.2).take (zb.2 - za.2)).map (cQ m))))) := .upd nc2
      have g11 : (upd H10 c2 (.lst (vI (((po.drop za.2).take (zb.2 - za.2)).map (cQ m))))) c2 = some (.lst (vI (((po.drop za.2).take (zb.2 - za.2)).map (cQ m)))) := upd_same
      generalize upd H10 c2 (.lst (vI (((po.drop za.2).take (zb.2 - za.2)).map (cQ m)))) = H11 at s11 g11 ⊢
      have len1 : (((eo.drop za.1).take (zb.1 - za.1)).map (cQ 0)).length = zb.1 - za.1 := by rw [List.length_map, List.length_take, List.length_drop]; omega
      have len2 : (((po.drop za.2).take (zb.2 - za.2)).map (cQ m)).length = zb.2 - za.2 := by rw [List.length_map, List.length_take, List.length_drop]; omega
      refine ⟨_, _, _, _, rfl, rfl, s11 _ _ g10, g11, (by rw [vI_len, vI_len, len1, len2]; omega), fun c3 nc3 => ?_⟩
      have eapp : vI (((eo.drop za.1).take (zb.1 - za.1)).map (cQ 0)) ++ vI (((po.drop za.2).take (zb.2 - za.2)).map (cQ m)) = vI (((eo.drop za.1).take (zb.1 - za.1)).map (cQ 0) ++ ((po.drop za.2).take (zb.2 - za.2)).map (cQ m)) := by unfold vI; rw [List.map_append]
      rw [eapp]
      have s12 := s11.new nc3 (o := .lst (vI (((eo.drop za.1).take (zb.1 - za.1)).map (cQ 0) ++ ((po.drop za.2).take (zb.2 - za.2)).map (cQ m))))
      refine ⟨_, _, rfl, SqL.of upd_same, (by rw [List.length_append, len1, len2]; omega), fun c4 ns' p4 w4 nc4 => ?_⟩
      have s13 : Same H9 _ := (s10.trans s12).new nc4 (o := .lst (vI ns'))
      have N13 := N9.same s13
      have g13 : (upd (upd H11 c3 (.lst (vI (((eo.drop za.1).take (zb.1 - za.1)).map (cQ 0) ++ ((po.drop za.2).take (zb.2 - za.2)).map (cQ m))))) c4 (.lst (vI ns'))) c4 = some (.lst (vI ns')) := upd_same
      have hlc13 := s13 _ _ hlc9
      have u13 := s9.trans s13
      have nc4' : c4 ≠ ll := fun e => by
        have z := (s10.trans s12) _ _ N9.h
        rw [← e, nc4] at z
        cases z
      generalize upd (upd H11 c3 (.lst (vI (((eo.drop za.1).take (zb.1 - za.1)).map (cQ 0) ++ ((po.drop za.2).take (zb.2 - za.2)).map (cQ m))))) c4 (.lst (vI ns')) = H13 at N13 g13 hlc13 u13 ⊢
      refine ⟨_, _, _, rfl, rfl, N13.h, (by rw [List.length_map, rl]; omega), ?_⟩
      have tl : tss.length = i := by rw [← N8.l, rl]
      refine ⟨rs ++ [c4], tss ++ [ns'], _, _, rfl, u13.over nll, by rw [upd_ne lcn]; exact hlc13, lcn, ⟨by rw [upd_same, List.map_append]; rfl, by rw [List.length_append, List.length_append, N8.l]; rfl, fun j r ks e1 e2 => ?_⟩, by rw [List.length_append, rl]; rfl, fun r hr => ?_, fun j x y t e1 e2 e3 => ?_⟩
      · by_cases hj : j < rs.length
        · rw [List.getElem?_append_left hj] at e1
          rw [List.getElem?_append_left (by rw [← N8.l]; exact hj)] at e2
          rw [upd_ne (rne r (List.mem_of_getElem? e1))]
          exact N13.r j r ks e1 e2
        · have hj2 := (List.getElem?_eq_some_iff.mp e1).1
          rw [List.length_append] at hj2
          have ej : j = rs.length := by have : [c4].length = 1 := rfl; omega
          rw [ej, List.getElem?_append_right (Nat.le_refl _), Nat.sub_self] at e1
          rw [ej, N8.l, List.getElem?_append_right (Nat.le_refl _), Nat.sub_self] at e2
          cases e1
          cases e2
          rw [upd_ne nc4']
          exact g13
      · rcases List.mem_append.mp hr with h | h
        · exact rne r h
        · rw [List.mem_singleton.mp h]; exact nc4'
      · by_cases hj : j < tss.length
        · rw [List.getElem?_append_left hj] at e3
          exact ly j x y t e1 e2 e3
        · have hj2 := (List.getElem?_eq_some_iff.mp e3).1
          rw [List.length_append] at hj2
          have ej : j = tss.length := by have : [ns'].length = 1 := rfl; omega
          rw [ej, List.getElem?_append_right (Nat.le_refl _), Nat.sub_self] at e3
          cases e3
          rw [ej, tl] at e1 e2
          rw [ex] at e1
          rw [ey] at e2
          cases e1
          cases e2
          exact ⟨p4, w4⟩
    · rintro σ H8 ⟨rs, tss, v7, v8, rfl, s8, _, _, N8, rl, rne, ly⟩
      have h2 := tp.two
      refine ⟨_, rfl, k ll H8 rs tss dA dB eo po (x5.trans s8.toT) (tb5.same s8) pA pB decA decB ?_ N8⟩
      rw [hzs]
      exact lay1 tss (by rw [← N8.l, rl]; omega) ly
end
end Mine

set_option Elab.async false
set_option linter.all false
set_option maxRecDepth 100000
set_option maxHeartbeats 4000000
namespace Mine
open PySem L2
section
variable {P : Program} {w : World} {K : PySem.W.Frag} {mg : Str → Option Value} {base : Heap} {t : Adr}
def sp_tiled (K : PySem.W.Frag) : Sp := fun vs H Q _ => ∃ (a : Addr) (cl : List (List Nat)) (m n : Nat) (ac al : Int), vs = [.ref a, .int ac, .int al] ∧ SqL K H a (vS cl) ∧ Cl cl m n ∧ 1 ≤ ac ∧ 1 ≤ al ∧ ((m : Int) * ac ≤ 40 ∧ (n : Int) * al ≤ 40) ∧
  ∀ l H', Same H H' → H l = none → H' l = some (.lst (vS (til cl ac.toNat al.toNat))) → Q (.ref l) H'
theorem le_of_mul {m : Nat} {z : Int} (hm : 1 ≤ m) (hz : 1 ≤ z) (h : (m : Int) * z ≤ 40) : z ≤ 40 := by
  have : 1 * z ≤ (m : Int) * z := Int.mul_le_mul_of_nonneg_right (by omega) (by omega)
  omega
theorem nat_of_mul {m : Nat} {z : Int} (hz : 1 ≤ z) (h : (m : Int) * z ≤ 40) : z.toNat * m ≤ 40 := by
  have e : z = (z.toNat : Int) := by omega
  rw [e, ← Int.natCast_mul] at h
  rw [Nat.mul_comm]
  omega
theorem vS_rep (cl : List (List Nat)) : ∀ k : Nat, (List.replicate k (vS cl)).flatten = vS ((List.replicate k cl).flatten)
  | 0 => rfl
  | k + 1 => by
    rw [List.replicate_succ, List.flatten_cons, vS_rep cl k, List.replicate_succ, List.flatten_cons]
    unfold vS
    rw [List.map_append]
theorem ok_tiled (T : Txt K mg t) : FnOk P w K mg base CX0 4 t.f_tiled t.d_tiled ["cloth", "across", "along"] (sp_tiled K) := by
  have G_measured : FnOk P w K mg base CX0 3 t.f_measured t.d_measured _ _ := ok_measured T
  refine T.tiled.F.ok sc_tiled (fun vs H Q E h => ?_) (fun cdv A outer s H vs Q E hr h => ?_)
  · obtain ⟨a, cl, m, n, ac, al, rfl, _⟩ := h
    rfl
  · obtain ⟨a, cl, m, n, ac, al, rfl, hS, C, h1, h2, ⟨b1, b2⟩, k1⟩ := h
    have hsz : sizeLine = 16777216 := sizeLine_eq
    have c1 := C.n1
    have c2 := C.n40
    have c3 := C.m1
    have c4 := C.m40
    refine ⟨_, (pss_cons (ps_set (i := 3) sc_tiled.nd rfl (Or.inl rfl) (pe_call (G_measured.mono (by decide)) hr rfl T.measured.m T.measured.F.kp T.measured.b .nil pass0 (pa_cons (pv 0) pa_nil)))
      (pss_cons (ps_if (PW.pt (pw_or (pt_cmpR op_gt (pe_op op_mul (pe_ix (ix_tupK (K := K)) (pv 3) pe_int (fun _ _ => rfl)) (pv 1)) (pe_glob (v := .int 40) rfl T.c_MOST_STRANDS.choose_spec ⟨_, rfl⟩) (nomark _)) (pw_or1 (pt_cmpR op_gt (pe_op op_mul (pe_ix (ix_tupK (K := K)) (pv 3) pe_int (fun _ _ => rfl)) (pv 2)) (pe_glob (v := .int 40) rfl T.c_MOST_STRANDS.choose_spec ⟨_, rfl⟩) (nomark _)))))
        (pss_one ps_never)
        pss_nil)
      (pss_one (ps_ret (pe_op op_rep (pe_comp (CompOk.mk (caps := [1]) (Nc := ["text", "across"]) rfl (by decide +kernel) (by decide +kernel) (comp_fr (sc0 := defScope s_tiled) rfl (by decide +kernel)) rfl rfl rfl (by decide +kernel) (fun k j h => match k, h with | 0, h => by obtain rfl := Option.some.inj h; exact ⟨_, rfl, rfl, rfl⟩ | _ + 1, h => by simp at h)) rfl (pi_listK (K := K) (pv 0)) (fun _ _ _ _ _ => .nil) (fun _ _ _ _ _ => (pe_op op_repS (pv 0) (pv 1)))) (pv 2)))))), ?_⟩
    refine ⟨_, rfl, a, cl, m, n, rfl, hS, C, fun p hp => ?_⟩
    have s1 : Same H (upd H p (.tup [.int (m : Int), .int (n : Int)])) := .upd hp
    have gp : SqT K (upd H p (.tup [.int (m : Int), .int (n : Int)])) p [.int (m : Int), .int (n : Int)] := SqT.of upd_same
    refine ⟨_, rfl, _, _, _, _, rfl, rfl, gp, atI_of (by decide) rfl, _, rfl, _, _, rfl, rfl, .inl ⟨by omega, by omega⟩, _, _, rfl, rfl, _, rfl, ?_⟩
    refine ite2D (fun g1 => absurd g1 (by omega)) (fun g1 => ?_)
    refine ⟨_, rfl, _, _, _, _, rfl, rfl, gp, atI_of (by decide) rfl, _, rfl, _, _, rfl, rfl, .inl ⟨by omega, by omega⟩, _, _, rfl, rfl, _, rfl, ?_⟩
    refine ite2D (fun g2 => absurd g2 (by omega)) (fun g2 => ?_)
    have a40 := le_of_mul c3 h1 b1
    have l40 := le_of_mul c1 h2 b2
    have d1 := nat_of_mul h1 b1
    have d2 := nat_of_mul h2 b2
    refine ⟨_, rfl, _, rfl, ⟨_, s1.seq hS⟩, comp_list (K := K) (a := a) (xs := vS cl) (fun i ys H2 => H2 = upd H p (.tup [.int (m : Int), .int (n : Int)]) ∧ ys = vS (wid (cl.take i) ac.toNat)) ⟨rfl, rfl⟩ ?_ ?_ ?_ ?_⟩
    · rintro i ys H2 hi ⟨rfl, rfl⟩
      refine ⟨s1.seq hS, ?_⟩
      unfold wid
      rw [vS_len, List.length_map, List.length_take]
      omega
    · rw [vS_len, C.hn]; exact small40 c2
    · rintro i x ys H2 hi hx ⟨rfl, rfl⟩
      obtain ⟨t, ht, rfl⟩ := vS_got hx
      have htl := C.hm t (List.mem_of_getElem? ht)
      refine CTurn.no ?_
      refine ⟨_, rfl, _, rfl, t, ac, rfl, rfl, by omega, by omega, (by rw [htl, Nat.mul_comm]; omega), ?_⟩
      refine CN.of hi ⟨rfl, ?_⟩
      unfold wid
      rw [vS_app, List.take_add_one, ht, List.map_append]
      rfl
    · rintro ys H2 q ⟨rfl, rfl⟩ hq
      rw [vS_len, List.take_length]
      refine ⟨_, rfl, _, _, _, rfl, rfl, upd_same, by omega, by omega, ?_, fun l hl => ?_⟩
      · rw [vS_len]
        unfold wid
        rw [List.length_map, C.hn, Nat.mul_comm]
        omega
      · rw [vS_rep]
        exact k1 l _ ((s1.new hq).new hl) ((s1.new hq).free hl) upd_same
theorem Lay.lenAll {up : Nat → Nat → Bool} {m n : Nat} {tss : List (List Int)} {zs : List (Nat × Nat)} {eo po : List Nat} (L : Lay up m n tss zs eo po) : tss.flatten.length = m + n := by rw [L.all.length_eq, List.length_map, List.length_range]
theorem len_flat : ∀ (tss : List (List Int)), (∀ t ∈ tss, 0 < t.length) → tss.length ≤ tss.flatten.length
  | [], _ => Nat.le_refl _
  | t :: r, h => by
    have := h t List.mem_cons_self
    have := len_flat r fun x hx => h x (List.mem_cons_of_mem _ hx)
    rw [List.flatten_cons, List.length_append, List.length_cons]
    omega
theorem Lay.few {up : Nat → Nat → Bool} {m n : Nat} {tss : List (List Int)} {zs : List (Nat × Nat)} {eo po : List Nat} (L : Lay up m n tss zs eo po) : tss.length ≤ m + n := by
  rw [← L.lenAll]
  refine len_flat tss fun t ht => ?_
  obtain ⟨i, hi, e⟩ := List.getElem_of_mem ht
  rw [← e]
  exact L.ne hi
theorem len_le : ∀ {tss : List (List Int)} {i : Nat} (hi : i < tss.length), tss[i].length ≤ tss.flatten.length
  | t :: r, 0, _ => by rw [List.flatten_cons, List.length_append]; exact Nat.le_add_right _ _
  | t :: r, i + 1, hi => by
    have hi' : i < r.length := by simpa using hi
    have := len_le (tss := r) (i := i) hi'
    rw [List.flatten_cons, List.length_append]
    show r[i].length ≤ _
    omega
def sp_whole : Sp := fun vs H Q _ => ∃ z : Int, vs = [.int z] ∧ Q (.bl true) H
theorem ok_law_whole (T : Txt K mg t) : FnOk P w K mg base CX0 1 t.f_law_whole t.d_law_whole ["found"] sp_whole := by
  refine T.law_whole.F.ok sc_law_whole (fun vs H Q E h => ?_) (fun cdv A outer s H vs Q E hr h => ?_)
  · obtain ⟨z, rfl, _⟩ := h
    rfl
  · obtain ⟨z, rfl, k⟩ := h
    refine ⟨_, (pss_one (ps_ret (pe_and (pe_callB (call_isiK (K := K)) rfl T.b_isinstance bt_isinstance (pa_cons (pv 0) (pa_cons (pe_bltn (v := .ty "int") rfl T.b_int bt_int rfl) pa_nil))) (pe_one (pe_not (pe_callB (call_isiK (K := K)) rfl T.b_isinstance bt_isinstance (pa_cons (pv 0) (pa_cons (pe_bltn (v := .ty "bool") rfl T.b_bool bt_bool rfl) pa_nil)))))))), ?_⟩
    refine ⟨_, rfl, _, _, true, .int _, .inl ⟨_, rfl, kit_same K _⟩, _, rfl, ?_⟩
    refine iteT ?_
    exact ⟨_, rfl, _, _, false, .int _, .inl ⟨_, rfl, kit_ib K⟩, _, rfl, k⟩
theorem all_tr (j : Nat) : (List.replicate j true).all id = true := by rw [List.all_eq_true]; intro b hb; exact List.eq_of_mem_replicate hb
def sp_kinds : Sp := fun vs H Q _ => ∃ (l : Addr) (rs : List Addr) (tss : List (List Int)), vs = [.ref l] ∧ NL H l rs tss ∧ tss.length ≤ 100 ∧ (∀ t ∈ tss, t.length ≤ 100) ∧ ∀ H', Same H H' → Q (.bl true) H'
theorem ok_law_kinds (T : Txt K mg t) : FnOk P w K mg base CX0 2 t.f_law_kinds t.d_law_kinds ["found"] sp_kinds := by
  have G_law_whole : FnOk P w K mg base CX0 1 t.f_law_whole t.d_law_whole _ _ := ok_law_whole T
  refine T.law_kinds.F.ok sc_law_kinds (fun vs H Q E h => ?_) (fun cdv A outer s H vs Q E hr h => ?_)
  · obtain ⟨l, rs, tss, rfl, _⟩ := h
    rfl
  · obtain ⟨l, rs, tss, rfl, N, h1, h2, k⟩ := h
    have hsz : sizeLine = 16777216 := sizeLine_eq
    have rl : (rs.map V.ref).length = tss.length := by rw [List.length_map, N.l]
    refine ⟨_, (pss_cons (ps_if (PW.pt (pw_or (pt_not (pt_val (pe_callB (call_isiK (K := K)) rfl T.b_isinstance bt_isinstance (pa_cons (pv 0) (pa_cons (pe_bltn (v := .ty "list") rfl T.b_list bt_list rfl) pa_nil))))) (pw_or1 (pt_not (pt_val (pe_callB (call_allB (K := K)) rfl T.b_all bt_all (pa_cons (pe_comp (CompOk.mk (caps := []) (Nc := ["layer"]) rfl (by decide +kernel) (by decide +kernel) (comp_fr (sc0 := defScope s_law_kinds) rfl (by decide +kernel)) rfl rfl rfl (by decide +kernel) (fun _ _ h => by simp at h)) rfl (pi_listK (K := K) (pv 0)) (fun _ _ _ _ _ => .nil) (fun _ _ _ _ _ => (pe_callB (call_isiK (K := K)) rfl T.b_isinstance bt_isinstance (pa_cons (pv 0) (pa_cons (pe_bltn (v := .ty "list") rfl T.b_list bt_list rfl) pa_nil))))) pa_nil)))))))
        (pss_one (ps_ret pe_bl))
        pss_nil)
      (pss_one (ps_ret (pe_callB (call_allB (K := K)) rfl T.b_all bt_all (pa_cons (pe_comp (CompOk.mk (caps := []) (Nc := ["layer"]) rfl (by decide +kernel) (by decide +kernel) (comp_fr (sc0 := defScope s_law_kinds) rfl (by decide +kernel)) rfl rfl rfl (by decide +kernel) (fun _ _ h => by simp at h)) rfl (pi_listK (K := K) (pv 0)) (fun _ _ _ _ _ => .nil) (fun _ _ _ _ _ => (pe_callB (call_allB (K := K)) rfl T.b_all bt_all (pa_cons (pe_comp (CompOk.mk (caps := []) (Nc := ["strand"]) rfl (by decide +kernel) (by decide +kernel) (comp_fr0 (by decide +kernel)) rfl rfl rfl (by decide +kernel) (fun _ _ h => by simp at h)) rfl (pi_listK (K := K) (pv 0)) (fun _ _ _ _ _ => .nil) (fun _ _ _ _ _ => (pe_call (G_law_whole.mono (by decide)) hr rfl T.law_whole.m T.law_whole.F.kp T.law_whole.b .nil pass0 (pa_cons (pv 0) pa_nil)))) pa_nil)))) pa_nil))))), ?_⟩
    refine ⟨_, rfl, _, _, true, .lst N.h, .inl ⟨_, rfl, kit_same K _⟩, _, rfl, ?_⟩
    refine iteF ?_
    refine ⟨_, rfl, _, rfl, ⟨_, SqL.of N.h⟩, comp_list (K := K) (a := l) (xs := rs.map V.ref) (fun j ys H2 => H2 = H ∧ ys = vB (List.replicate j true)) ⟨rfl, rfl⟩ ?_ ?_ ?_ ?_⟩
    · rintro j ys H2 hj ⟨rfl, rfl⟩
      exact ⟨SqL.of N.h, by rw [vB_len, List.length_replicate]; exact Nat.le_refl _⟩
    · rw [rl]; omega
    · rintro j x ys H2 hj hx ⟨rfl, rfl⟩
      obtain ⟨r, ts, rfl, hr1, hr2, hr3⟩ := N.at hx
      refine CTurn.no ?_
      refine ⟨_, rfl, _, _, true, .lst hr3, .inl ⟨_, rfl, kit_same K _⟩, ?_⟩
      refine CN.of hj ⟨rfl, ?_⟩
      rw [List.replicate_succ', vB_app]
    · rintro ys H2 q ⟨rfl, rfl⟩ hq
      have s1 : Same H2 (upd H2 q (.lst (vB (List.replicate (rs.map V.ref).length true)))) := .upd hq
      refine ⟨_, _, rfl, SqL.of upd_same, _, rfl, ?_⟩
      rw [all_tr]
      refine iteF ?_
      have N1 := N.same s1
      generalize upd H2 q (.lst (vB (List.replicate (rs.map V.ref).length true))) = H3 at s1 N1 ⊢
      refine ⟨_, rfl, _, rfl, ⟨_, SqL.of N1.h⟩, comp_list (K := K) (a := l) (xs := rs.map V.ref) (fun j ys H4 => Same H3 H4 ∧ ys = vB (List.replicate j true)) ⟨.refl _, rfl⟩ ?_ ?_ ?_ ?_⟩
      · rintro j ys H4 hj ⟨s4, rfl⟩
        exact ⟨SqL.of (s4 _ _ N1.h), by rw [vB_len, List.length_replicate]; exact Nat.le_refl _⟩
      · rw [rl]; omega
      · rintro j x ys H4 hj hx ⟨s4, rfl⟩
        obtain ⟨r, ts, rfl, hr1, hr2, hr3⟩ := (N1.same s4).at hx
        have lts := h2 ts (List.mem_of_getElem? hr2)
        refine CTurn.no ?_
        refine ⟨_, rfl, _, rfl, ⟨_, SqL.of hr3⟩, comp_list (K := K) (a := r) (xs := vI ts) (fun i zs H5 => H5 = H4 ∧ zs = vB (List.replicate i true)) ⟨rfl, rfl⟩ ?_ ?_ ?_ ?_⟩
        · rintro i zs H5 hi ⟨rfl, rfl⟩
          exact ⟨SqL.of hr3, by rw [vB_len, List.length_replicate]; exact Nat.le_refl _⟩
        · rw [vI_len]; omega
        · rintro i x zs H5 hi hx2 ⟨rfl, rfl⟩
          obtain ⟨z, hz, rfl⟩ := vI_got hx2
          refine CTurn.no ?_
          refine ⟨_, rfl, _, rfl, ?_⟩
          refine CN.of hi ⟨rfl, ?_⟩
          rw [List.replicate_succ', vB_app]
        · rintro zs H5 q5 ⟨rfl, rfl⟩ hq5
          refine ⟨_, _, rfl, SqL.of upd_same, ?_⟩
          rw [all_tr]
          refine CN.of hj ⟨s4.new hq5, ?_⟩
          rw [List.replicate_succ', vB_app]
      · rintro ys H4 q4 ⟨s4, rfl⟩ hq4
        refine ⟨_, _, rfl, SqL.of upd_same, ?_⟩
        rw [all_tr]
        exact k _ ((s1.trans s4).new hq4)
theorem NL.app {H : Hp} {y : Addr} {rs : List Addr} {tss : List (List Int)} (N : NL H y rs tss) {r : Addr} {ts : List Int} (hr : H r = some (.lst (vI ts))) (ny : ∀ q ∈ rs, q ≠ y) (nr : r ≠ y) : NL (upd H y (.lst ((rs ++ [r]).map V.ref))) y (rs ++ [r]) (tss ++ [ts]) := by
  refine ⟨upd_same, by rw [List.length_append, List.length_append, N.l]; rfl, fun i a ks e1 e2 => ?_⟩
  by_cases hi : i < rs.length
  · rw [List.getElem?_append_left hi] at e1
    rw [List.getElem?_append_left (by rw [← N.l]; exact hi)] at e2
    rw [upd_ne (ny a (List.mem_of_getElem? e1))]
    exact N.r i a ks e1 e2
  · rw [List.getElem?_append_right (by omega)] at e1
    rw [List.getElem?_append_right (by rw [← N.l]; omega), ← N.l] at e2
    cases h : i - rs.length with
    | zero =>
      rw [h] at e1 e2
      cases e1
      cases e2
      rw [upd_ne nr]
      exact hr
    | succ d => rw [h] at e1; simp at e1
def sp_lone (K : PySem.W.Frag) : Sp := fun vs H Q _ => ∃ (r : Addr) (ts : List Int) (m : Nat), vs = [.ref r, .int (m : Int)] ∧ SqL K H r (vI ts) ∧ Q (.int ((kd m ts : Nat) : Int)) H
theorem ok_law_lone (T : Txt K mg t) : FnOk P w K mg base CX0 1 t.f_law_lone t.d_law_lone ["layer", "ends"] (sp_lone K) := by
  refine T.law_lone.F.ok sc_law_lone (fun vs H Q E h => ?_) (fun cdv A outer s H vs Q E hr h => ?_)
  · obtain ⟨r, ts, m, rfl, _⟩ := h
    rfl
  · obtain ⟨r, ts, m, rfl, hS, k⟩ := h
    refine ⟨_, (pss_cons (ps_if (pt_cmpR op_ne (pe_callB (call_len_seqK (K := K)) rfl T.b_len bt_len (pa_cons (pv 0) pa_nil)) pe_int (nomark _))
        (pss_one (ps_ret pe_int))
        pss_nil)
      (pss_cons (ps_if (pt_cmpR op_lt (pe_ix (ix_listK (K := K)) (pv 0) pe_int (fun _ _ => rfl)) (pv 1) (nomark _))
        (pss_one (ps_ret pe_int))
        pss_nil)
      (pss_one (ps_ret pe_int)))), ?_⟩
    refine ⟨_, rfl, _, _, rfl, .inl hS, rfl, _, rfl, ?_⟩
    unfold kd at k
    by_cases h1 : ts.length = 1
    · rw [if_neg (by omega)] at k
      obtain ⟨z, rfl⟩ := List.length_eq_one_iff.mp h1
      rw [show ([z] : List Int).headD 0 = z from rfl] at k
      refine iteNS (by rw [vI_len]; rfl) ?_
      refine ⟨_, rfl, _, _, _, _, rfl, rfl, hS, atI_of (by decide) rfl, _, rfl, _, _, rfl, rfl, _, rfl, ?_⟩
      refine ite2D (fun hz => ?_) (fun hz => ?_)
      · rw [if_pos hz] at k
        exact k
      · rw [if_neg hz] at k
        exact k
    · rw [if_pos h1] at k
      refine iteNp (fun z => h1 (by rw [vI_len] at z; have := V.int.inj z; omega)) ?_
      exact k
end
end Mine

set_option Elab.async false
set_option linter.all false
set_option maxRecDepth 100000
set_option maxHeartbeats 4000000
namespace Mine
open PySem L2
section
variable {P : Program} {w : World} {K : PySem.W.Frag} {mg : Str → Option Value} {base : Heap} {t : Adr}
theorem vI_app2 (x y : List Int) : vI x ++ vI y = vI (x ++ y) := by unfold vI; rw [List.map_append]
def sp_copies (K : PySem.W.Frag) : Sp := fun vs H Q _ => ∃ (r sz : Addr) (ts : List Int) (m n a b : Nat), vs = [.ref r, .ref sz, .int (a : Int), .int (b : Int)] ∧ SqL K H r (vI ts) ∧ H sz = some (.tup [.int (m : Int), .int (n : Int)]) ∧ m ≤ 7 ∧ n ≤ 7 ∧ a ≤ 4 ∧ b ≤ 3 ∧ (ts.flatMap (cpS m n a b)).length < 64 ∧ (∀ z ∈ ts, 0 ≤ z ∧ z ≤ 100) ∧
  ∀ l H' c, Same H H' → H l = none → H' l = some (.lst (vI c)) → Cp m n a b ts c → Q (.ref l) H'
theorem ok_law_copies (T : Txt K mg t) : FnOk P w K mg base CX0 1 t.f_law_copies t.d_law_copies ["layer", "sizes", "across", "along"] (sp_copies K) := by
  refine T.law_copies.F.ok sc_law_copies (fun vs H Q E h => ?_) (fun cdv A outer s H vs Q E hr h => ?_)
  · obtain ⟨r, sz, ts, m, n, a, b, rfl, _⟩ := h
    rfl
  · obtain ⟨r, sz, ts, m, n, a, b, rfl, hS, hsz2, m7, n7, a4, b3, few, bd, k⟩ := h
    have hsz : sizeLine = 16777216 := sizeLine_eq
    refine ⟨_, (pss_cons (ps_set (i := 4) sc_law_copies.nd rfl (Or.inr rfl) (pe_ix (ix_tupK (K := K)) (pv 1) pe_int (fun _ _ => rfl)))
      (pss_cons (ps_set (i := 5) sc_law_copies.nd rfl (Or.inr rfl) (pe_op op_mul (pv 4) (pv 2)))
      (pss_cons (ps_set (i := 6) sc_law_copies.nd rfl (Or.inl rfl) (pe_lst pa_nil))
      (pss_cons (ps_for PassesOwn.never rfl (pi_listK (K := K) (pv 0)) (pg_name (i := 7) sc_law_copies.nd rfl (Or.inr rfl))
        (pss_one (ps_if (pt_cmpR op_lt (pv 7) (pv 4) (nomark _))
          (pss_one (ps_set (i := 6) sc_law_copies.nd rfl (Or.inl rfl) (pe_op op_cat (pv 6) (pe_comp (CompOk.mk (caps := [4, 7]) (Nc := ["k", "ends", "strand"]) rfl (by decide +kernel) (by decide +kernel) (comp_fr (sc0 := defScope s_law_copies) rfl (by decide +kernel)) rfl rfl rfl (by decide +kernel) (fun k j h => match k, h with | 0, h => by obtain rfl := Option.some.inj h; exact ⟨_, rfl, rfl, rfl⟩ | 1, h => by obtain rfl := Option.some.inj h; exact ⟨_, rfl, rfl, rfl⟩ | _ + 2, h => by simp at h)) rfl (pi_range1 rfl T.b_range (pa_cons (pv 2) pa_nil)) (fun _ _ _ _ _ => .nil) (fun _ _ _ _ _ => (pe_op op_add (pv 2) (pe_op op_mul (pv 1) (pv 0))))))))
          (pss_one (ps_set (i := 6) sc_law_copies.nd rfl (Or.inl rfl) (pe_op op_cat (pv 6) (pe_comp (CompOk.mk (caps := [1, 4, 5, 7]) (Nc := ["k", "sizes", "ends", "wide", "strand"]) rfl (by decide +kernel) (by decide +kernel) (comp_fr (sc0 := defScope s_law_copies) rfl (by decide +kernel)) rfl rfl rfl (by decide +kernel) (fun k j h => match k, h with | 0, h => by obtain rfl := Option.some.inj h; exact ⟨_, rfl, rfl, rfl⟩ | 1, h => by obtain rfl := Option.some.inj h; exact ⟨_, rfl, rfl, rfl⟩ | 2, h => by obtain rfl := Option.some.inj h; exact ⟨_, rfl, rfl, rfl⟩ | 3, h => by obtain rfl := Option.some.inj h; exact ⟨_, rfl, rfl, rfl⟩ | _ + 4, h => by simp at h)) rfl (pi_range1 rfl T.b_range (pa_cons (pv 3) pa_nil)) (fun _ _ _ _ _ => .nil) (fun _ _ _ _ _ => (pe_op op_add (pe_op op_sub (pe_op op_add (pv 3) (pv 4)) (pv 2)) (pe_op op_mul (pe_ix (ix_tupK (K := K)) (pv 1) pe_int (fun _ _ => rfl)) (pv 0)))))))))))
      (pss_one (ps_ret (pe_callB (call_sortI (K := K)) rfl T.b_sorted bt_sorted (pa_cons (pv 6) pa_nil)))))))), ?_⟩
    refine ⟨_, rfl, _, _, _, _, rfl, rfl, SqT.of hsz2, atI_of (by decide) rfl, ?_⟩
    refine ⟨_, rfl, _, rfl, _, _, rfl, rfl, .inl ⟨by omega, by omega⟩, ?_⟩
    refine ⟨Nat.zero_le _, fun d nd => ?_⟩
    have s1 : Same H (upd H d (.lst [])) := .upd nd
    have g1 : (upd H d (.lst [])) d = some (.lst (vI [])) := upd_same
    generalize upd H d (.lst []) = H1 at s1 g1 ⊢
    refine ⟨_, rfl, _, rfl, ⟨_, s1.seq hS⟩, for_list (K := K) (a := r) (xs := vI ts) (fun i σ H2 => ∃ (md : Addr) (v7 : Option V), σ = [some (.ref r), some (.ref sz), some (.int (a : Int)), some (.int (b : Int)), some (.int (m : Int)), some (.int ((m : Int) * (a : Int))), some (.ref md), v7] ∧ Same H H2 ∧ H2 md = some (.lst (vI ((ts.take i).flatMap (cpS m n a b)))))
      ⟨d, none, rfl, s1, g1⟩ (fun i σ H2 _ ⟨_, _, _, s2, _⟩ => s2.seq hS) ?_ ?_⟩
    · rintro i x σ H2 hx ⟨md, v7, rfl, s2, g2⟩
      obtain ⟨z, hz, rfl⟩ := vI_got hx
      have et : ts.take (i + 1) = ts.take i ++ [z] := by rw [List.take_add_one, hz]; rfl
      have ef : (ts.take (i + 1)).flatMap (cpS m n a b) = (ts.take i).flatMap (cpS m n a b) ++ cpS m n a b z := by rw [et, List.flatMap_append, List.flatMap_cons, List.flatMap_nil, List.append_nil]
      have lf : ((ts.take i).flatMap (cpS m n a b)).length + (cpS m n a b z).length < 64 := by
        have e1 : ts = ts.take (i + 1) ++ ts.drop (i + 1) := (List.take_append_drop _ _).symm
        rw [e1, List.flatMap_append, ef, List.length_append, List.length_append] at few
        omega
      obtain ⟨z0, z1⟩ := bd z (List.mem_of_getElem? hz)
      have gz := s2 _ _ hsz2
      have mm : (m : Int) * (a : Int) ≤ 7 * 4 := Int.mul_le_mul (by omega) (by omega) (by omega) (by omega)
      refine ⟨_, rfl, _, rfl, _, _, rfl, rfl, _, rfl, ?_⟩
      refine ite2D (fun h => ?_) (fun h => ?_)
      · have ez : cpS m n a b z = (List.range a).map (fun k : Nat => z + (m : Int) * k) := by unfold cpS; rw [if_pos h]
        rw [ez] at ef lf
        refine ⟨_, rfl, _, rfl, _, rfl, (by omega), (by omega), ?_⟩
        rw [Int.toNat_natCast]
        refine comp_range (lo := 0) (n := a) (fun j ys H3 => H3 = H2 ∧ ys = vI ((List.range j).map fun k : Nat => z + (m : Int) * k)) ⟨rfl, rfl⟩ ?_ ?_ ?_ ?_
        · rintro j ys H3 hj ⟨rfl, rfl⟩
          rw [vI_len, List.length_map, List.length_range]
          exact Nat.le_refl _
        · omega
        · rintro j ys H3 hj ⟨rfl, rfl⟩
          refine CTurn.no ?_
          refine ⟨_, rfl, _, rfl, _, rfl, _, _, rfl, rfl, .inl ⟨by omega, by omega⟩, _, _, rfl, rfl, ?_⟩
          refine CN.of hj ⟨rfl, ?_⟩
          rw [List.range_succ, List.map_append, ← vI_app2, Int.zero_add]
          rfl
        · rintro ys H3 p ⟨rfl, rfl⟩ hp
          have s4 : Same H3 (upd H3 p (.lst (vI ((List.range a).map fun k : Nat => z + (m : Int) * k)))) := .upd hp
          have g4 : (upd H3 p (.lst (vI ((List.range a).map fun k : Nat => z + (m : Int) * k)))) p = some (.lst (vI ((List.range a).map fun k : Nat => z + (m : Int) * k))) := upd_same
          generalize upd H3 p (.lst (vI ((List.range a).map fun k : Nat => z + (m : Int) * k))) = H4 at s4 g4 ⊢
          refine ⟨_, _, _, _, rfl, rfl, s4 _ _ g2, g4, (by rw [vI_len, vI_len]; omega), fun p2 hp2 => ?_⟩
          rw [vI_app2, ← ef]
          exact ⟨p2, _, rfl, (s2.trans s4).new hp2, upd_same⟩
      · have ez : cpS m n a b z = (List.range b).map (fun k : Nat => (m : Int) * a + z - m + (n : Int) * k) := by unfold cpS; rw [if_neg h]
        rw [ez] at ef lf
        refine ⟨_, rfl, _, rfl, _, rfl, (by omega), (by omega), ?_⟩
        rw [Int.toNat_natCast]
        refine comp_range (lo := 0) (n := b) (fun j ys H3 => H3 = H2 ∧ ys = vI ((List.range j).map fun k : Nat => (m : Int) * a + z - m + (n : Int) * k)) ⟨rfl, rfl⟩ ?_ ?_ ?_ ?_
        · rintro j ys H3 hj ⟨rfl, rfl⟩
          rw [vI_len, List.length_map, List.length_range]
          exact Nat.le_refl _
        · omega
        · rintro j ys H3 hj ⟨rfl, rfl⟩
          refine CTurn.no ?_
          refine ⟨_, rfl, _, rfl, _, _, rfl, rfl, _, rfl, _, _, rfl, rfl, _, rfl, _, _, _, _, rfl, rfl, SqT.of gz, atI_of (by decide) rfl, _, rfl, _, _, rfl, rfl, .inl ⟨by omega, by omega⟩, _, _, rfl, rfl, ?_⟩
          refine CN.of hj ⟨rfl, ?_⟩
          rw [List.range_succ, List.map_append, ← vI_app2, Int.zero_add]
          rfl
        · rintro ys H3 p ⟨rfl, rfl⟩ hp
          have s4 : Same H3 (upd H3 p (.lst (vI ((List.range b).map fun k : Nat => (m : Int) * a + z - m + (n : Int) * k)))) := .upd hp
          have g4 : (upd H3 p (.lst (vI ((List.range b).map fun k : Nat => (m : Int) * a + z - m + (n : Int) * k)))) p = some (.lst (vI ((List.range b).map fun k : Nat => (m : Int) * a + z - m + (n : Int) * k))) := upd_same
          generalize upd H3 p (.lst (vI ((List.range b).map fun k : Nat => (m : Int) * a + z - m + (n : Int) * k))) = H4 at s4 g4 ⊢
          refine ⟨_, _, _, _, rfl, rfl, s4 _ _ g2, g4, (by rw [vI_len, vI_len]; omega), fun p2 hp2 => ?_⟩
          rw [vI_app2, ← ef]
          exact ⟨p2, _, rfl, (s2.trans s4).new hp2, upd_same⟩
    · rintro σ H2 ⟨md, v7, rfl, s2, g2⟩
      rw [vI_len, List.take_length] at g2
      refine ⟨_, rfl, md, _, rfl, SqL.of g2, few, fun l c pc sc nl => ?_⟩
      exact k l _ c (s2.new nl) (s2.free nl) upd_same ⟨pc, sc⟩
end
end Mine

set_option Elab.async false
set_option linter.all false
set_option maxRecDepth 100000
set_option maxHeartbeats 4000000
namespace Mine
open PySem L2
section
variable {P : Program} {w : World} {K : PySem.W.Frag} {mg : Str → Option Value} {base : Heap} {t : Adr}
theorem flatMap_le {f : Int → List Int} {l l' : List Int} (h : l.Sublist l') : (l.flatMap f).length ≤ (l'.flatMap f).length := by
  induction h with
  | slnil => exact Nat.le_refl _
  | cons x _ ih => rw [List.flatMap_cons, List.length_append]; omega
  | cons_cons x _ ih => rw [List.flatMap_cons, List.flatMap_cons, List.length_append, List.length_append]; omega
theorem flat_sub : ∀ {l l' : List (List Int)}, l.Sublist l' → l.flatten.Sublist l'.flatten
  | _, _, .slnil => List.Sublist.refl _
  | _, _, .cons x h => (flat_sub h).trans (by rw [List.flatten_cons]; exact List.sublist_append_right _ _)
  | _, _, .cons_cons x h => by rw [List.flatten_cons, List.flatten_cons]; exact List.Sublist.append (List.Sublist.refl _) (flat_sub h)
theorem Lay.fewCp {up : Nat → Nat → Bool} {m n : Nat} {tss : List (List Int)} {zs : List (Nat × Nat)} {eo po : List Nat} (L : Lay up m n tss zs eo po) (a b k k2 : Nat) : (((tss.take k2).drop k).flatten.flatMap (cpS m n a b)).length ≤ a * m + b * n := by
  refine Nat.le_trans (flatMap_le (flat_sub ((List.drop_sublist _ _).trans (List.take_sublist _ _)))) ?_
  have p := (L.all.flatMap_right (cpS m n a b)).length_eq
  rw [← map_range, List.flatMap_append, cpE (fun e he => List.mem_range.mp he), cpP, List.length_append, List.length_map, List.length_map, cpy_len, cpy_len, List.length_range, List.length_range] at p
  omega
theorem Lay.memPart {up : Nat → Nat → Bool} {m n : Nat} {tss : List (List Int)} {zs : List (Nat × Nat)} {eo po : List Nat} (L : Lay up m n tss zs eo po) (k k2 : Nat) : ∀ z ∈ ((tss.take k2).drop k).flatten, 0 ≤ z ∧ z < ((m + n : Nat) : Int) := fun z hz => by
  have := (flat_sub ((List.drop_sublist k (tss.take k2)).trans (List.take_sublist k2 tss))).subset hz
  obtain ⟨q, hq, rfl⟩ := List.mem_map.mp (L.all.mem_iff.mp this)
  have := List.mem_range.mp hq
  omega
theorem part_one {tss : List (List Int)} {k : Nat} {u : List Int} (h : tss[k]? = some u) : ((tss.take (k + 1)).drop k).flatten = u := by
  obtain ⟨hk, e⟩ := List.getElem?_eq_some_iff.mp h
  rw [List.take_succ_eq_append_getElem hk, List.drop_append_of_le_length (by rw [List.length_take]; omega), List.drop_of_length_le (by rw [List.length_take]; omega), e, List.nil_append, List.flatten_cons, List.flatten_nil, List.append_nil]
theorem part_succ {tss : List (List Int)} {k k2 : Nat} {u : List Int} (hk : k ≤ k2) (h : tss[k2]? = some u) : ((tss.take (k2 + 1)).drop k).flatten = ((tss.take k2).drop k).flatten ++ u := by
  obtain ⟨hk2, e⟩ := List.getElem?_eq_some_iff.mp h
  rw [List.take_succ_eq_append_getElem hk2, List.drop_append_of_le_length (by rw [List.length_take]; omega), List.flatten_append, e, List.flatten_cons, List.flatten_nil, List.append_nil]
theorem NL.cat {H : Hp} {x y z : Addr} {ps qs : List Addr} {us vs : List (List Int)} (N : NL H x ps us) (M : NL H y qs vs) (nz : H z = none) : NL (upd H z (.lst ((ps ++ qs).map V.ref))) z (ps ++ qs) (us ++ vs) := by
  refine ⟨upd_same, by rw [List.length_append, List.length_append, N.l, M.l], fun i q ks e1 e2 => ?_⟩
  have g : H q = some (.lst (vI ks)) := by
    by_cases hi : i < ps.length
    · rw [List.getElem?_append_left hi] at e1
      rw [List.getElem?_append_left (by rw [← N.l]; exact hi)] at e2
      exact N.r i q ks e1 e2
    · rw [List.getElem?_append_right (by omega)] at e1
      rw [List.getElem?_append_right (by rw [← N.l]; omega), ← N.l] at e2
      exact M.r _ q ks e1 e2
  rw [upd_ne (fun e => by rw [e, nz] at g; cases g)]
  exact g
theorem NL.off {H : Hp} {x z : Addr} {ps : List Addr} {us : List (List Int)} (N : NL H x ps us) (nz : H z = none) : ∀ q ∈ ps, q ≠ z := fun q hq e => by
  obtain ⟨i, hi, ei⟩ := List.getElem_of_mem hq
  have g := N.r i q _ (by rw [List.getElem?_eq_getElem hi, ei]) (List.getElem?_eq_getElem (by rw [← N.l]; exact hi))
  rw [e, nz] at g
  cases g
theorem by_restT {G : Prop} {R : Nat → Addr → Hp → Prop} (C : Nat → Addr → Hp → Prop) (main : (∀ k x H, C k x H → R k x H) → G) (rest : ∀ k x H, C k x H → R k x H) : G := main rest
def sp_due : Sp := fun vs H Q _ => ∃ (l sz : Addr) (rs : List Addr) (tss : List (List Int)) (m n a b : Nat) (up : Nat → Nat → Bool) (zs : List (Nat × Nat)) (eo po : List Nat), vs = [.ref l, .ref sz, .int (a : Int), .int (b : Int)] ∧ NL H l rs tss ∧ H sz = some (.tup [.int (m : Int), .int (n : Int)]) ∧ Lay up m n tss zs eo po ∧ m ≤ 7 ∧ n ≤ 7 ∧ a ≤ 4 ∧ b ≤ 3 ∧
  ∀ d H' ps dues, Same H H' → NL H' d ps dues → DueR m n a b tss tss.length dues → Q (.ref d) H'
theorem ok_law_due (T : Txt K mg t) : FnOk P w K mg base CX0 2 t.f_law_due t.d_law_due ["layers", "sizes", "across", "along"] sp_due := by
  have G_law_lone : FnOk P w K mg base CX0 1 t.f_law_lone t.d_law_lone _ _ := ok_law_lone T
  have G_law_copies : FnOk P w K mg base CX0 1 t.f_law_copies t.d_law_copies _ _ := ok_law_copies T
  refine T.law_due.F.ok sc_law_due (fun vs H Q E h => ?_) (fun cdv A outer s H vs Q E hr h => ?_)
  · obtain ⟨l, sz, rs, tss, m, n, a, b, up, zs, eo, po, rfl, _⟩ := h
    rfl
  · obtain ⟨l, sz, rs, tss, m, n, a, b, up, zs, eo, po, rfl, N, gz, L, m7, n7, a4, b3, k⟩ := h
    have hsz : sizeLine = 16777216 := sizeLine_eq
    have rl : (rs.map V.ref).length = tss.length := by rw [List.length_map, N.l]
    have few := L.few
    have am : a * m + b * n ≤ 4 * 7 + 3 * 7 := Nat.add_le_add (Nat.mul_le_mul a4 m7) (Nat.mul_le_mul b3 n7)
    refine ⟨_, (pss_cons (ps_set (i := 4) sc_law_due.nd rfl (Or.inl rfl) (pe_lst pa_nil))
      (pss_cons (ps_set (i := 5) sc_law_due.nd rfl (Or.inl rfl) pe_int)
      (pss_cons (ps_while PassesOwn.never (pt_cmpR op_lt (pv 5) (pe_callB (call_len_seqK (K := K)) rfl T.b_len bt_len (pa_cons (pv 0) pa_nil)) (nomark _))
        (pss_cons (ps_set (i := 6) sc_law_due.nd rfl (Or.inl rfl) (pe_call (G_law_lone.mono (by decide)) hr rfl T.law_lone.m T.law_lone.F.kp T.law_lone.b .nil pass0 (pa_cons (pe_ix (ix_listK (K := K)) (pv 0) (pv 5) (fun _ _ => rfl)) (pa_cons (pe_ix (ix_tupK (K := K)) (pv 1) pe_int (fun _ _ => rfl)) pa_nil))))
        (pss_cons (ps_set (i := 7) sc_law_due.nd rfl (Or.inl rfl) (pe_callTy (call_list_ofK (K := K)) rfl T.b_list bt_list (pa_cons (pe_ix (ix_listK (K := K)) (pv 0) (pv 5) (fun _ _ => rfl)) pa_nil)))
        (pss_cons (ps_set (i := 5) sc_law_due.nd rfl (Or.inl rfl) (pe_op op_add (pv 5) pe_int))
        (pss_cons (ps_while PassesOwn.never (PW.pt (pw_and (pt_cmpR op_gt (pv 6) pe_int (nomark _)) (pw_and (pt_cmpR op_lt (pv 5) (pe_callB (call_len_seqK (K := K)) rfl T.b_len bt_len (pa_cons (pv 0) pa_nil)) (nomark _)) (pw_and1 (pt_cmpR op_eq (pe_call (G_law_lone.mono (by decide)) hr rfl T.law_lone.m T.law_lone.F.kp T.law_lone.b .nil pass0 (pa_cons (pe_ix (ix_listK (K := K)) (pv 0) (pv 5) (fun _ _ => rfl)) (pa_cons (pe_ix (ix_tupK (K := K)) (pv 1) pe_int (fun _ _ => rfl)) pa_nil))) (pv 6) (nomark _))))))
          (pss_cons (ps_set (i := 7) sc_law_due.nd rfl (Or.inl rfl) (pe_op op_cat (pv 7) (pe_ix (ix_listK (K := K)) (pv 0) (pv 5) (fun _ _ => rfl))))
          (pss_one (ps_set (i := 5) sc_law_due.nd rfl (Or.inl rfl) (pe_op op_add (pv 5) pe_int)))))
        (pss_cons (ps_set (i := 8) sc_law_due.nd rfl (Or.inl rfl) (pe_call (G_law_copies.mono (by decide)) hr rfl T.law_copies.m T.law_copies.F.kp T.law_copies.b .nil pass0 (pa_cons (pv 7) (pa_cons (pv 1) (pa_cons (pv 2) (pa_cons (pv 3) pa_nil))))))
        (pss_one (ps_if (pt_cmpR op_eq (pv 6) pe_int (nomark _))
          (pss_one (ps_expr (pe_bmK (K := K) PySem.F.plainAttrs_list PySem.F.slot_list_append PySem.F.type_list_append mt_append (pv 4) (pa_cons (pv 8) pa_nil))))
          (pss_one (ps_set (i := 4) sc_law_due.nd rfl (Or.inl rfl) (pe_op op_cat (pv 4) (pe_comp (CompOk.mk (caps := []) (Nc := ["strand"]) rfl (by decide +kernel) (by decide +kernel) (comp_fr (sc0 := defScope s_law_due) rfl (by decide +kernel)) rfl rfl rfl (by decide +kernel) (fun _ _ h => by simp at h)) rfl (pi_listK (K := K) (pv 8)) (fun _ _ _ _ _ => .nil) (fun _ _ _ _ _ => (pe_lst (pa_cons (pv 0) pa_nil)))))))))))))))
      (pss_one (ps_ret (pv 4)))))), ?_⟩
    refine ⟨Nat.zero_le _, fun d nd => ?_⟩
    have s1 : Same H (upd H d (.lst [])) := .upd nd
    have g1 : (upd H d (.lst [])) d = some (.lst []) := upd_same
    generalize upd H d (.lst []) = H1 at s1 g1 ⊢
    refine ⟨fun w σ H2 => ∃ (kk : Nat) (du : Addr) (ps : List Addr) (dues : List (List Int)) (v6 v7 v8 : Option V), w = tss.length - kk ∧ σ = [some (.ref l), some (.ref sz), some (.int (a : Int)), some (.int (b : Int)), some (.ref du), some (.int (kk : Int)), v6, v7, v8] ∧ Same H H2 ∧ H du = none ∧ NL H2 du ps dues ∧ (∀ q ∈ ps, q ≠ du) ∧ DueR m n a b tss kk dues ∧ kk ≤ tss.length ∧ dues.length ≤ 64 * kk,
      ⟨_, 0, d, [], [], none, none, none, rfl, rfl, s1, nd, ⟨g1, rfl, fun i a ks e => by simp at e⟩, fun q hq => by simp at hq, .zero, Nat.zero_le _, Nat.zero_le _⟩, ?_⟩
    rintro w σ H2 ⟨kk, du, ps, dues, v6, v7, v8, rfl, rfl, s2, ndu, N2, nps, D, hkk, dl⟩
    have M2 := N.same s2
    refine ⟨_, rfl, _, rfl, _, _, rfl, .inl (SqL.of M2.h), _, _, rfl, rfl, _, rfl, ?_⟩
    rw [rl]
    refine ite2D (fun lt => ?_) (fun ge => ?_)
    · have hk : kk < tss.length := by omega
      have hk2 : kk < rs.length := by rw [N.l]; exact hk
      have gr := M2.r kk _ _ (List.getElem?_eq_getElem hk2) (List.getElem?_eq_getElem hk)
      have a1 : atI (rs.map V.ref) (kk : Int) = some (.ref rs[kk]) := atI_of (by omega) (by rw [Int.toNat_natCast, List.getElem?_map, List.getElem?_eq_getElem hk2]; rfl)
      refine ⟨fun σ H3 => ∃ (k2 : Nat) (du : Addr) (ps : List Addr) (dues : List (List Int)) (v6 v7 v8 : Option V), kk < k2 ∧ σ = [some (.ref l), some (.ref sz), some (.int (a : Int)), some (.int (b : Int)), some (.ref du), some (.int (k2 : Int)), v6, v7, v8] ∧ Same H H3 ∧ H du = none ∧ NL H3 du ps dues ∧ (∀ q ∈ ps, q ≠ du) ∧ DueR m n a b tss k2 dues ∧ k2 ≤ tss.length ∧ dues.length ≤ 64 * k2,
        fun σ' H' ⟨k2, du, ps, dues, v6, v7, v8, h1, h2, h3, h4, h5, h6, h7, h8, h9⟩ => ⟨tss.length - k2, by omega, k2, du, ps, dues, v6, v7, v8, rfl, h2, h3, h4, h5, h6, h7, h8, h9⟩, ?_⟩
      refine ⟨_, rfl, _, rfl, _, _, _, _, rfl, rfl, SqL.of M2.h, a1, _, rfl, _, _, _, _, rfl, rfl, SqT.of (s2 _ _ gz), atI_of (by decide) rfl, rs[kk], tss[kk], m, rfl, SqL.of gr, ?_⟩
      obtain ⟨dd, hdd⟩ : ∃ dd, kd m tss[kk] = dd := ⟨_, rfl⟩
      rw [hdd]
      refine ⟨_, rfl, _, rfl, _, _, _, _, rfl, rfl, SqL.of M2.h, a1, _, _, rfl, .inl (SqL.of gr), fun tg0 ntg => ?_⟩
      have s3 : Same H2 (upd H2 tg0 (.lst (vI tss[kk]))) := .upd ntg
      have g3 : (upd H2 tg0 (.lst (vI tss[kk]))) tg0 = some (.lst (vI tss[kk])) := upd_same
      generalize upd H2 tg0 (.lst (vI tss[kk])) = H3 at s3 g3 ⊢
      refine ⟨_, rfl, _, _, rfl, rfl, ?_⟩
      apply by_restT (fun k2 tg H4 => Same H2 H4 ∧ H4 tg = some (.lst (vI ((tss.take k2).drop kk).flatten)) ∧ kk < k2 ∧ k2 ≤ tss.length ∧ (dd = 0 → k2 = kk + 1) ∧ (∀ i u, kk ≤ i → i < k2 → tss[i]? = some u → kd m u = dd) ∧ (0 < dd → ∀ u, tss[k2]? = some u → kd m u ≠ dd))
      · intro rest
        refine ⟨fun w σ H4 => ∃ (k2 : Nat) (tg : Addr), w = tss.length - k2 ∧ σ = [some (.ref l), some (.ref sz), some (.int (a : Int)), some (.int (b : Int)), some (.ref du), some (.int (k2 : Int)), some (.int (dd : Int)), some (.ref tg), v8] ∧ Same H2 H4 ∧ H4 tg = some (.lst (vI ((tss.take k2).drop kk).flatten)) ∧ kk < k2 ∧ k2 ≤ tss.length ∧ (dd = 0 → k2 = kk + 1) ∧ ∀ i u, kk ≤ i → i < k2 → tss[i]? = some u → kd m u = dd,
          ⟨_, kk + 1, tg0, rfl, ?_, s3, by rw [part_one (List.getElem?_eq_getElem hk)]; exact g3, by omega, by omega, fun _ => rfl, fun i u h1 h2 h3 => ?_⟩, ?_⟩
        · rw [show ((kk + 1 : Nat) : Int) = (kk : Int) + 1 by omega]
          rfl
        · have : i = kk := by omega
          subst this
          rw [List.getElem?_eq_getElem hk] at h3
          cases h3
          exact hdd
        · rintro w σ H4 ⟨k2, tg, rfl, rfl, s4, g4, lt2, le2, c0, cA⟩
          have M4 := M2.same s4
          refine ⟨_, rfl, _, _, rfl, rfl, _, rfl, ?_⟩
          refine ite2D (fun pos => ?_) (fun pos => ?_)
          · refine ⟨_, rfl, _, rfl, _, _, rfl, .inl (SqL.of M4.h), _, _, rfl, rfl, _, rfl, ?_⟩
            rw [rl]
            refine ite2D (fun lt3 => ?_) (fun ge3 => ?_)
            · have hq : k2 < tss.length := by omega
              have hq2 : k2 < rs.length := by rw [N.l]; exact hq
              have gq := M4.r k2 _ _ (List.getElem?_eq_getElem hq2) (List.getElem?_eq_getElem hq)
              have a2 : atI (rs.map V.ref) (k2 : Int) = some (.ref rs[k2]) := atI_of (by omega) (by rw [Int.toNat_natCast, List.getElem?_map, List.getElem?_eq_getElem hq2]; rfl)
              refine ⟨_, rfl, _, rfl, _, _, _, _, rfl, rfl, SqL.of M4.h, a2, _, rfl, _, _, _, _, rfl, rfl, SqT.of (s4 _ _ (s2 _ _ gz)), atI_of (by decide) rfl, rs[k2], tss[k2], m, rfl, SqL.of gq, _, rfl, rfl, _, rfl, ?_⟩
              refine ite2D (fun eq => ?_) (fun ne => ?_)
              · have eq' : kd m tss[k2] = dd := by have := V.int.inj eq; omega
                refine ⟨fun σ H5 => ∃ tg' : Addr, σ = [some (.ref l), some (.ref sz), some (.int (a : Int)), some (.int (b : Int)), some (.ref du), some (.int ((k2 + 1 : Nat) : Int)), some (.int (dd : Int)), some (.ref tg'), v8] ∧ Same H2 H5 ∧ H5 tg' = some (.lst (vI ((tss.take (k2 + 1)).drop kk).flatten)),
                  fun σ' H' ⟨tg', e1, e2, e3⟩ => ⟨tss.length - (k2 + 1), by omega, k2 + 1, tg', rfl, e1, e2, e3, by omega, by omega, fun z => by omega, fun i u h1 h2 h3 => ?_⟩, ?_⟩
                · rcases Nat.lt_or_ge i k2 with c | c
                  · exact cA i u h1 c h3
                  · have : i = k2 := by omega
                    subst this
                    rw [List.getElem?_eq_getElem hq] at h3
                    cases h3
                    exact eq'
                · have lp : (((tss.take k2).drop kk).flatten).length + tss[k2].length ≤ 100 := by
                    have q1 := part_succ (k := kk) (k2 := k2) (by omega) (List.getElem?_eq_getElem hq)
                    have q2 := (flat_sub ((List.drop_sublist kk (tss.take (k2 + 1))).trans (List.take_sublist (k2 + 1) tss))).length_le
                    rw [q1, List.length_append, L.lenAll] at q2
                    omega
                  refine ⟨_, rfl, _, rfl, _, rfl, _, _, _, _, rfl, rfl, SqL.of M4.h, a2, _, _, _, _, rfl, rfl, g4, gq, (by rw [vI_len, vI_len]; omega), fun p5 hp5 => ?_⟩
                  rw [vI_app2, ← part_succ (by omega) (List.getElem?_eq_getElem hq)]
                  refine ⟨_, rfl, _, _, rfl, rfl, ?_⟩
                  refine ⟨p5, ?_, s4.new hp5, upd_same⟩
                  rw [show ((k2 + 1 : Nat) : Int) = (k2 : Int) + 1 by omega]
                  rfl
              · refine rest k2 tg H4 ⟨s4, g4, lt2, le2, c0, cA, fun _ u hu e => ?_⟩
                rw [List.getElem?_eq_getElem hq] at hu
                cases hu
                exact ne (by rw [e])
            · refine rest k2 tg H4 ⟨s4, g4, lt2, le2, c0, cA, fun _ u hu e => ?_⟩
              have := (List.getElem?_eq_some_iff.mp hu).1
              omega
          · refine rest k2 tg H4 ⟨s4, g4, lt2, le2, c0, cA, fun z => by omega⟩
      · rintro k2 tg H4 ⟨s4, g4, lt2, le2, c0, cA, nx⟩
        have u4 := s2.trans s4
        have N4 := N2.same s4
        refine ⟨_, rfl, _, rfl, _, rfl, _, rfl, tg, sz, _, m, n, a, b, rfl, SqL.of g4, u4 _ _ gz, m7, n7, a4, b3, (by have := L.fewCp a b kk k2; omega), (fun z hz => by have := L.memPart kk k2 z hz; omega), fun lc H5 c s5 nlc gc C => ?_⟩
        have u5 := u4.trans s5
        have N5 := N4.same s5
        have cl64 : c.length < 64 := by rw [C.p.length_eq]; have := L.fewCp a b kk k2; omega
        have pl := N5.l
        refine ⟨_, rfl, rfl, _, rfl, ?_⟩
        refine ite2D (fun z => ?_) (fun z => ?_)
        · have d0 : dd = 0 := by have := V.int.inj z; omega
          have e2 := c0 d0
          subst e2
          rw [part_one (List.getElem?_eq_getElem hk)] at C
          refine ⟨_, rfl, .inl ⟨rfl, _, SqL.of N5.h⟩, _, rfl, _, _, _, rfl, rfl, N5.h, (by rw [List.length_map]; omega), ?_⟩
          have e8 : ps.map V.ref ++ [V.ref lc] = (ps ++ [lc]).map V.ref := by rw [List.map_append]; rfl
          rw [e8]
          have nlc2 : lc ≠ du := fun e => by rw [e, N4.h] at nlc; cases nlc
          refine ⟨kk + 1, du, ps ++ [lc], dues ++ [c], _, _, _, by omega, rfl, u5.over ndu, ndu, N5.app gc nps nlc2, fun q hq => ?_, .mix D (List.getElem?_eq_getElem hk) (by omega) C, le2, by rw [List.length_append]; show _ + 1 ≤ _; omega⟩
          rcases List.mem_append.mp hq with w' | w'
          · exact nps q w'
          · rw [List.mem_singleton.mp w']; exact nlc2
        · have d0 : 0 < dd := by
            rcases Nat.eq_zero_or_pos dd with y | y
            · exact absurd (by rw [y]; rfl) z
            · exact y
          refine ⟨_, rfl, _, rfl, _, rfl, ⟨_, SqL.of gc⟩, comp_list (K := K) (a := lc) (xs := vI c) (fun j ys H6 => ∃ qs : List Addr, Same H5 H6 ∧ ys = qs.map V.ref ∧ qs.length = j ∧ ∀ (i : Nat) (q : Addr) (y : Int), qs[i]? = some q → c[i]? = some y → H6 q = some (.lst (vI [y])))
            ⟨[], .refl _, rfl, rfl, fun i q y e => by simp at e⟩ ?_ ?_ ?_ ?_⟩
          · rintro j ys H6 hj ⟨qs, s6, rfl, ql, _⟩
            exact ⟨SqL.of (s6 _ _ gc), by rw [List.length_map]; omega⟩
          · rw [vI_len]; omega
          · rintro j x ys H6 hj hx ⟨qs, s6, rfl, ql, qg⟩
            obtain ⟨y, hy, rfl⟩ := vI_got hx
            refine CTurn.no ?_
            refine ⟨_, rfl, (by show 1 ≤ sizeLine; omega), fun q hq => ?_⟩
            refine CN.of hj ⟨qs ++ [q], s6.new hq, by rw [List.map_append]; rfl, by rw [List.length_append, ql]; rfl, fun i q' y' e1 e2 => ?_⟩
            rcases Nat.lt_or_ge i qs.length with w' | w'
            · rw [List.getElem?_append_left w'] at e1
              have g := qg i q' y' e1 e2
              exact (Same.upd hq) _ _ g
            · rw [List.getElem?_append_right w'] at e1
              have : i = j := by
                have := (List.getElem?_eq_some_iff.mp e1).1
                simp at this
                omega
              subst this
              rw [ql, Nat.sub_self] at e1
              cases e1
              rw [hy] at e2
              cases e2
              exact upd_same
          · rintro ys H6 p6 ⟨qs, s6, rfl, ql, qg⟩ hp6
            rw [vI_len] at ql
            have s7 : Same H6 (upd H6 p6 (.lst (qs.map V.ref))) := .upd hp6
            have M7 : NL (upd H6 p6 (.lst (qs.map V.ref))) p6 qs (c.map fun z => [z]) := by
              refine ⟨upd_same, by rw [List.length_map]; exact ql, fun i q ks e1 e2 => ?_⟩
              rw [List.getElem?_map] at e2
              obtain ⟨y, hy, rfl⟩ := Option.map_eq_some_iff.mp e2
              exact s7 _ _ (qg i q y e1 hy)
            have N7 := (N5.same s6).same s7
            have u7 := (u5.trans s6).trans s7
            generalize upd H6 p6 (.lst (qs.map V.ref)) = H7 at s7 M7 N7 u7 ⊢
            refine ⟨_, _, _, _, rfl, rfl, N7.h, M7.h, (by rw [List.length_map, List.length_map]; omega), fun p8 hp8 => ?_⟩
            rw [← List.map_append]
            have s8 : Same H7 (upd H7 p8 (.lst ((ps ++ qs).map V.ref))) := .upd hp8
            refine ⟨k2, p8, ps ++ qs, dues ++ c.map fun z => [z], _, _, _, lt2, rfl, u7.trans s8, u7.free hp8, N7.cat M7 hp8, fun q hq => ?_, .run D lt2 le2 d0 cA (nx d0) C, le2, by rw [List.length_append, List.length_map]; omega⟩
            rcases List.mem_append.mp hq with w' | w'
            · exact N7.off hp8 q w'
            · exact M7.off hp8 q w'
    · have e : kk = tss.length := by omega
      subst e
      exact ⟨_, rfl, k du H2 ps dues s2 N2 D⟩
end
end Mine

set_option Elab.async false
set_option linter.all false
set_option maxRecDepth 100000
set_option maxHeartbeats 4000000
namespace Mine
open PySem L2
section
variable {P : Program} {w : World} {K : PySem.W.Frag} {mg : Str → Option Value} {base : Heap} {t : Adr}
theorem all_in {cl : List (List Nat)} {m n : Nat} (C : Cl cl m n) {dA dB : List Int} (pA : dA.Perm (eS cl m)) (pB : dB.Perm (pS cl)) (decA : dA.Pairwise (· ≥ ·)) (decB : dB.Pairwise (· ≥ ·)) {eo po : List Nat}
    (oE : Ord (aS (upC cl) n) m eo) (oP : Ord (bS (upC cl) m) n po) (s t : Nat) : (s, t) ∈ allT (Pz m n dA dB) n (m + 1) ↔ s ≤ m ∧ t ≤ n ∧ sm (aS (upC cl) n) (eo.take s) + sm (bS (upC cl) m) (po.take t) + s * t = s * n + t * m := by
  have eA : dA = eo.map fun e => ((aS (upC cl) n e : Nat) : Int) := dec_uniq (pA.trans (by rw [eS_up C]; exact (oE.perm.map _).symm)) decA (dec_map oE)
  have eB : dB = po.map fun e => ((bS (upC cl) m e : Nat) : Int) := dec_uniq (pB.trans (by rw [pS_up C]; exact (oP.perm.map _).symm)) decB (dec_map oP)
  have e1 : ((s * n : Nat) : Int) = (s : Int) * n := by rw [Int.natCast_mul]
  have e2 : ((t * m : Nat) : Int) = (t : Int) * m := by rw [Int.natCast_mul]
  have e3 : ((s * t : Nat) : Int) = (s : Int) * t := by rw [Int.natCast_mul]
  rw [mem_allT]
  show s < m + 1 ∧ t ≤ n ∧ Pz m n dA dB s t = true ↔ _
  unfold Pz
  rw [decide_eq_true_iff, eA, eB, ← List.map_take, ← List.map_take, sum_map, sum_map]
  constructor
  · rintro ⟨h1, h2, h3⟩
    exact ⟨by omega, h2, by omega⟩
  · rintro ⟨h1, h2, h3⟩
    exact ⟨by omega, h2, by omega⟩
theorem tps_mono {m n : Nat} {Q : Nat → Nat → Bool} {zs : List (Nat × Nat)} (T : Tps m n Q zs) {i : Nat} {a : Nat × Nat} (ea : zs[i]? = some a) : ∀ (d : Nat) (b : Nat × Nat), zs[i + d]? = some b → a.1 ≤ b.1 ∧ a.2 ≤ b.2
  | 0, b, eb => by rw [Nat.add_zero, ea] at eb; cases eb; exact ⟨Nat.le_refl _, Nat.le_refl _⟩
  | d + 1, b, eb => by
    have hl : i + d < zs.length := by have := (List.getElem?_eq_some_iff.mp eb).1; omega
    obtain ⟨h1, h2⟩ := tps_mono T ea d zs[i + d] (List.getElem?_eq_getElem hl)
    obtain ⟨h3, h4, _⟩ := T.stp (i + d) _ b (List.getElem?_eq_getElem hl) eb
    omega
theorem tpz_of {cl : List (List Nat)} {m n : Nat} (C : Cl cl m n) {dA dB : List Int} (pA : dA.Perm (eS cl m)) (pB : dB.Perm (pS cl)) (decA : dA.Pairwise (· ≥ ·)) (decB : dB.Pairwise (· ≥ ·)) {eo po : List Nat}
    (oE : Ord (aS (upC cl) n) m eo) (oP : Ord (bS (upC cl) m) n po) : Tpz (upC cl) m n (allT (Pz m n dA dB) n (m + 1)) eo po := by
  have T := Tps.of (sc_of C pA pB decA decB) C.m1
  have lex := allT_pw (Pz m n dA dB) n (m + 1)
  refine ⟨oE, oP, all_in C pA pB decA decB oE oP, lex, fun a b ha hb h => ?_⟩
  obtain ⟨i, hi, ei⟩ := List.getElem_of_mem ha
  obtain ⟨j, hj, ej⟩ := List.getElem_of_mem hb
  have e1 : (allT (Pz m n dA dB) n (m + 1))[i]? = some a := by rw [List.getElem?_eq_getElem hi, ei]
  have e2 : (allT (Pz m n dA dB) n (m + 1))[j]? = some b := by rw [List.getElem?_eq_getElem hj, ej]
  have lt := lex_at lex e1 e2 h
  exact tps_mono T e1 (j - i) b (by rw [show i + (j - i) = j by omega]; exact e2)
theorem NL.sam {H : Hp} {l l' : Addr} {rs rs' : List Addr} {tss : List (List Int)} (N : NL H l rs tss) (N' : NL H l' rs' tss) : SamS K H l l' := by
  refine ⟨_, _, SqL.of N.h, SqL.of N'.h, by rw [List.length_map, List.length_map, N.l, N'.l], fun i x y e1 e2 => ?_⟩
  obtain ⟨r, ks, rfl, a1, a2, a3⟩ := N.at e1
  obtain ⟨r', ks', rfl, b1, b2, b3⟩ := N'.at e2
  rw [a2] at b2
  cases b2
  refine .lst (SqL.of a3) (SqL.of b3) rfl fun j x y e1 e2 => ?_
  rw [e1] at e2
  cases e2
  obtain ⟨z, _, rfl⟩ := vI_got e1
  exact .flat rfl
theorem NL.sameT {H H' : Hp} {l : Addr} {rs : List Addr} {tss : List (List Int)} (N : NL H l rs tss) (t : SameT H H') : NL H' l rs tss := ⟨t.lst N.h, N.l, fun i r ks e1 e2 => t.lst (N.r i r ks e1 e2)⟩
theorem Lay.eachLen {up : Nat → Nat → Bool} {m n : Nat} {tss : List (List Int)} {zs : List (Nat × Nat)} {eo po : List Nat} (L : Lay up m n tss zs eo po) (h : m + n < 64) : tss.length ≤ 100 ∧ ∀ t ∈ tss, t.length ≤ 100 := by
  refine ⟨by have := L.few; omega, fun t ht => ?_⟩
  obtain ⟨i, hi, rfl⟩ := List.getElem_of_mem ht
  have := len_le hi
  rw [L.lenAll] at this
  omega
theorem til_up {cl : List (List Nat)} {m n a b : Nat} (C : Cl cl m n) : ∀ e p, e < m * a → p < n * b → upC (til cl a b) e p = upC cl (e % m) (p % n) := fun e p he hp => by
  have m1 := C.m1
  have n1 := C.n1
  have lw : (wid cl a).length = n := by unfold wid; rw [List.length_map, C.hn]
  have pn : p % n < n := Nat.mod_lt _ (by omega)
  have em : e % m < m := Nat.mod_lt _ (by omega)
  have hpc : p % n < cl.length := by rw [C.hn]; exact pn
  have hm := C.hm _ (List.getElem_mem hpc)
  have e1 : (til cl a b)[p]? = some ((List.replicate a cl[p % n]).flatten) := by
    unfold til
    rw [rep_get (wid cl a) b p (by rw [lw, Nat.mul_comm]; exact hp), lw]
    unfold wid
    rw [List.getElem?_map, List.getElem?_eq_getElem hpc]
    rfl
  have e2 : ((List.replicate a cl[p % n]).flatten)[e]? = cl[p % n][e % m]? := by
    have := rep_get cl[p % n] a e (by rw [hm, Nat.mul_comm]; exact he)
    rw [this, hm]
  unfold upC
  rw [List.getD_eq_getElem?_getD (l := til cl a b), e1, List.getD_eq_getElem?_getD (l := cl), List.getElem?_eq_getElem hpc]
  show (((List.replicate a cl[p % n]).flatten).getD e 0 == 35) = (cl[p % n].getD (e % m) 0 == 35)
  rw [List.getD_eq_getElem?_getD, e2, List.getD_eq_getElem?_getD]
def sp_law (K : PySem.W.Frag) (tT : Addr) : Sp := fun vs H Q _ => ∃ (a : Addr) (ns : List Int), vs = [.ref a] ∧ SqL K H a (vI ns) ∧ ns.length ≤ 63 ∧ Tb tT "layers_of.<locals>.<lambda>" H ∧ ∀ H', Q (.bl true) H'
theorem sp_law_holds {K : PySem.W.Frag} {tT : Addr} {H : Hp} {a : Addr} {ns : List Int} (hl : ns.length ≤ 63) (hS : SqL K H a (ns.map V.int)) (tb : Tb tT "layers_of.<locals>.<lambda>" H) : sp_law K tT [.ref a] H (fun v _ => v = .bl true) fun _ _ _ => False := ⟨a, ns, rfl, hS, hl, tb, fun _ => rfl⟩
theorem ok_law {tc tT : Addr} (T : Txt K mg t) (hcd : t.d_layers_of.code = .ref tc) (hCd : PySem.W.CodeHd base tc tT) (hBm : Bm mg base) : FnOk P w K mg base CX0 8 t.f_law t.d_law ["script"] (sp_law K tT) := by
  have G_law_cloth : FnOk P w K mg base CX0 3 t.f_law_cloth t.d_law_cloth _ _ := ok_law_cloth T
  have G_law_at : FnOk P w K mg base CX0 1 t.f_law_at t.d_law_at _ _ := ok_law_at T
  have G_layers_of : FnOk P w K mg base CX0 6 t.f_layers_of t.d_layers_of _ _ := ok_layers_of T hcd hCd hBm
  have G_tiled : FnOk P w K mg base CX0 4 t.f_tiled t.d_tiled _ _ := ok_tiled T
  have G_law_kinds : FnOk P w K mg base CX0 2 t.f_law_kinds t.d_law_kinds _ _ := ok_law_kinds T
  have G_law_due : FnOk P w K mg base CX0 2 t.f_law_due t.d_law_due _ _ := ok_law_due T
  refine T.law.F.ok sc_law (fun vs H Q E h => ?_) (fun cdv A outer s H vs Q E hr h => ?_)
  · obtain ⟨a, ns, rfl, _⟩ := h
    rfl
  · obtain ⟨a, ns, rfl, hS, hl, tb, k⟩ := h
    have hsz : sizeLine = 16777216 := sizeLine_eq
    refine ⟨_, (pss_cons (ps_set (i := 1) sc_law.nd rfl (Or.inl rfl) (pe_call (G_law_cloth.mono (by decide)) hr rfl T.law_cloth.m T.law_cloth.F.kp T.law_cloth.b .nil pass0 (pa_cons (pv 0) pa_nil)))
      (pss_cons (ps_set (i := 2) sc_law.nd rfl (Or.inl rfl) (pe_tup (pa_cons (pe_callB call_len_str rfl T.b_len bt_len (pa_cons (pe_ix (ix_listK (K := K)) (pv 1) pe_int (fun _ _ => rfl)) pa_nil)) (pa_cons (pe_callB (call_len_seqK (K := K)) rfl T.b_len bt_len (pa_cons (pv 1) pa_nil)) pa_nil))))
      (pss_cons (ps_set (i := 3) sc_law.nd rfl (Or.inl rfl) (pe_op op_add pe_int (pe_op op_mod (pe_call (G_law_at.mono (by decide)) hr rfl T.law_at.m T.law_at.F.kp T.law_at.b .nil pass0 (pa_cons (pv 0) (pa_cons pe_int pa_nil))) pe_int)))
      (pss_cons (ps_set (i := 4) sc_law.nd rfl (Or.inl rfl) (pe_op op_add pe_int (pe_op op_mod (pe_call (G_law_at.mono (by decide)) hr rfl T.law_at.m T.law_at.F.kp T.law_at.b .nil pass0 (pa_cons (pv 0) (pa_cons pe_int pa_nil))) pe_int)))
      (pss_cons (ps_set (i := 5) sc_law.nd rfl (Or.inl rfl) (pe_callTy (call_list_ofK (K := K)) rfl T.b_list bt_list (pa_cons (pv 1) pa_nil)))
      (pss_cons (ps_set (i := 6) sc_law.nd rfl (Or.inl rfl) (pe_call (G_layers_of.mono (by decide)) hr rfl T.layers_of.m T.layers_of.F.kp T.layers_of.b .nil pass0 (pa_cons (pv 5) pa_nil)))
      (pss_cons (ps_set (i := 7) sc_law.nd rfl (Or.inl rfl) (pe_call (G_layers_of.mono (by decide)) hr rfl T.layers_of.m T.layers_of.F.kp T.layers_of.b .nil pass0 (pa_cons (pe_call (G_tiled.mono (by decide)) hr rfl T.tiled.m T.tiled.F.kp T.tiled.b .nil pass0 (pa_cons (pv 5) (pa_cons (pv 3) (pa_cons (pv 4) pa_nil)))) pa_nil)))
      (pss_cons (ps_if (PW.pt (pw_or (pt_cmpR (op_neLK (K := K) (hr.units0)) (pv 5) (pv 1) (nomark _)) (pw_or (pt_not (pt_val (pe_call (G_law_kinds.mono (by decide)) hr rfl T.law_kinds.m T.law_kinds.F.kp T.law_kinds.b .nil pass0 (pa_cons (pv 6) pa_nil)))) (pw_or1 (pt_not (pt_val (pe_call (G_law_kinds.mono (by decide)) hr rfl T.law_kinds.m T.law_kinds.F.kp T.law_kinds.b .nil pass0 (pa_cons (pv 7) pa_nil))))))))
        (pss_one (ps_ret pe_bl))
        pss_nil)
      (pss_one (ps_ret (pe_cmpR (op_eqS (K := K) (hr.units100)) (pv 7) (pe_call (G_law_due.mono (by decide)) hr rfl T.law_due.m T.law_due.F.kp T.law_due.b .nil pass0 (pa_cons (pv 6) (pa_cons (pv 2) (pa_cons (pv 3) (pa_cons (pv 4) pa_nil))))) (nomark _)))))))))))), ?_⟩
    refine ⟨_, rfl, a, ns, rfl, hS, hl, fun lr cl m n H1 s1 nlr hlr C m7 n7 => ?_⟩
    have h0 : 0 < cl.length := by rw [C.hn]; exact C.n1
    have hm0 := C.hm cl[0] (List.getElem_mem h0)
    have m1 := C.m1
    have n1 := C.n1
    have hlen : (vS cl).length = n := by rw [vS_len, C.hn]
    have a0 : atI (vS cl) 0 = some (.str (tx cl[0])) := atI_of (by decide) (vS_get (List.getElem?_eq_getElem h0))
    refine ⟨_, rfl, _, _, _, _, rfl, rfl, SqL.of hlr, a0, _, rfl, (by rw [tx_len, hm0]; exact small40 C.m40), _, rfl, _, _, rfl, .inl (SqL.of hlr), (by show 2 ≤ sizeLine; decide), fun sz nsz => ?_⟩
    rw [tx_len, hm0, hlen]
    have s2 : Same H1 (upd H1 sz (.tup [.int (m : Int), .int (n : Int)])) := .upd nsz
    have gz : (upd H1 sz (.tup [.int (m : Int), .int (n : Int)])) sz = some (.tup [.int (m : Int), .int (n : Int)]) := upd_same
    generalize upd H1 sz (.tup [.int (m : Int), .int (n : Int)]) = H2 at s2 gz ⊢
    have u2 := s1.trans s2
    refine ⟨_, rfl, a, ns, 4, rfl, u2.seq hS, by decide, fun c4 => ?_⟩
    refine ⟨_, _, rfl, rfl, (by show (0 : Int) < 4; decide), _, _, rfl, rfl, ?_⟩
    refine ⟨_, rfl, a, ns, 5, rfl, u2.seq hS, by decide, fun c5 => ?_⟩
    refine ⟨_, _, rfl, rfl, (by show (0 : Int) < 3; decide), _, _, rfl, rfl, ?_⟩
    obtain ⟨ac, eac, ac1, ac4⟩ := one_of c4 (z := 4) (by decide) (y := 4) (by decide)
    obtain ⟨al, eal, al1, al3⟩ := one_of c5 (z := 3) (by decide) (y := 3) (by decide)
    dsimp only
    rw [eac, eal]
    have ma : m * ac ≤ 7 * 4 := Nat.mul_le_mul m7 ac4
    have na : n * al ≤ 7 * 3 := Nat.mul_le_mul n7 al3
    have ma' : (m : Int) * (ac : Int) ≤ 40 := by rw [← Int.natCast_mul]; omega
    have na' : (n : Int) * (al : Int) ≤ 40 := by rw [← Int.natCast_mul]; omega
    -- handed
    have hlr2 := s2 _ _ hlr
    refine ⟨_, rfl, _, _, rfl, .inl (SqL.of hlr2), fun lh nlh => ?_⟩
    have s3 : Same H2 (upd H2 lh (.lst (vS cl))) := .upd nlh
    have gh : (upd H2 lh (.lst (vS cl))) lh = some (.lst (vS cl)) := upd_same
    generalize upd H2 lh (.lst (vS cl)) = H3 at s3 gh ⊢
    have tb3 := (tb.same u2).same s3
    -- layers
    refine ⟨_, rfl, lh, cl, m, n, rfl, SqL.of gh, C, by omega, tb3, fun ly H4 rs tss dA dB eo po t4 tb4 pA pB decA decB L N => ?_⟩
    have T1 := tpz_of C pA pB decA decB L.oE L.oP
    have tp := Tps.of (sc_of C pA pB decA decB) C.m1
    have gh4 := t4.lst gh
    have gz4 := t4.tup (s3 _ _ gz)
    have gr4 := t4.lst (s3 _ _ hlr2)
    -- found
    refine ⟨_, rfl, _, rfl, _, rfl, lh, cl, m, n, (ac : Int), (al : Int), rfl, SqL.of gh4, C, by omega, by omega, ⟨ma', na'⟩, fun l5 H5 s5 _ g5 => ?_⟩
    rw [Int.toNat_natCast, Int.toNat_natCast] at g5
    have C5 : Cl (til cl ac al) (m * ac) (n * al) := by
      have := C.til ac1 al1 (by rw [Nat.mul_comm]; omega) (by rw [Nat.mul_comm]; omega)
      rwa [Nat.mul_comm ac m, Nat.mul_comm al n] at this
    refine ⟨l5, til cl ac al, m * ac, n * al, rfl, SqL.of g5, C5, by omega, tb4.same s5, fun lf H6 rs2 tss2 dA2 dB2 eo2 po2 t6 tb6 pA2 pB2 decA2 decB2 L2 N2 => ?_⟩
    have T2 := tpz_of C5 pA2 pB2 decA2 decB2 L2.oE L2.oP
    have N6 := (N.same s5).sameT t6
    have gh6 := t6.lst (s5 _ _ gh4)
    have gz6 := t6.tup (s5 _ _ gz4)
    have gr6 := t6.lst (s5 _ _ gr4)
    obtain ⟨e1, e2⟩ := L.eachLen (by omega)
    obtain ⟨e3, e4⟩ := L2.eachLen (by omega)
    have q := fun (due : List (List Int)) (D : DueR m n ac al tss tss.length due) => due_is (til_up C) m1 n1 ac1 al1 L T1 (fun i x y hx hy => (tp.stp i x y hx hy).2.2.2) L2 T2 D
    clear T1 T2 L2 tp
    refine ⟨_, rfl, _, rfl, _, _, _, _, rfl, rfl, SqL.of gh6, SqL.of gr6, vS_flat _, vS_flat _, ?_⟩
    rw [eqL_refl (vS_flat _)]
    refine ⟨_, rfl, ?_⟩
    refine iteF ?_
    refine ⟨_, rfl, ly, rs, tss, rfl, N6, e1, e2, fun H7 s7 => ?_⟩
    refine ⟨_, rfl, ?_⟩
    refine iteF ?_
    refine ⟨_, rfl, lf, rs2, tss2, rfl, N2.same s7, e3, e4, fun H8 s8 => ?_⟩
    refine ⟨_, rfl, ?_⟩
    refine iteF ?_
    have v8 := s7.trans s8
    refine ⟨_, rfl, _, rfl, _, rfl, _, rfl, _, rfl, ly, sz, rs, tss, m, n, ac, al, upC cl, _, eo, po, rfl, N6.same v8, v8 _ _ gz6, L, m7, n7, ac4, al3, fun d H9 ps dues s9 N9 D => ?_⟩
    rw [q dues D] at N9
    exact ⟨_, _, rfl, rfl, ((N2.same v8).same s9).sam N9, k _⟩
end
end Mine

set_option Elab.async false
set_option linter.all false
set_option maxRecDepth 100000
set_option maxHeartbeats 4000000
namespace Mine
open PySem L2
theorem law_mk {P : Program} {w : World} {K : PySem.W.Frag} {h : Heap} {mg : Str → Option Value} {fa tc tT : Addr} {t1 : Value} {t2 : Option Addr} {t3 : Array (Option Value)} {tvs : Array Value} {f_measured : Addr} {od_measured an_measured : Option Addr} {sl_measured : Array (Option Value)} {oc_measured kV_measured dc_measured pm_measured cd_measured ct_measured : Value}
    {f_measured_texts : Addr} {od_measured_texts an_measured_texts : Option Addr} {sl_measured_texts : Array (Option Value)} {oc_measured_texts kV_measured_texts dc_measured_texts pm_measured_texts cd_measured_texts ct_measured_texts : Value}
    {f_check_pick : Addr} {od_check_pick an_check_pick : Option Addr} {sl_check_pick : Array (Option Value)} {oc_check_pick kV_check_pick dc_check_pick pm_check_pick cd_check_pick ct_check_pick : Value}
    {f_end_signs : Addr} {od_end_signs an_end_signs : Option Addr} {sl_end_signs : Array (Option Value)} {oc_end_signs kV_end_signs dc_end_signs pm_end_signs cd_end_signs ct_end_signs : Value}
    {f_scores_of : Addr} {od_scores_of an_scores_of : Option Addr} {sl_scores_of : Array (Option Value)} {oc_scores_of kV_scores_of dc_scores_of pm_scores_of cd_scores_of ct_scores_of : Value}
    {f_tops_of : Addr} {od_tops_of an_tops_of : Option Addr} {sl_tops_of : Array (Option Value)} {oc_tops_of kV_tops_of dc_tops_of pm_tops_of cd_tops_of ct_tops_of : Value}
    {f_layers_of : Addr} {od_layers_of an_layers_of : Option Addr} {sl_layers_of : Array (Option Value)} {oc_layers_of kV_layers_of dc_layers_of pm_layers_of cd_layers_of ct_layers_of : Value}
    {f_tiled : Addr} {od_tiled an_tiled : Option Addr} {sl_tiled : Array (Option Value)} {oc_tiled kV_tiled dc_tiled pm_tiled cd_tiled ct_tiled : Value}
    {f_law_at : Addr} {od_law_at an_law_at : Option Addr} {sl_law_at : Array (Option Value)} {oc_law_at kV_law_at dc_law_at pm_law_at cd_law_at ct_law_at : Value}
    {f_law_numbers : Addr} {od_law_numbers an_law_numbers : Option Addr} {sl_law_numbers : Array (Option Value)} {oc_law_numbers kV_law_numbers dc_law_numbers pm_law_numbers cd_law_numbers ct_law_numbers : Value}
    {f_law_levels : Addr} {od_law_levels an_law_levels : Option Addr} {sl_law_levels : Array (Option Value)} {oc_law_levels kV_law_levels dc_law_levels pm_law_levels cd_law_levels ct_law_levels : Value}
    {f_law_text : Addr} {od_law_text an_law_text : Option Addr} {sl_law_text : Array (Option Value)} {oc_law_text kV_law_text dc_law_text pm_law_text cd_law_text ct_law_text : Value}
    {f_law_cloth : Addr} {od_law_cloth an_law_cloth : Option Addr} {sl_law_cloth : Array (Option Value)} {oc_law_cloth kV_law_cloth dc_law_cloth pm_law_cloth cd_law_cloth ct_law_cloth : Value}
    {f_law_whole : Addr} {od_law_whole an_law_whole : Option Addr} {sl_law_whole : Array (Option Value)} {oc_law_whole kV_law_whole dc_law_whole pm_law_whole cd_law_whole ct_law_whole : Value}
    {f_law_copies : Addr} {od_law_copies an_law_copies : Option Addr} {sl_law_copies : Array (Option Value)} {oc_law_copies kV_law_copies dc_law_copies pm_law_copies cd_law_copies ct_law_copies : Value}
    {f_law_lone : Addr} {od_law_lone an_law_lone : Option Addr} {sl_law_lone : Array (Option Value)} {oc_law_lone kV_law_lone dc_law_lone pm_law_lone cd_law_lone ct_law_lone : Value}
    {f_law_due : Addr} {od_law_due an_law_due : Option Addr} {sl_law_due : Array (Option Value)} {oc_law_due kV_law_due dc_law_due pm_law_due cd_law_due ct_law_due : Value}
    {f_law_kinds : Addr} {od_law_kinds an_law_kinds : Option Addr} {sl_law_kinds : Array (Option Value)} {oc_law_kinds kV_law_kinds dc_law_kinds pm_law_kinds cd_law_kinds ct_law_kinds : Value}
    {f_law : Addr} {od_law an_law : Option Addr} {sl_law : Array (Option Value)} {oc_law kV_law dc_law pm_law cd_law ct_law : Value}
    {q_MOST_STRANDS : Tok}
    {e_WeaveError : Addr}
    {e_TooLarge : Addr}
    {e_NoCloth : Addr}
    {f_WeaveError_called : Addr} {od_WeaveError_called an_WeaveError_called : Option Addr} {sl_WeaveError_called : Array (Option Value)} {oc_WeaveError_called kV_WeaveError_called dc_WeaveError_called pm_WeaveError_called cd_WeaveError_called ct_WeaveError_called : Value}
    {f_TooLarge_called : Addr} {od_TooLarge_called an_TooLarge_called : Option Addr} {sl_TooLarge_called : Array (Option Value)} {oc_TooLarge_called kV_TooLarge_called dc_TooLarge_called pm_TooLarge_called cd_TooLarge_called ct_TooLarge_called : Value}
    {f_NoCloth_called : Addr} {od_NoCloth_called an_NoCloth_called : Option Addr} {sl_NoCloth_called : Array (Option Value)} {oc_NoCloth_called kV_NoCloth_called dc_NoCloth_called pm_NoCloth_called cd_NoCloth_called ct_NoCloth_called : Value}
    (X : K.In h) (G : h.Ns mainGlobals mg) (hfa : mg "law" = some (.ref fa))
    (a_measured : PySem.W.nsIn K mainGlobals "measured" = some (some (.ref f_measured)))
    (l_measured : K.lookup f_measured = some ⟨oc_measured, od_measured, .func (PySem.W.fnOf "measured" "measured" (defArgs s_measured) (defBody s_measured) (defScope s_measured) .none kV_measured dc_measured pm_measured an_measured cd_measured ct_measured), sl_measured⟩)
    (c_measured : PySem.W.codeIn K cd_measured "measured" = true)
    (k_measured : PySem.W.keepIn K (.ref f_measured) = true)
    (a_measured_texts : PySem.W.nsIn K mainGlobals "measured_texts" = some (some (.ref f_measured_texts)))
    (l_measured_texts : K.lookup f_measured_texts = some ⟨oc_measured_texts, od_measured_texts, .func (PySem.W.fnOf "measured_texts" "measured_texts" (defArgs s_measured_texts) (defBody s_measured_texts) (defScope s_measured_texts) .none kV_measured_texts dc_measured_texts pm_measured_texts an_measured_texts cd_measured_texts ct_measured_texts), sl_measured_texts⟩)
    (c_measured_texts : PySem.W.codeIn K cd_measured_texts "measured_texts" = true)
    (k_measured_texts : PySem.W.keepIn K (.ref f_measured_texts) = true)
    (a_check_pick : PySem.W.nsIn K mainGlobals "check_pick" = some (some (.ref f_check_pick)))
    (l_check_pick : K.lookup f_check_pick = some ⟨oc_check_pick, od_check_pick, .func (PySem.W.fnOf "check_pick" "check_pick" (defArgs s_check_pick) (defBody s_check_pick) (defScope s_check_pick) .none kV_check_pick dc_check_pick pm_check_pick an_check_pick cd_check_pick ct_check_pick), sl_check_pick⟩)
    (c_check_pick : PySem.W.codeIn K cd_check_pick "check_pick" = true)
    (k_check_pick : PySem.W.keepIn K (.ref f_check_pick) = true)
    (a_end_signs : PySem.W.nsIn K mainGlobals "end_signs" = some (some (.ref f_end_signs)))
    (l_end_signs : K.lookup f_end_signs = some ⟨oc_end_signs, od_end_signs, .func (PySem.W.fnOf "end_signs" "end_signs" (defArgs s_end_signs) (defBody s_end_signs) (defScope s_end_signs) .none kV_end_signs dc_end_signs pm_end_signs an_end_signs cd_end_signs ct_end_signs), sl_end_signs⟩)
    (c_end_signs : PySem.W.codeIn K cd_end_signs "end_signs" = true)
    (k_end_signs : PySem.W.keepIn K (.ref f_end_signs) = true)
    (a_scores_of : PySem.W.nsIn K mainGlobals "scores_of" = some (some (.ref f_scores_of)))
    (l_scores_of : K.lookup f_scores_of = some ⟨oc_scores_of, od_scores_of, .func (PySem.W.fnOf "scores_of" "scores_of" (defArgs s_scores_of) (defBody s_scores_of) (defScope s_scores_of) .none kV_scores_of dc_scores_of pm_scores_of an_scores_of cd_scores_of ct_scores_of), sl_scores_of⟩)
    (c_scores_of : PySem.W.codeIn K cd_scores_of "scores_of" = true)
    (k_scores_of : PySem.W.keepIn K (.ref f_scores_of) = true)
    (a_tops_of : PySem.W.nsIn K mainGlobals "tops_of" = some (some (.ref f_tops_of)))
    (l_tops_of : K.lookup f_tops_of = some ⟨oc_tops_of, od_tops_of, .func (PySem.W.fnOf "tops_of" "tops_of" (defArgs s_tops_of) (defBody s_tops_of) (defScope s_tops_of) .none kV_tops_of dc_tops_of pm_tops_of an_tops_of cd_tops_of ct_tops_of), sl_tops_of⟩)
    (c_tops_of : PySem.W.codeIn K cd_tops_of "tops_of" = true)
    (k_tops_of : PySem.W.keepIn K (.ref f_tops_of) = true)
    (a_layers_of : PySem.W.nsIn K mainGlobals "layers_of" = some (some (.ref f_layers_of)))
    (l_layers_of : K.lookup f_layers_of = some ⟨oc_layers_of, od_layers_of, .func (PySem.W.fnOf "layers_of" "layers_of" (defArgs s_layers_of) (defBody s_layers_of) (defScope s_layers_of) .none kV_layers_of dc_layers_of pm_layers_of an_layers_of cd_layers_of ct_layers_of), sl_layers_of⟩)
    (c_layers_of : PySem.W.codeIn K cd_layers_of "layers_of" = true)
    (k_layers_of : PySem.W.keepIn K (.ref f_layers_of) = true)
    (a_tiled : PySem.W.nsIn K mainGlobals "tiled" = some (some (.ref f_tiled)))
    (l_tiled : K.lookup f_tiled = some ⟨oc_tiled, od_tiled, .func (PySem.W.fnOf "tiled" "tiled" (defArgs s_tiled) (defBody s_tiled) (defScope s_tiled) .none kV_tiled dc_tiled pm_tiled an_tiled cd_tiled ct_tiled), sl_tiled⟩)
    (c_tiled : PySem.W.codeIn K cd_tiled "tiled" = true)
    (k_tiled : PySem.W.keepIn K (.ref f_tiled) = true)
    (a_law_at : PySem.W.nsIn K mainGlobals "_law_at" = some (some (.ref f_law_at)))
    (l_law_at : K.lookup f_law_at = some ⟨oc_law_at, od_law_at, .func (PySem.W.fnOf "_law_at" "_law_at" (defArgs s_law_at) (defBody s_law_at) (defScope s_law_at) .none kV_law_at dc_law_at pm_law_at an_law_at cd_law_at ct_law_at), sl_law_at⟩)
    (c_law_at : PySem.W.codeIn K cd_law_at "_law_at" = true)
    (k_law_at : PySem.W.keepIn K (.ref f_law_at) = true)
    (a_law_numbers : PySem.W.nsIn K mainGlobals "_law_numbers" = some (some (.ref f_law_numbers)))
    (l_law_numbers : K.lookup f_law_numbers = some ⟨oc_law_numbers, od_law_numbers, .func (PySem.W.fnOf "_law_numbers" "_law_numbers" (defArgs s_law_numbers) (defBody s_law_numbers) (defScope s_law_numbers) .none kV_law_numbers dc_law_numbers pm_law_numbers an_law_numbers cd_law_numbers ct_law_numbers), sl_law_numbers⟩)
    (c_law_numbers : PySem.W.codeIn K cd_law_numbers "_law_numbers" = true)
    (k_law_numbers : PySem.W.keepIn K (.ref f_law_numbers) = true)
    (a_law_levels : PySem.W.nsIn K mainGlobals "_law_levels" = some (some (.ref f_law_levels)))
    (l_law_levels : K.lookup f_law_levels = some ⟨oc_law_levels, od_law_levels, .func (PySem.W.fnOf "_law_levels" "_law_levels" (defArgs s_law_levels) (defBody s_law_levels) (defScope s_law_levels) .none kV_law_levels dc_law_levels pm_law_levels an_law_levels cd_law_levels ct_law_levels), sl_law_levels⟩)
    (c_law_levels : PySem.W.codeIn K cd_law_levels "_law_levels" = true)
    (k_law_levels : PySem.W.keepIn K (.ref f_law_levels) = true)
    (a_law_text : PySem.W.nsIn K mainGlobals "_law_text" = some (some (.ref f_law_text)))
    (l_law_text : K.lookup f_law_text = some ⟨oc_law_text, od_law_text, .func (PySem.W.fnOf "_law_text" "_law_text" (defArgs s_law_text) (defBody s_law_text) (defScope s_law_text) .none kV_law_text dc_law_text pm_law_text an_law_text cd_law_text ct_law_text), sl_law_text⟩)
    (c_law_text : PySem.W.codeIn K cd_law_text "_law_text" = true)
    (k_law_text : PySem.W.keepIn K (.ref f_law_text) = true)
    (a_law_cloth : PySem.W.nsIn K mainGlobals "_law_cloth" = some (some (.ref f_law_cloth)))
    (l_law_cloth : K.lookup f_law_cloth = some ⟨oc_law_cloth, od_law_cloth, .func (PySem.W.fnOf "_law_cloth" "_law_cloth" (defArgs s_law_cloth) (defBody s_law_cloth) (defScope s_law_cloth) .none kV_law_cloth dc_law_cloth pm_law_cloth an_law_cloth cd_law_cloth ct_law_cloth), sl_law_cloth⟩)
    (c_law_cloth : PySem.W.codeIn K cd_law_cloth "_law_cloth" = true)
    (k_law_cloth : PySem.W.keepIn K (.ref f_law_cloth) = true)
    (a_law_whole : PySem.W.nsIn K mainGlobals "_law_whole" = some (some (.ref f_law_whole)))
    (l_law_whole : K.lookup f_law_whole = some ⟨oc_law_whole, od_law_whole, .func (PySem.W.fnOf "_law_whole" "_law_whole" (defArgs s_law_whole) (defBody s_law_whole) (defScope s_law_whole) .none kV_law_whole dc_law_whole pm_law_whole an_law_whole cd_law_whole ct_law_whole), sl_law_whole⟩)
    (c_law_whole : PySem.W.codeIn K cd_law_whole "_law_whole" = true)
    (k_law_whole : PySem.W.keepIn K (.ref f_law_whole) = true)
    (a_law_copies : PySem.W.nsIn K mainGlobals "_law_copies" = some (some (.ref f_law_copies)))
    (l_law_copies : K.lookup f_law_copies = some ⟨oc_law_copies, od_law_copies, .func (PySem.W.fnOf "_law_copies" "_law_copies" (defArgs s_law_copies) (defBody s_law_copies) (defScope s_law_copies) .none kV_law_copies dc_law_copies pm_law_copies an_law_copies cd_law_copies ct_law_copies), sl_law_copies⟩)
    (c_law_copies : PySem.W.codeIn K cd_law_copies "_law_copies" = true)
    (k_law_copies : PySem.W.keepIn K (.ref f_law_copies) = true)
    (a_law_lone : PySem.W.nsIn K mainGlobals "_law_lone" = some (some (.ref f_law_lone)))
    (l_law_lone : K.lookup f_law_lone = some ⟨oc_law_lone, od_law_lone, .func (PySem.W.fnOf "_law_lone" "_law_lone" (defArgs s_law_lone) (defBody s_law_lone) (defScope s_law_lone) .none kV_law_lone dc_law_lone pm_law_lone an_law_lone cd_law_lone ct_law_lone), sl_law_lone⟩)
    (c_law_lone : PySem.W.codeIn K cd_law_lone "_law_lone" = true)
    (k_law_lone : PySem.W.keepIn K (.ref f_law_lone) = true)
    (a_law_due : PySem.W.nsIn K mainGlobals "_law_due" = some (some (.ref f_law_due)))
    (l_law_due : K.lookup f_law_due = some ⟨oc_law_due, od_law_due, .func (PySem.W.fnOf "_law_due" "_law_due" (defArgs s_law_due) (defBody s_law_due) (defScope s_law_due) .none kV_law_due dc_law_due pm_law_due an_law_due cd_law_due ct_law_due), sl_law_due⟩)
    (c_law_due : PySem.W.codeIn K cd_law_due "_law_due" = true)
    (k_law_due : PySem.W.keepIn K (.ref f_law_due) = true)
    (a_law_kinds : PySem.W.nsIn K mainGlobals "_law_kinds" = some (some (.ref f_law_kinds)))
    (l_law_kinds : K.lookup f_law_kinds = some ⟨oc_law_kinds, od_law_kinds, .func (PySem.W.fnOf "_law_kinds" "_law_kinds" (defArgs s_law_kinds) (defBody s_law_kinds) (defScope s_law_kinds) .none kV_law_kinds dc_law_kinds pm_law_kinds an_law_kinds cd_law_kinds ct_law_kinds), sl_law_kinds⟩)
    (c_law_kinds : PySem.W.codeIn K cd_law_kinds "_law_kinds" = true)
    (k_law_kinds : PySem.W.keepIn K (.ref f_law_kinds) = true)
    (a_law : PySem.W.nsIn K mainGlobals "law" = some (some (.ref f_law)))
    (l_law : K.lookup f_law = some ⟨oc_law, od_law, .func (PySem.W.fnOf "law" "law" (defArgs s_law) (defBody s_law) (defScope s_law) .none kV_law dc_law pm_law an_law cd_law ct_law), sl_law⟩)
    (c_law : PySem.W.codeIn K cd_law "law" = true)
    (k_law : PySem.W.keepIn K (.ref f_law) = true)
    (z_all : PySem.W.nsIn K mainGlobals "all" = some none)
    (z_bool : PySem.W.nsIn K mainGlobals "bool" = some none)
    (z_int : PySem.W.nsIn K mainGlobals "int" = some none)
    (z_isinstance : PySem.W.nsIn K mainGlobals "isinstance" = some none)
    (z_len : PySem.W.nsIn K mainGlobals "len" = some none)
    (z_list : PySem.W.nsIn K mainGlobals "list" = some none)
    (z_range : PySem.W.nsIn K mainGlobals "range" = some none)
    (z_sorted : PySem.W.nsIn K mainGlobals "sorted" = some none)
    (z_sum : PySem.W.nsIn K mainGlobals "sum" = some none)
    (z_zip : PySem.W.nsIn K mainGlobals "zip" = some none)
    (x_MOST_STRANDS : PySem.W.nsIn K mainGlobals "MOST_STRANDS" = some (some (.int 40 q_MOST_STRANDS)))
    (n_WeaveError : PySem.W.nsIn K mainGlobals "WeaveError" = some (some (.ref e_WeaveError)))
    (n_TooLarge : PySem.W.nsIn K mainGlobals "TooLarge" = some (some (.ref e_TooLarge)))
    (n_NoCloth : PySem.W.nsIn K mainGlobals "NoCloth" = some (some (.ref e_NoCloth)))
    (y1_WeaveError : PySem.W.excIn K e_WeaveError vE vN = true)
    (y2_WeaveError : PySem.W.findIn K (.ref e_WeaveError) "__getattribute__" = some (some (.builtin "BaseException.__getattribute__")))
    (y3_WeaveError : PySem.W.findIn K (.ref e_WeaveError) "__getattr__" = some none)
    (y4_WeaveError : PySem.W.findIn K (.ref e_WeaveError) "__class__" = some (some (.builtin "object.__class__")))
    (y5_WeaveError : PySem.W.specialIn K (.builtin "object.__class__") "__get__" = some (some (.builtin "getset_descriptor.__get__")))
    (y6_WeaveError : PySem.W.takesIn K (.builtin "object.__class__") = some true)
    (y7_WeaveError : PySem.W.mroIn K e_WeaveError (.type "object") = some true)
    (y8_WeaveError : PySem.W.mroIn K e_WeaveError (.type "BaseException") = some true)
    (y9_WeaveError : PySem.W.isClsIn K e_WeaveError = true)
    (y10_WeaveError : PySem.W.typeIn K (.ref e_WeaveError) = some (.type "type"))
    (y11_WeaveError : PySem.W.mroIn K e_WeaveError (.type "ValueError") = some true)
    (r_WeaveError_WeaveError : PySem.W.mroIn K e_WeaveError (.ref e_WeaveError) = some true)
    (r_WeaveError_TooLarge : PySem.W.mroIn K e_WeaveError (.ref e_TooLarge) = some false)
    (r_WeaveError_NoCloth : PySem.W.mroIn K e_WeaveError (.ref e_NoCloth) = some false)
    (y1_TooLarge : PySem.W.excIn K e_TooLarge vE vN = true)
    (y2_TooLarge : PySem.W.findIn K (.ref e_TooLarge) "__getattribute__" = some (some (.builtin "BaseException.__getattribute__")))
    (y3_TooLarge : PySem.W.findIn K (.ref e_TooLarge) "__getattr__" = some none)
    (y4_TooLarge : PySem.W.findIn K (.ref e_TooLarge) "__class__" = some (some (.builtin "object.__class__")))
    (y7_TooLarge : PySem.W.mroIn K e_TooLarge (.type "object") = some true)
    (y8_TooLarge : PySem.W.mroIn K e_TooLarge (.type "BaseException") = some true)
    (y9_TooLarge : PySem.W.isClsIn K e_TooLarge = true)
    (y10_TooLarge : PySem.W.typeIn K (.ref e_TooLarge) = some (.type "type"))
    (y11_TooLarge : PySem.W.mroIn K e_TooLarge (.type "ValueError") = some true)
    (r_TooLarge_WeaveError : PySem.W.mroIn K e_TooLarge (.ref e_WeaveError) = some true)
    (r_TooLarge_TooLarge : PySem.W.mroIn K e_TooLarge (.ref e_TooLarge) = some true)
    (r_TooLarge_NoCloth : PySem.W.mroIn K e_TooLarge (.ref e_NoCloth) = some false)
    (y1_NoCloth : PySem.W.excIn K e_NoCloth vE vN = true)
    (y2_NoCloth : PySem.W.findIn K (.ref e_NoCloth) "__getattribute__" = some (some (.builtin "BaseException.__getattribute__")))
    (y3_NoCloth : PySem.W.findIn K (.ref e_NoCloth) "__getattr__" = some none)
    (y4_NoCloth : PySem.W.findIn K (.ref e_NoCloth) "__class__" = some (some (.builtin "object.__class__")))
    (y7_NoCloth : PySem.W.mroIn K e_NoCloth (.type "object") = some true)
    (y8_NoCloth : PySem.W.mroIn K e_NoCloth (.type "BaseException") = some true)
    (y9_NoCloth : PySem.W.isClsIn K e_NoCloth = true)
    (y10_NoCloth : PySem.W.typeIn K (.ref e_NoCloth) = some (.type "type"))
    (y11_NoCloth : PySem.W.mroIn K e_NoCloth (.type "ValueError") = some true)
    (r_NoCloth_WeaveError : PySem.W.mroIn K e_NoCloth (.ref e_WeaveError) = some true)
    (r_NoCloth_TooLarge : PySem.W.mroIn K e_NoCloth (.ref e_TooLarge) = some false)
    (r_NoCloth_NoCloth : PySem.W.mroIn K e_NoCloth (.ref e_NoCloth) = some true)
    (fm_WeaveError : PySem.W.findIn K (.ref e_WeaveError) "called" = some (some (.ref f_WeaveError_called)))
    (gm_WeaveError : PySem.W.isFn K (.ref f_WeaveError_called) = true)
    (lm_WeaveError : K.lookup f_WeaveError_called = some ⟨oc_WeaveError_called, od_WeaveError_called, .func (PySem.W.fnOf "called" "WeaveError.called" (defArgs s_WeaveError_called) (defBody s_WeaveError_called) (defScope s_WeaveError_called) .none kV_WeaveError_called dc_WeaveError_called pm_WeaveError_called an_WeaveError_called cd_WeaveError_called ct_WeaveError_called), sl_WeaveError_called⟩)
    (cm_WeaveError : PySem.W.codeIn K cd_WeaveError_called "WeaveError.called" = true)
    (km_WeaveError : PySem.W.keepIn K (.ref f_WeaveError_called) = true)
    (fm_TooLarge : PySem.W.findIn K (.ref e_TooLarge) "called" = some (some (.ref f_TooLarge_called)))
    (gm_TooLarge : PySem.W.isFn K (.ref f_TooLarge_called) = true)
    (lm_TooLarge : K.lookup f_TooLarge_called = some ⟨oc_TooLarge_called, od_TooLarge_called, .func (PySem.W.fnOf "called" "TooLarge.called" (defArgs s_TooLarge_called) (defBody s_TooLarge_called) (defScope s_TooLarge_called) .none kV_TooLarge_called dc_TooLarge_called pm_TooLarge_called an_TooLarge_called cd_TooLarge_called ct_TooLarge_called), sl_TooLarge_called⟩)
    (cm_TooLarge : PySem.W.codeIn K cd_TooLarge_called "TooLarge.called" = true)
    (km_TooLarge : PySem.W.keepIn K (.ref f_TooLarge_called) = true)
    (fm_NoCloth : PySem.W.findIn K (.ref e_NoCloth) "called" = some (some (.ref f_NoCloth_called)))
    (gm_NoCloth : PySem.W.isFn K (.ref f_NoCloth_called) = true)
    (lm_NoCloth : K.lookup f_NoCloth_called = some ⟨oc_NoCloth_called, od_NoCloth_called, .func (PySem.W.fnOf "called" "NoCloth.called" (defArgs s_NoCloth_called) (defBody s_NoCloth_called) (defScope s_NoCloth_called) .none kV_NoCloth_called dc_NoCloth_called pm_NoCloth_called an_NoCloth_called cd_NoCloth_called ct_NoCloth_called), sl_NoCloth_called⟩)
    (cm_NoCloth : PySem.W.codeIn K cd_NoCloth_called "NoCloth.called" = true)
    (km_NoCloth : PySem.W.keepIn K (.ref f_NoCloth_called) = true)
    (tab0 : cd_layers_of = .ref tc) (tab1 : K.lookup tc = some ⟨t1, t2, .fields tvs, t3⟩) (tab3 : (tvs[11]? : Option Value) = some (.ref tT)) (tab2 : PySem.W.noTabs K = true) :
    ∃ (fd : FuncData) (c T : Addr), (∀ (s : Shared) (v : Value), BindsTo s fd ⟨[v], []⟩ [("script", v)]) ∧ PySem.W.tabIn K "layers_of" = some (c, T) ∧ PySem.W.noTabs K = true ∧ ∀ base : Heap, K.In base → base.Ns mainGlobals mg → PySem.W.CodeHd base c T → Bm mg base → FnOk P w K mg base CX0 8 fa fd ["script"] (sp_law K T) := by
  have e := hfa.symm.trans (PySem.W.mg_of X G a_law)
  cases e
  have T := txt_mk X G a_measured l_measured c_measured k_measured a_measured_texts l_measured_texts c_measured_texts k_measured_texts a_check_pick l_check_pick c_check_pick k_check_pick a_end_signs l_end_signs c_end_signs k_end_signs a_scores_of l_scores_of c_scores_of k_scores_of a_tops_of l_tops_of c_tops_of k_tops_of a_layers_of l_layers_of c_layers_of k_layers_of a_tiled l_tiled c_tiled k_tiled a_law_at l_law_at c_law_at k_law_at a_law_numbers l_law_numbers c_law_numbers k_law_numbers a_law_levels l_law_levels c_law_levels k_law_levels a_law_text l_law_text c_law_text k_law_text a_law_cloth l_law_cloth c_law_cloth k_law_cloth a_law_whole l_law_whole c_law_whole k_law_whole a_law_copies l_law_copies c_law_copies k_law_copies a_law_lone l_law_lone c_law_lone k_law_lone a_law_due l_law_due c_law_due k_law_due a_law_kinds l_law_kinds c_law_kinds k_law_kinds a_law l_law c_law k_law z_all z_bool z_int z_isinstance z_len z_list z_range z_sorted z_sum z_zip x_MOST_STRANDS n_WeaveError n_TooLarge n_NoCloth y1_WeaveError y2_WeaveError y3_WeaveError y4_WeaveError y5_WeaveError y6_WeaveError y7_WeaveError y8_WeaveError y9_WeaveError y10_WeaveError y11_WeaveError r_WeaveError_WeaveError r_WeaveError_TooLarge r_WeaveError_NoCloth y1_TooLarge y2_TooLarge y3_TooLarge y4_TooLarge y7_TooLarge y8_TooLarge y9_TooLarge y10_TooLarge y11_TooLarge r_TooLarge_WeaveError r_TooLarge_TooLarge r_TooLarge_NoCloth y1_NoCloth y2_NoCloth y3_NoCloth y4_NoCloth y7_NoCloth y8_NoCloth y9_NoCloth y10_NoCloth y11_NoCloth r_NoCloth_WeaveError r_NoCloth_TooLarge r_NoCloth_NoCloth fm_WeaveError gm_WeaveError lm_WeaveError cm_WeaveError km_WeaveError fm_TooLarge gm_TooLarge lm_TooLarge cm_TooLarge km_TooLarge fm_NoCloth gm_NoCloth lm_NoCloth cm_NoCloth km_NoCloth
  have hcd : (PySem.W.fnOf "layers_of" "layers_of" (defArgs s_layers_of) (defBody s_layers_of) (defScope s_layers_of) .none kV_layers_of dc_layers_of pm_layers_of an_layers_of cd_layers_of ct_layers_of).code = .ref tc := tab0
  exact ⟨_, tc, tT, fun s v => .of_eq rfl, tab_in a_layers_of l_layers_of hcd tab1 tab3, tab2, fun base _ _ hC hB => ok_law T hcd hC hB⟩
end Mine
open PySem PySem.W PyProof.Rows
set_option maxRecDepth 100000 in
set_option maxHeartbeats 0 in
theorem PySem.Challenge.cw_heddle_k71_whole_layers_repeated_holds : PySem.Challenge.rw_heddle_k71_whole_layers_repeated.Holds := by
  w_on; o_law; k_head; (case hw => w_witness2)
  k_fill
  refine L2.walk_ofT (l := PySem.Challenge.rw_heddle_k71_whole_layers_repeated) (n := 63) (k := 8) (x := "script") (y := "layers_of") (qn := "layers_of.<locals>.<lambda>") (CX := L2.CX0) (sp := Mine.sp_law) rfl (by decide) rfl ⟨rfl, by decide, by decide⟩ (fun w h Y => PySem.W.km_in_of Y) rfl ?F ?S ?C
  case F =>
    intro w mg fa h KX G hmg
    refine' Mine.law_mk KX G hmg ?a_measured ?l_measured ?c_measured ?k_measured ?a_measured_texts ?l_measured_texts ?c_measured_texts ?k_measured_texts ?a_check_pick ?l_check_pick ?c_check_pick ?k_check_pick ?a_end_signs ?l_end_signs ?c_end_signs ?k_end_signs ?a_scores_of ?l_scores_of ?c_scores_of ?k_scores_of ?a_tops_of ?l_tops_of ?c_tops_of ?k_tops_of ?a_layers_of ?l_layers_of ?c_layers_of ?k_layers_of ?a_tiled ?l_tiled ?c_tiled ?k_tiled ?a_law_at ?l_law_at ?c_law_at ?k_law_at ?a_law_numbers ?l_law_numbers ?c_law_numbers ?k_law_numbers ?a_law_levels ?l_law_levels ?c_law_levels ?k_law_levels ?a_law_text ?l_law_text ?c_law_text ?k_law_text ?a_law_cloth ?l_law_cloth ?c_law_cloth ?k_law_cloth ?a_law_whole ?l_law_whole ?c_law_whole ?k_law_whole ?a_law_copies ?l_law_copies ?c_law_copies ?k_law_copies ?a_law_lone ?l_law_lone ?c_law_lone ?k_law_lone ?a_law_due ?l_law_due ?c_law_due ?k_law_due ?a_law_kinds ?l_law_kinds ?c_law_kinds ?k_law_kinds ?a_law ?l_law ?c_law ?k_law ?z_all ?z_bool ?z_int ?z_isinstance ?z_len ?z_list ?z_range ?z_sorted ?z_sum ?z_zip ?x_MOST_STRANDS ?n_WeaveError ?n_TooLarge ?n_NoCloth ?y1_WeaveError ?y2_WeaveError ?y3_WeaveError ?y4_WeaveError ?y5_WeaveError ?y6_WeaveError ?y7_WeaveError ?y8_WeaveError ?y9_WeaveError ?y10_WeaveError ?y11_WeaveError ?r_WeaveError_WeaveError ?r_WeaveError_TooLarge ?r_WeaveError_NoCloth ?y1_TooLarge ?y2_TooLarge ?y3_TooLarge ?y4_TooLarge ?y7_TooLarge ?y8_TooLarge ?y9_TooLarge ?y10_TooLarge ?y11_TooLarge ?r_TooLarge_WeaveError ?r_TooLarge_TooLarge ?r_TooLarge_NoCloth ?y1_NoCloth ?y2_NoCloth ?y3_NoCloth ?y4_NoCloth ?y7_NoCloth ?y8_NoCloth ?y9_NoCloth ?y10_NoCloth ?y11_NoCloth ?r_NoCloth_WeaveError ?r_NoCloth_TooLarge ?r_NoCloth_NoCloth ?fm_WeaveError ?gm_WeaveError ?lm_WeaveError ?cm_WeaveError ?km_WeaveError ?fm_TooLarge ?gm_TooLarge ?lm_TooLarge ?cm_TooLarge ?km_TooLarge ?fm_NoCloth ?gm_NoCloth ?lm_NoCloth ?cm_NoCloth ?km_NoCloth ?tab0 ?tab1 ?tab3 ?tab2
    (case a_measured => k_is)
    (case l_measured => k_is)
    (case c_measured => k_is)
    (case k_measured => k_is)
    (case a_measured_texts => k_is)
    (case l_measured_texts => k_is)
    (case c_measured_texts => k_is)
    (case k_measured_texts => k_is)
    (case a_check_pick => k_is)
    (case l_check_pick => k_is)
    (case c_check_pick => k_is)
    (case k_check_pick => k_is)
    (case a_end_signs => k_is)
    (case l_end_signs => k_is)
    (case c_end_signs => k_is)
    (case k_end_signs => k_is)
    (case a_scores_of => k_is)
    (case l_scores_of => k_is)
    (case c_scores_of => k_is)
    (case k_scores_of => k_is)
    (case a_tops_of => k_is)
    (case l_tops_of => k_is)
    (case c_tops_of => k_is)
    (case k_tops_of => k_is)
    (case a_layers_of => k_is)
    (case l_layers_of => k_is)
    (case c_layers_of => k_is)
    (case k_layers_of => k_is)
    (case a_tiled => k_is)
    (case l_tiled => k_is)
    (case c_tiled => k_is)
    (case k_tiled => k_is)
    (case a_law_at => k_is)
    (case l_law_at => k_is)
    (case c_law_at => k_is)
    (case k_law_at => k_is)
    (case a_law_numbers => k_is)
    (case l_law_numbers => k_is)
    (case c_law_numbers => k_is)
    (case k_law_numbers => k_is)
    (case a_law_levels => k_is)
    (case l_law_levels => k_is)
    (case c_law_levels => k_is)
    (case k_law_levels => k_is)
    (case a_law_text => k_is)
    (case l_law_text => k_is)
    (case c_law_text => k_is)
    (case k_law_text => k_is)
    (case a_law_cloth => k_is)
    (case l_law_cloth => k_is)
    (case c_law_cloth => k_is)
    (case k_law_cloth => k_is)
    (case a_law_whole => k_is)
    (case l_law_whole => k_is)
    (case c_law_whole => k_is)
    (case k_law_whole => k_is)
    (case a_law_copies => k_is)
    (case l_law_copies => k_is)
    (case c_law_copies => k_is)
    (case k_law_copies => k_is)
    (case a_law_lone => k_is)
    (case l_law_lone => k_is)
    (case c_law_lone => k_is)
    (case k_law_lone => k_is)
    (case a_law_due => k_is)
    (case l_law_due => k_is)
    (case c_law_due => k_is)
    (case k_law_due => k_is)
    (case a_law_kinds => k_is)
    (case l_law_kinds => k_is)
    (case c_law_kinds => k_is)
    (case k_law_kinds => k_is)
    (case a_law => k_is)
    (case l_law => k_is)
    (case c_law => k_is)
    (case k_law => k_is)
    (case z_all => k_is)
    (case z_bool => k_is)
    (case z_int => k_is)
    (case z_isinstance => k_is)
    (case z_len => k_is)
    (case z_list => k_is)
    (case z_range => k_is)
    (case z_sorted => k_is)
    (case z_sum => k_is)
    (case z_zip => k_is)
    (case x_MOST_STRANDS => k_is)
    (case n_WeaveError => k_is)
    (case n_TooLarge => k_is)
    (case n_NoCloth => k_is)
    (case y1_WeaveError => k_exc)
    (case y2_WeaveError => k_is)
    (case y3_WeaveError => k_is)
    (case y4_WeaveError => k_is)
    (case y5_WeaveError => k_is)
    (case y6_WeaveError => k_is)
    (case y7_WeaveError => k_is)
    (case y8_WeaveError => k_is)
    (case y9_WeaveError => k_is)
    (case y10_WeaveError => k_is)
    (case y11_WeaveError => k_is)
    (case r_WeaveError_WeaveError => k_is)
    (case r_WeaveError_TooLarge => k_is)
    (case r_WeaveError_NoCloth => k_is)
    (case y1_TooLarge => k_exc)
    (case y2_TooLarge => k_is)
    (case y3_TooLarge => k_is)
    (case y4_TooLarge => k_is)
    (case y7_TooLarge => k_is)
    (case y8_TooLarge => k_is)
    (case y9_TooLarge => k_is)
    (case y10_TooLarge => k_is)
    (case y11_TooLarge => k_is)
    (case r_TooLarge_WeaveError => k_is)
    (case r_TooLarge_TooLarge => k_is)
    (case r_TooLarge_NoCloth => k_is)
    (case y1_NoCloth => k_exc)
    (case y2_NoCloth => k_is)
    (case y3_NoCloth => k_is)
    (case y4_NoCloth => k_is)
    (case y7_NoCloth => k_is)
    (case y8_NoCloth => k_is)
    (case y9_NoCloth => k_is)
    (case y10_NoCloth => k_is)
    (case y11_NoCloth => k_is)
    (case r_NoCloth_WeaveError => k_is)
    (case r_NoCloth_TooLarge => k_is)
    (case r_NoCloth_NoCloth => k_is)
    (case fm_WeaveError => k_is)
    (case gm_WeaveError => k_is)
    (case lm_WeaveError => k_is)
    (case cm_WeaveError => k_is)
    (case km_WeaveError => k_is)
    (case fm_TooLarge => k_is)
    (case gm_TooLarge => k_is)
    (case lm_TooLarge => k_is)
    (case cm_TooLarge => k_is)
    (case km_TooLarge => k_is)
    (case fm_NoCloth => k_is)
    (case gm_NoCloth => k_is)
    (case lm_NoCloth => k_is)
    (case cm_NoCloth => k_is)
    (case km_NoCloth => k_is)
    (case tab0 => exact rfl)
    (case tab1 => k_is)
    (case tab3 => exact rfl)
    (case tab2 => kernel_rfl)
  case S => exact fun K T H a ns hl hS tb => Mine.sp_law_holds hl hS tb
  case C => exact fun _ _ _ _ z => z

