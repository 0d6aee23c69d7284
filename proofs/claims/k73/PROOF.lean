import PyProof.Rows.All
import Wide.All
import OpenK.AllK
import Wide.FinOn
import Lean
import PyProof.EqAt
import PyProof.EqKinds
import PyProof.TupleCall
import PyProof.StrBlockL
import PyProof.EnumMake
import PyProof.CollectIter
import PyProof.JoinWalk
import PyProof.StrOps
import PyProof.StrLawsIdx
import PyProof.StrLawsIn
import PyProof.ListRange
import PyProof.Rows.Range3
import PyProof.Rows.SumAny
import KE.KIntText
import KE.LcSums
import PyProof.LongRange
import PyProof.StrOps2
import PyProof.FitsBits
import PyProof.NeKinds
import PyProof.Rows.ZipGen
import PyProof.Draws
import KE.KRevIter
import PyProof.ConsumeWalk
import PyProof.Rows.SeqMore
import PyProof.Rows.SortRev
import PyProof.Rows.SortWalk
import PyProof.Rows.CallKwBuiltin
import PyProof.Rows.MinMaxN
import PyProof.Rows.SortRuns
import KE.KLam
import KE.KSortKey
import PySem.Challenge.RW_heddle_k73_no_cloths_in_layers
set_option Elab.async false
set_option linter.all false
set_option maxRecDepth 100000
namespace L2
open PySem PySem.Spec PyProof.Rows
abbrev Key := Sum Int Str
def keyIs : Key → Value → Bool
  | .inl k, v => Value.isInt k v
  | .inr x, v => Value.isStrOf x v
def keyH (w : World) : Key → Int
  | .inl k => hashInt k
  | .inr x => hashStr w x
theorem keyIs_shape : ∀ {k : Key} {v : Value}, keyIs k v = true → (∃ i t, k = Sum.inl i ∧ v = Value.int i t) ∨ (∃ x t, k = Sum.inr x ∧ v = Value.str x t)
  | .inl i, v, h => by
    obtain ⟨t, e⟩ := Value.isInt_shape (k := i) (v := v) h
    exact .inl ⟨i, t, rfl, e⟩
  | .inr x, v, h => by
    obtain ⟨t, e⟩ := Value.isStrOf_shape (x := x) (v := v) h
    exact .inr ⟨x, t, rfl, e⟩
theorem keyIs_int (i : Int) (t : Tok) : keyIs (.inl i) (.int i t) = true := by simp [keyIs, Value.isInt]
theorem keyIs_str (x : Str) (t : Tok) : keyIs (.inr x) (.str x t) = true := by simp [keyIs, Value.isStrOf]
theorem key_ll (a b : Int) : decide ((Sum.inl a : Key) = Sum.inl b) = (a == b) := by
  by_cases e : a = b
  · subst e; simp
  · have h : ¬ (Sum.inl a : Key) = Sum.inl b := fun q => e (Sum.inl.inj q)
    rw [decide_eq_false h]
    exact (beq_eq_false_iff_ne.mpr e).symm
theorem key_rr (a b : Str) : decide ((Sum.inr a : Key) = Sum.inr b) = decide (a = b) := by
  by_cases e : a = b
  · subst e; simp
  · have h : ¬ (Sum.inr a : Key) = Sum.inr b := fun q => e (Sum.inr.inj q)
    rw [decide_eq_false h, decide_eq_false e]
theorem key_lr (a : Int) (b : Str) : decide ((Sum.inl a : Key) = Sum.inr b) = false := decide_eq_false (fun q => nomatch q)
theorem key_rl (a : Str) (b : Int) : decide ((Sum.inr a : Key) = Sum.inl b) = false := decide_eq_false (fun q => nomatch q)
def mixKind (prog : Program) (w : World) : PySem.KeyKind prog w Key where
  is := keyIs
  hash := keyH w
  inj := fun v a b ha hb => by
    rcases keyIs_shape ha with ⟨i, t, rfl, rfl⟩ | ⟨x, t, rfl, rfl⟩
    · rcases keyIs_shape hb with ⟨j, u, rfl, e⟩ | ⟨y, u, rfl, e⟩
      · injection e with e1 _; rw [e1]
      · exact nomatch e
    · rcases keyIs_shape hb with ⟨j, u, rfl, e⟩ | ⟨y, u, rfl, e⟩
      · exact nomatch e
      · injection e with e1 _; rw [e1]
  byValue := fun k v h => by
    rcases keyIs_shape h with ⟨i, t, rfl, rfl⟩ | ⟨x, t, rfl, rfl⟩ <;> rfl
  pyHash := fun hv h => by
    rcases keyIs_shape hv with ⟨i, t, rfl, rfl⟩ | ⟨x, t, rfl, rfl⟩
    · exact wpAny_pyHash_int h
    · exact wpAny_pyHash_str h
  eqBool := fun hu hv h => by
    rcases keyIs_shape hu with ⟨i, t, rfl, rfl⟩ | ⟨x, t, rfl, rfl⟩
    · rcases keyIs_shape hv with ⟨j, u, rfl, rfl⟩ | ⟨y, u, rfl, rfl⟩
      · rw [key_ll] at h; exact wpAny_eqBool_int h
      · rw [key_lr] at h; exact SeqAt.EqAt.int_str i t y u _ _ _ _ h
    · rcases keyIs_shape hv with ⟨j, u, rfl, rfl⟩ | ⟨y, u, rfl, rfl⟩
      · rw [key_rl] at h; exact SeqAt.EqAt.str_int x t j u _ _ _ _ h
      · rw [key_rr] at h; exact wpAny_eqBool_str h
  «strs» := fun k x t v h => by
    rcases keyIs_shape h with ⟨i, u, rfl, e⟩ | ⟨y, u, rfl, e⟩
    · exact nomatch e
    · injection e with e1 _
      subst e1
      cases v <;> rfl
theorem mixKind_int (prog : Program) (w : World) (i : Int) (t : Tok) : (mixKind prog w).is (.inl i) (.int i t) = true := keyIs_int i t
theorem mixKind_str (prog : Program) (w : World) (x : Str) (t : Tok) : (mixKind prog w).is (.inr x) (.str x t) = true := keyIs_str x t
end L2
namespace L2
open PySem PySem.Spec PyProof.Rows
inductive V where
  | non | bl (b : Bool) | int (i : Int) | str (x : Str) | byt (b : Array UInt8) | flt (b : UInt64) | ref (a : Addr) | ty (n : String)
  deriving DecidableEq
def RelV : V → Value → Prop
  | .non, u => u = Value.none
  | .bl b, u => u = Value.bool b
  | .int i, u => ∃ t, u = Value.int i t
  | .str x, u => ∃ t, u = Value.str x t
  | .byt b, u => ∃ t, u = Value.bytes b t
  | .flt b, u => ∃ t, u = Value.float b t
  | .ref a, u => u = Value.ref a
  | .ty n, u => u = Value.type n
abbrev Vals : List V → List Value → Prop := Paired RelV
theorem Vals.length {xs : List V} {us : List Value} (r : Vals xs us) : xs.length = us.length := Paired.length r
theorem Vals.get : ∀ {xs : List V} {us : List Value} {i : Nat} {x : V}, Vals xs us → xs[i]? = some x → ∃ u, us[i]? = some u ∧ RelV x u
  | _, _, _, _, .nil, e => by simp at e
  | _, _, 0, _, .cons r _, e => by simp at e; subst e; exact ⟨_, rfl, r⟩
  | _, _, i + 1, x, .cons _ t, e => by
    obtain ⟨u, h1, h2⟩ := Vals.get (i := i) (x := x) t (by simpa using e)
    exact ⟨u, by simpa using h1, h2⟩
theorem Vals.set {x : V} {u : Value} (r : RelV x u) : ∀ {xs : List V} {us : List Value} (i : Nat), Vals xs us → Vals (xs.set i x) (us.set i u)
  | _, _, _, .nil => .nil
  | _, _, 0, .cons _ t => .cons r t
  | _, _, i + 1, .cons q t => .cons q (Vals.set r i t)
theorem Vals.append : ∀ {xs ys : List V} {us ws : List Value}, Vals xs us → Vals ys ws → Vals (xs ++ ys) (us ++ ws)
  | _, _, _, _, .nil, s => s
  | _, _, _, _, .cons r t, s => .cons r (Vals.append t s)
theorem Vals.take : ∀ {xs : List V} {us : List Value} (n : Nat), Vals xs us → Vals (xs.take n) (us.take n)
  | _, _, 0, _ => .nil
  | _, _, _ + 1, .nil => .nil
  | _, _, n + 1, .cons r t => .cons r (Vals.take n t)
theorem Vals.drop : ∀ {xs : List V} {us : List Value} (n : Nat), Vals xs us → Vals (xs.drop n) (us.drop n)
  | _, _, 0, r => r
  | _, _, _ + 1, .nil => .nil
  | _, _, n + 1, .cons _ t => Vals.drop n t
def RelO : Option V → Option Value → Prop
  | some v, some u => RelV v u
  | none, none => True
  | _, _ => False
def KV {κ : Type} : List (κ × V) → List (κ × Value) → Prop := Paired fun (p : κ × V) (q : κ × Value) => p.1 = q.1 ∧ RelV p.2 q.2
def kV : Key → V
  | .inl i => .int i
  | .inr x => .str x
inductive HO where
  | lst (xs : List V)
  | tup (xs : List V)
  | dK (kvs : List (Key × V)) | dT (kvs : List (List Key × V))
  | set (S : Int → Bool) (n : Nat)
  | ins (C dx : Addr) (fs : List (Str × V))
  | own (x : Addr)
  | xd (fs : List (Str × V))
  | met (f x : Addr)
  | rng (lo hi : Int)
  | frz (o : Obj) (u : HO)
  | tbl (ps : Array Value)
  | ext (φ : Heap → Prop)
abbrev Hp := Addr → Option HO
def upd (H : Hp) (a : Addr) (o : HO) : Hp := fun b => if b = a then some o else H b
theorem upd_same {H : Hp} {a : Addr} {o : HO} : upd H a o a = some o := by unfold upd; rw [if_pos rfl]
theorem upd_ne {H : Hp} {a b : Addr} {o : HO} (h : b ≠ a) : upd H a o b = H b := by unfold upd; rw [if_neg h]
theorem upd_upd {H : Hp} {a : Addr} {o u : HO} : upd (upd H a o) a u = upd H a u := by
  funext b; unfold upd; split <;> rfl
theorem ne_of {H : Hp} {a b : Addr} {o u : HO} (h : H a = some o) (h' : H b = some u) (d : o ≠ u) : a ≠ b := by
  intro e; subst e; rw [h] at h'; exact d (Option.some.inj h')
theorem ne_of_none {H : Hp} {a b : Addr} {o : HO} (h : H a = some o) (h' : H b = none) : a ≠ b := by
  intro e; subst e; rw [h] at h'; cases h'
section
variable (P : Program) (w : World)
def ObjOk (H : Hp) (h : Heap) (a : Addr) : HO → Prop
  | .lst xs => xs.length ≤ sizeLine ∧ ∃ (its : List Value) (n : Nat), Vals xs its ∧ h.get? a = some { cls := .type "list", data := .seq its.toArray n }
  | .tup xs => xs.length ≤ sizeLine ∧ ∃ its : List Value, Vals xs its ∧ IsTup h a its.toArray
  | .dK kvs => kvs.length ≤ sizeLine ∧ (a == sysModules) = false ∧ ∃ vs, KV kvs vs ∧ h.DictOf (mixKind P w) a vs
  | .dT kvs => kvs.length ≤ sizeLine ∧ (a == sysModules) = false ∧ ∃ xs : List (List Key × Addr × Value),
      Paired (fun (p : List Key × V) (q : List Key × Addr × Value) => p.1 = q.1 ∧ H q.2.1 = some (.tup (p.1.map kV)) ∧ RelV p.2 q.2.2) kvs xs ∧
      ∃ o es ep, h.get? a = some o ∧ o.ExactDict ∧ o.data = .dict es ep ∧ es.toList = xs.map (entryOfKey (tupleKind (mixKind P w))) ∧ (xs.map (·.1)).Nodup
  | .set S n => h.SetOf (intKind P w) a S n
  | .ins C dx fs => H dx = some (.own a) ∧ fs.length ≤ 1000 ∧ dx ≠ a ∧ h.get? a = some (PySem.W.instObj C dx) ∧
      ∃ mA, h.Ns1 dx mA ∧ (∀ f, RelO (fs.lookup f) (mA f)) ∧ PySem.Within mA (fs.map (·.1))
  | .own _ => ∃ o, h.get? a = some o
  | .xd fs => ∃ mA, h.Ns1 a mA ∧ ∀ f, RelO (fs.lookup f) (mA f)
  | .rng lo hi => ∃ t u v, h.get? a = some { cls := .type "range", data := .fields #[.int lo t, .int hi u, .int 1 v] }
  | .frz o u => h.get? a = some o ∧ ObjOk H h a u
  | .tbl ps => h.get? a = some { cls := .none, data := .fields ps }
  | .met f x => h.get? a = some (PySem.W.methodObj (.ref f) (.ref x))
  | .ext φ => φ h ∧ (∃ o, h.get? a = some o) ∧ ∀ h1 h2 : Heap, φ h1 → (∀ o, h1.get? a = some o → h2.get? a = some o) → φ h2
def HOk (H : Hp) (h : Heap) : Prop := ∀ a o, H a = some o → ObjOk P w H h a o
end
section
variable {P : Program} {w : World} {H H' : Hp} {h h' : Heap} {a : Addr} {o : HO}
theorem ObjOk.lt (x : ObjOk P w H h a o) : a < h.objs.size := by
  cases o with
  | lst xs => obtain ⟨_, _, _, _, e⟩ := x; exact Heap.lt_size e
  | tup xs => obtain ⟨_, _, _, p⟩ := x; exact p.lt
  | dK kvs => obtain ⟨_, _, _, _, o, _, _, e, _⟩ := x; exact Heap.lt_size e
  | dT kvs => obtain ⟨_, _, _, _, o, _, _, e, _⟩ := x; exact Heap.lt_size e
  | set S n => obtain ⟨o, _, _, _, e, _⟩ := x; exact Heap.lt_size e
  | ins C dx fs => obtain ⟨_, _, _, e, _⟩ := x; exact Heap.lt_size e
  | own y => obtain ⟨_, e⟩ := x; exact Heap.lt_size e
  | xd fs => obtain ⟨_, ⟨_, _, _, e, _⟩, _⟩ := x; exact Heap.lt_size e
  | rng lo hi => obtain ⟨_, _, _, e⟩ := x; exact Heap.lt_size e
  | frz ob u => obtain ⟨e, _⟩ := x; exact Heap.lt_size e
  | tbl ps => exact Heap.lt_size (show h.get? a = some _ from x)
  | met f y => exact Heap.lt_size (show h.get? a = some _ from x)
  | ext φ => obtain ⟨_, ⟨_, e⟩, _⟩ := x; exact Heap.lt_size e
theorem Paired.mapP {α β : Type} {F G : α → β → Prop} : ∀ {l₁ : List α} {l₂ : List β}, Paired F l₁ l₂ → (∀ a b, F a b → G a b) → Paired G l₁ l₂
  | _, _, .nil, _ => .nil
  | _, _, .cons r t, f => .cons (f _ _ r) (Paired.mapP t f)
theorem ObjOk.stay (x : ObjOk P w H h a o) (k : ∀ b u, (b = a ∨ H b = some (.own a)) → h.get? b = some u → h'.get? b = some u)
    (ho : ∀ b, H b = some (.own a) → H' b = some (.own a)) (ht : ∀ b xs, H b = some (.tup xs) → H' b = some (.tup xs)) : ObjOk P w H' h' a o := by
  induction o with
  | lst xs => obtain ⟨z, its, n, r, e⟩ := x; exact ⟨z, its, n, r, k _ _ (.inl rfl) e⟩
  | tup xs => obtain ⟨z, its, r, ob, e, c⟩ := x; exact ⟨z, its, r, ob, k _ _ (.inl rfl) e, c⟩
  | dK kvs => obtain ⟨z, y, vs, r, ob, es, ep, e, c⟩ := x; exact ⟨z, y, vs, r, ob, es, ep, k _ _ (.inl rfl) e, c⟩
  | dT kvs =>
    obtain ⟨z, y, xs, r, ob, es, ep, e, c⟩ := x
    exact ⟨z, y, xs, Paired.mapP r fun p q z => ⟨z.1, ht _ _ z.2.1, z.2.2⟩, ob, es, ep, k _ _ (.inl rfl) e, c⟩
  | set S n => obtain ⟨ob, es, ep, t, e, c⟩ := x; exact ⟨ob, es, ep, t, k _ _ (.inl rfl) e, c⟩
  | ins C dx fs =>
    obtain ⟨d, z, ne, e, mA, ⟨od, es, ep, e2, c⟩, r⟩ := x
    exact ⟨ho _ d, z, ne, k _ _ (.inl rfl) e, mA, ⟨od, es, ep, k _ _ (.inr d) e2, c⟩, r⟩
  | own y => obtain ⟨ob, e⟩ := x; exact ⟨ob, k _ _ (.inl rfl) e⟩
  | xd fs => obtain ⟨mA, ⟨od, es, ep, e, c⟩, r⟩ := x; exact ⟨mA, ⟨od, es, ep, k _ _ (.inl rfl) e, c⟩, r⟩
  | rng lo hi => obtain ⟨t, u, v, e⟩ := x; exact ⟨t, u, v, k _ _ (.inl rfl) e⟩
  | frz ob u ih => obtain ⟨e, q⟩ := x; exact ⟨k _ _ (.inl rfl) e, ih q⟩
  | tbl ps =>
    have e : h.get? a = some { cls := .none, data := .fields ps } := x
    show h'.get? a = some { cls := .none, data := .fields ps }
    exact k a _ (.inl rfl) e
  | met f y =>
    have e : h.get? a = some (PySem.W.methodObj (.ref f) (.ref y)) := x
    show h'.get? a = some (PySem.W.methodObj (.ref f) (.ref y))
    exact k a _ (.inl rfl) e
  | ext φ => obtain ⟨p, ⟨o, e⟩, st⟩ := x; exact ⟨st _ _ p fun o q => k _ _ (.inl rfl) q, ⟨o, k _ _ (.inl rfl) e⟩, st⟩
theorem HOk.lt (x : HOk P w H h) (e : H a = some o) : a < h.objs.size := (x a o e).lt
theorem HOk.fresh (x : HOk P w H h) (e : h.objs.size ≤ a) : H a = none := by
  cases q : H a with
  | none => rfl
  | some u => exact absurd (Nat.lt_of_lt_of_le (x.lt q) e) (Nat.lt_irrefl _)
theorem HOk.kept (x : HOk P w H h) (k : ∀ b u, h.get? b = some u → h'.get? b = some u) : HOk P w H h' := fun a o e =>
  (x a o e).stay (fun b u _ q => k b u q) (fun _ q => q) fun _ _ q => q
theorem HOk.laid (x : HOk P w H h) (k : ∀ b u, h.get? b = some u → h'.get? b = some u) (hp : h.objs.size ≤ a) (new : ObjOk P w (upd H a o) h' a o) : HOk P w (upd H a o) h' := fun b u e => by
  have hn := x.fresh hp
  by_cases hb : b = a
  · subst hb; rw [upd_same] at e; cases e; exact new
  · rw [upd_ne hb] at e
    exact (x b u e).stay (fun c v _ q => k c v q) (fun c q => by rw [upd_ne (ne_of_none q hn)]; exact q) fun c xs q => by rw [upd_ne (ne_of_none q hn)]; exact q
end
def Rd (H : Hp) (a : Addr) (u : HO) : Prop := H a = some u ∨ ∃ o, H a = some (.frz o u)
theorem Rd.ok {P : Program} {w : World} {H : Hp} {h : Heap} {a : Addr} {u : HO} (r : Rd H a u) (x : HOk P w H h) : ObjOk P w H h a u := by
  rcases r with r | ⟨o, r⟩
  · exact x a u r
  · obtain ⟨_, q⟩ := x a _ r
    exact q
def Mut : Option HO → Prop
  | some (.lst _) => True
  | some (.dK _) => True
  | some (.dT _) => True
  | some (.set _ _) => True
  | some (.ins _ _ _) => True
  | some (.ext _) => True
  | _ => False
section
variable {P : Program} {w : World} {H : Hp} {h h' : Heap} {x e : Addr} {o' : HO}
theorem HOk.write (ok : HOk P w H h) (mu : Mut (H x)) (he : e = x ∨ H e = some (.own x)) (k : ∀ b u, b ≠ e → h.get? b = some u → h'.get? b = some u) (heo : ∃ u, h'.get? e = some u)
    (new : ObjOk P w (upd H x o') h' x o') : HOk P w (upd H x o') h' := fun b u q => by
  have nown : ∀ c y, H c = some (.own y) → c ≠ x := fun c y r z => by subst z; rw [r] at mu; exact mu
  have ntup : ∀ c xs, H c = some (.tup xs) → c ≠ x := fun c xs r z => by subst z; rw [r] at mu; exact mu
  by_cases hb : b = x
  · subst hb; rw [upd_same] at q; cases q; exact new
  · rw [upd_ne hb] at q
    by_cases hbe : b = e
    · have q' : H b = some (.own x) := by
        rcases he with z | z
        · exact absurd (hbe.trans z) hb
        · rw [hbe]; exact z
      rw [q] at q'; cases q'
      obtain ⟨v, hv⟩ := heo
      exact ⟨v, by rw [hbe]; exact hv⟩
    · refine (ok b u q).stay (fun c v hc r => k c v ?_ r) (fun c r => by rw [upd_ne (nown c b r)]; exact r) fun c xs r => by rw [upd_ne (ntup c xs r)]; exact r
      rcases hc with rfl | hc
      · exact hbe
      · rintro rfl
        rcases he with z | z
        · exact nown c b hc z
        · rw [hc] at z; cases z; exact hb rfl
end
structure Un (fs ex : List Addr) (H H' : Hp) (h h' : Heap) : Prop where
  keep : ∀ b o, h.get? b = some o → H b = none → b ∉ fs → b ∉ ex → h'.get? b = some o
  slot : ∀ b o, h.get? b = some o → H b = none → b ∈ fs → b ∉ ex → ∃ sl, h'.get? b = some { o with slots := sl }
  free : ∀ b o, h.get? b = some o → H b = none → b ∉ ex → H' b = none
  there : ∀ b o, h.get? b = some o → b ∉ ex → ∃ o', h'.get? b = some o'
  tups : ∀ b xs, H b = some (.tup xs) → H' b = some (.tup xs)
  frzs : ∀ b o u, H b = some (.frz o u) → H' b = some (.frz o u)
  tbls : ∀ b ps, H b = some (.tbl ps) → ∃ more, H' b = some (.tbl (ps ++ more))
section
variable {fs fs' ex ex' : List Addr} {H H1 H2 : Hp} {h h1 h2 h' : Heap} {a x e : Addr} {o : HO}
theorem Un.any (u : Un fs ex H H1 h h1) {b : Addr} {ob : Obj} (q : h.get? b = some ob) (n : H b = none) (hx : b ∉ ex) : ∃ sl, h1.get? b = some { ob with slots := sl } := by
  by_cases hb : b ∈ fs
  · exact u.slot b ob q n hb hx
  · exact ⟨ob.slots, u.keep b ob q n hb hx⟩
theorem Un.kept (k : ∀ b u, h.get? b = some u → h'.get? b = some u) : Un fs ex H H h h' :=
  ⟨fun b ob q _ _ _ => k b ob q, fun b ob q _ _ _ => ⟨ob.slots, k b ob q⟩, fun _ _ _ n _ => n, fun b ob q _ => ⟨ob, k b ob q⟩, fun _ _ q => q, fun _ _ _ q => q, fun _ ps q => ⟨#[], by rw [q]; simp⟩⟩
theorem Un.refl : Un fs ex H H h h := Un.kept fun _ _ q => q
theorem Un.laid (k : ∀ b u, h.get? b = some u → h'.get? b = some u) (hp : h.objs.size ≤ a) (hn : H a = none) : Un fs ex H (upd H a o) h h' where
  keep := fun b u q _ _ _ => k b u q
  slot := fun b u q _ _ _ => ⟨u.slots, k b u q⟩
  free := fun b u q n _ => by rw [upd_ne (Nat.ne_of_lt (Nat.lt_of_lt_of_le (Heap.lt_size q) hp))]; exact n
  there := fun b u q _ => ⟨u, k b u q⟩
  tups := fun b xs q => by rw [upd_ne (ne_of_none q hn)]; exact q
  frzs := fun b u xs q => by rw [upd_ne (ne_of_none q hn)]; exact q
  tbls := fun b ps q => ⟨#[], by rw [upd_ne (ne_of_none q hn), q]; simp⟩
theorem Un.write (mu : Mut (H x)) (he : e = x ∨ H e = some (.own x)) (k : ∀ b u, b ≠ e → h.get? b = some u → h'.get? b = some u) (heo : ∃ u, h'.get? e = some u) : Un fs ex H (upd H x o) h h' := by
  have hx : ∀ b, H b = none → b ≠ x := fun b n z => by subst z; rw [n] at mu; exact mu
  have hb : ∀ b, H b = none → b ≠ e := fun b n z => by
    subst z
    rcases he with r | r
    · exact hx b n r
    · rw [n] at r; cases r
  have hm : ∀ b u, H b = some u → ¬ Mut (some u) → b ≠ x := fun b u q nm z => by subst z; rw [q] at mu; exact nm mu
  refine ⟨fun b u q n _ _ => k b u (hb b n) q, fun b u q n _ _ => ⟨u.slots, k b u (hb b n) q⟩, fun b u q n _ => by rw [upd_ne (hx b n)]; exact n, fun b u q _ => ?_,
    fun b xs q => by rw [upd_ne (hm b _ q fun z => z)]; exact q, fun b u xs q => by rw [upd_ne (hm b _ q fun z => z)]; exact q, fun b ps q => ⟨#[], by rw [upd_ne (hm b _ q fun z => z), q]; simp⟩⟩
  by_cases hbe : b = e
  · subst hbe; exact heo
  · exact ⟨u, k b u hbe q⟩
end
def trk (h : Heap) (H : Hp) : List Addr := (List.range h.objs.size).filter fun a => (H a).isSome
def hidT (h : Heap) (H : Hp) : Heap := PySem.W.hideAll h (trk h H)
theorem hidT_size (h : Heap) (H : Hp) : (hidT h H).objs.size = h.objs.size := PySem.W.hideAll_size _ _
theorem hidT_get {h : Heap} {H : Hp} {b : Addr} {o : Obj} (e : h.get? b = some o) (n : H b = none) : (hidT h H).get? b = some o :=
  PySem.W.hideAll_get _ e fun hm => by
    have q : (H b).isSome = true := (List.mem_filter.mp hm).2
    rw [n] at q; simp at q
theorem of_hidT {h : Heap} {H : Hp} {b : Addr} {o : Obj} (e : (hidT h H).get? b = some o) : h.get? b = some o ∧ H b = none := by
  have e' : h.get? b = some o := PySem.W.of_hideAll (trk h H) e
  refine ⟨e', ?_⟩
  cases q : H b with
  | none => rfl
  | some x =>
    have hm : b ∈ trk h H := List.mem_filter.mpr ⟨List.mem_range.mpr (Heap.lt_size e'), by simp [q]⟩
    have z : (hidT h H).get? b = none := PySem.W.hideAll_none (trk h H) hm
    rw [z] at e; cases e
def allNews (g h : Heap) (L : Addr) : List (Addr × Obj) := (List.range h.objs.size).filterMap fun a => if a = L ∨ (g.get? a).isSome = true then none else (h.get? a).map fun o => (a, o)
def rest (g h : Heap) (L d : Addr) : List (Addr × Obj) := (allNews g h L).filter fun p => decide (p.1 ≠ d)
end L2
namespace L2
open PySem PySem.Spec PyProof.Rows
structure Mod (K : PySem.W.Frag) (mg : Str → Option Value) (base : Heap) : Prop where
  kin : K.In base
  glob : base.Ns mainGlobals mg
  blt : ∃ mb, base.Ns builtinsNs mb ∧ ∀ x : Str, x ≠ "__name__" → mb x = bootBuiltins x
  nolimit : base.NoLimit
structure Cx where
  prog : Program
  w : World
  K : PySem.W.Frag
  mg : Str → Option Value
  base : Heap
  A : Around
  N : List Str
  s₀ : Shared
  H₀ : Hp
  env : Env
  outer : List Env
  stack : List Env
  ex : List Addr
  fn : Str → Bool
  calm : Bool
  pn : List (Addr × Obj)
  xe : Value → Shared → Prop
def frs (l : List Env) : List Addr := l.filterMap (·.frame)
abbrev Cx.fs (X : Cx) : List Addr := frs X.outer
def Vis (sc : Scope) (x : Str) : Prop := sc.names.lookup x = some .local ∨ sc.names.lookup x = some .cell ∨ sc.names.lookup x = some .free
def Loc (sc : Scope) (x : Str) : Prop := sc.names.lookup x = some .local ∨ sc.names.lookup x = some .cell
def Look (env : Env) (h : Heap) (m : Str → Option Value) (x : Str) (u : Value) : Prop :=
  (env.kindOf x = some .local ∧ m x = some u) ∨ ((env.kindOf x = some .cell ∨ env.kindOf x = some .free) ∧ ∃ c, env.cells.lookup x = some c ∧ h.IsCell c (some u))
structure Cx.Ok (X : Cx) : Prop where
  mod : Mod X.K X.mg X.base
  kind : X.env.scope.kind = .function
  glob : X.env.globals = mainGlobals
  blt : X.env.builtins = builtinsNs
  above : X.s₀.heap.objs.size ≤ X.env.locals
  inj : ∀ x y c, X.env.cells.lookup x = some c → X.env.cells.lookup y = some c → x = y
  has : ∀ x, (X.env.kindOf x = some .cell ∨ X.env.kindOf x = some .free) → ∃ c, X.env.cells.lookup x = some c
  cab : ∀ x c, X.fn x = true → X.env.cells.lookup x = some c → X.s₀.heap.objs.size ≤ c
  hd : X.calm = true → X.A.handled = none
  frames : X.A.frames = some X.stack
  stk : X.stack = X.outer ∨ (X.stack = X.env :: X.outer ∧ X.env.frame = some X.env.locals)
  exf : ∀ b ∈ X.ex, b ≠ X.env.locals ∧ ∀ x c, X.env.cells.lookup x = some c → c ≠ b
  bs : ∀ b o, X.base.get? b = some o → X.s₀.heap.get? b = some o ∧ X.H₀ b = none
  bsz : X.base.objs.size ≤ X.s₀.heap.objs.size
  noex : ∀ b o, X.base.get? b = some o → b ∉ X.ex
  exfs : ∀ b ∈ X.ex, b ∉ X.fs
  funs : X.s₀.heap.FunFrames X.base X.outer
  frf : ∀ b ∈ X.fs, X.H₀ b = none
structure Inv (X : Cx) (pins : List (Addr × Obj)) (σ : List (Option V)) (H : Hp) (s : Shared) : Prop where
  ok : X.Ok
  os : s.os = X.s₀.os
  bare : AllBare s.gens
  base : Un X.fs X.ex X.H₀ H X.s₀.heap s.heap
  loc : ∃ m, s.heap.Ns X.env.locals m ∧ ∀ (i : Nat) (x : Str) (v : V), X.N[i]? = some x → σ[i]? = some (some v) → Vis X.env.scope x → ∃ u, RelV v u ∧ Look X.env s.heap m x u
  cell : ∀ x c, X.env.cells.lookup x = some c → ∃ v, s.heap.IsCell c v
  free : H X.env.locals = none
  freeC : ∀ x c, X.env.cells.lookup x = some c → H c = none
  pin : ∀ p ∈ X.pn ++ pins, s.heap.get? p.1 = some p.2 ∧ H p.1 = none ∧ p.1 ≠ X.env.locals ∧ p.1 ∉ X.fs ∧ ∀ v, p.2.data ≠ .cell v
  hok : HOk X.prog X.w H s.heap
  len : σ.length = X.N.length
section
variable {X : Cx} {pins : List (Addr × Obj)} {σ : List (Option V)} {H H' : Hp} {s : Shared} {h' : Heap}
theorem Cx.Ok.nofr (ok : X.Ok) {b : Addr} {o : Obj} (e : X.base.get? b = some o) : b ∉ X.fs := fun hb => by
  have := (ok.funs.mem hb).1
  rw [e] at this; cases this
theorem Inv.bs (I : Inv X pins σ H s) : ∀ b o, X.base.get? b = some o → s.heap.get? b = some o ∧ H b = none := fun b o e =>
  ⟨I.base.keep b o (I.ok.bs b o e).1 (I.ok.bs b o e).2 (I.ok.nofr e) (I.ok.noex b o e), I.base.free b o (I.ok.bs b o e).1 (I.ok.bs b o e).2 (I.ok.noex b o e)⟩
theorem Inv.bk (I : Inv X pins σ H s) : ∀ b o, X.base.get? b = some o → s.heap.get? b = some o := fun b o e => (I.bs b o e).1
theorem Inv.mod (I : Inv X pins σ H s) : Mod X.K X.mg X.base := I.ok.mod
theorem Inv.kIn (I : Inv X pins σ H s) : X.K.In s.heap := I.ok.mod.kin.keeps I.bk
theorem Inv.nolimit (I : Inv X pins σ H s) : s.heap.NoLimit := I.ok.mod.nolimit.keeps I.bk
theorem Inv.lt (I : Inv X pins σ H s) : X.env.locals < s.heap.objs.size := let ⟨_, hn, _⟩ := I.loc; hn.lt
theorem Inv.sz (I : Inv X pins σ H s) : X.s₀.heap.objs.size ≤ s.heap.objs.size := Nat.le_trans I.ok.above (Nat.le_of_lt I.lt)
theorem Inv.nofs (I : Inv X pins σ H s) {a : Addr} (h : s.heap.objs.size ≤ a) : a ∉ X.fs := fun hb => by
  obtain ⟨_, o, ho, _⟩ := I.ok.funs.mem hb
  exact absurd (Nat.lt_of_lt_of_le (Heap.lt_size ho) (Nat.le_trans I.sz h)) (Nat.lt_irrefl _)
theorem Inv.cne (I : Inv X pins σ H s) : ∀ x c, X.env.cells.lookup x = some c → c ≠ X.env.locals := fun x c e z => by
  obtain ⟨v, o, ho, hd⟩ := I.cell x c e
  obtain ⟨m, ⟨o', es, ep, ho', hd', _⟩, _⟩ := I.loc
  rw [z, ho'] at ho; cases ho; rw [hd'] at hd; cases hd
theorem Inv.funs (I : Inv X pins σ H s) : s.heap.FunFrames X.base X.outer := by
  have all : ∀ (l : List Env), (∀ b ∈ frs l, b ∈ X.fs) → X.s₀.heap.FunFrames X.base l → s.heap.FunFrames X.base l := by
    intro l
    induction l with
    | nil => intro _ _; trivial
    | cons env r ih =>
      intro hs hl
      obtain ⟨hk, ⟨L, o, hf, hn, ho, hd⟩, hr⟩ := hl
      have hL : L ∈ X.fs := hs L (by unfold frs; rw [List.filterMap_cons, hf]; exact List.mem_cons_self)
      obtain ⟨sl, e⟩ := I.base.slot L o ho (I.ok.frf L hL) hL fun z => I.ok.exfs L z hL
      exact ⟨hk, ⟨L, _, hf, hn, e, hd⟩, ih (fun b hb => hs b (by unfold frs; rw [List.filterMap_cons, hf]; exact List.mem_cons_of_mem _ hb)) hr⟩
  exact all X.outer (fun _ hb => hb) I.ok.funs
theorem Inv.stack (I : Inv X pins σ H s) : s.heap.FunFrames X.base X.stack := by
  rcases I.ok.stk with e | ⟨e, hf⟩
  · rw [e]; exact I.funs
  · rw [e]
    obtain ⟨m, hn, _⟩ := I.loc
    refine .cons (by rw [I.ok.kind]; decide) hf hn ?_ I.funs
    exact Heap.get?_none_of_le (Nat.le_trans I.ok.bsz I.ok.above)
theorem Inv.stkSub (I : Inv X pins σ H s) : ∀ b ∈ frs X.stack, b ∈ X.env.locals :: X.fs := fun b hb => by
  rcases I.ok.stk with e | ⟨e, hf⟩
  · rw [e] at hb; exact List.mem_cons_of_mem _ hb
  · rw [e] at hb
    unfold frs at hb
    rw [List.filterMap_cons, hf] at hb
    exact hb
theorem Inv.stkFree (I : Inv X pins σ H s) : ∀ b ∈ frs X.stack, H b = none := fun b hb => by
  rcases List.mem_cons.mp (I.stkSub b hb) with e | hb
  · rw [e]; exact I.free
  · obtain ⟨_, o, ho, _⟩ := I.ok.funs.mem hb
    exact I.base.free b o ho (I.ok.frf b hb) fun z => I.ok.exfs b z hb
theorem Inv.step {g' : Array GenState} {t' : Nat} {d' : Drawn} {ch : List Addr} (I : Inv X pins σ H s)
    (hch : ∀ b ∈ ch, (b ∈ X.ex ∨ X.s₀.heap.objs.size ≤ b) ∧ b ≠ X.env.locals ∧ (∀ x c, X.env.cells.lookup x = some c → c ≠ b) ∧ ∀ p ∈ X.pn ++ pins, p.1 ≠ b)
    (keep : ∀ b o, b ≠ X.env.locals → b ∉ X.fs → b ∉ ch → s.heap.get? b = some o → H b = none → h'.get? b = some o)
    (slot : ∀ b o, b ≠ X.env.locals → b ∈ X.fs → b ∉ ch → s.heap.get? b = some o → H b = none → ∃ sl, h'.get? b = some { o with slots := sl }) (free : ∀ b o, b ∉ ch → s.heap.get? b = some o → H b = none → H' b = none)
    (there : ∀ b o, b ∉ ch → s.heap.get? b = some o → ∃ o', h'.get? b = some o')
    (tups : ∀ b xs, H b = some (.tup xs) → H' b = some (.tup xs)) (frzs : ∀ b o u, H b = some (.frz o u) → H' b = some (.frz o u)) (tbls : ∀ b ps, H b = some (.tbl ps) → ∃ more, H' b = some (.tbl (ps ++ more)))
    (ns : ∀ m, s.heap.Ns X.env.locals m → h'.Ns X.env.locals m) (hok : HOk X.prog X.w H' h') (hg : AllBare g') :
    Inv X pins σ H' { s with heap := h', gens := g', drawn := d', toks := t' } := by
  have neL : ∀ b o, X.s₀.heap.get? b = some o → b ≠ X.env.locals := fun b o e => Nat.ne_of_lt (Nat.lt_of_lt_of_le (Heap.lt_size e) I.ok.above)
  have neC : ∀ b o, X.s₀.heap.get? b = some o → b ∉ X.ex → b ∉ ch := fun b o e hx hb => by
    rcases (hch b hb).1 with z | z
    · exact hx z
    · exact absurd (Nat.lt_of_lt_of_le (Heap.lt_size e) z) (Nat.lt_irrefl _)
  have cellK : ∀ x c, X.env.cells.lookup x = some c → ∀ v, s.heap.IsCell c v → h'.IsCell c v := fun x c e v ⟨o, ho, hd⟩ => by
    have nch : c ∉ ch := fun z => (hch c z).2.2.1 x c e rfl
    by_cases hc : c ∈ X.fs
    · obtain ⟨sl, q⟩ := slot c o (I.cne x c e) hc nch ho (I.freeC x c e)
      exact ⟨_, q, hd⟩
    · exact ⟨o, keep c o (I.cne x c e) hc nch ho (I.freeC x c e), hd⟩
  refine ⟨I.ok, I.os, hg, ⟨fun b o e n hb hx => ?_, fun b o e n hb hx => ?_, fun b o e n hx => ?_, fun b o e hx => ?_, fun b xs e => tups b xs (I.base.tups b xs e), fun b o xs e => frzs b o xs (I.base.frzs b o xs e), fun b ps e => ?_⟩, ?_, fun x c e => ?_, ?_, fun x c e => ?_, fun p hp => ?_, hok, I.len⟩
  · exact keep b o (neL b o e) hb (neC b o e hx) (I.base.keep b o e n hb hx) (I.base.free b o e n hx)
  · obtain ⟨sl, e1⟩ := I.base.slot b o e n hb hx
    obtain ⟨sl', e2⟩ := slot b _ (neL b o e) hb (neC b o e hx) e1 (I.base.free b o e n hx)
    exact ⟨sl', e2⟩
  · obtain ⟨o', e1⟩ := I.base.there b o e hx
    exact free b o' (neC b o e hx) e1 (I.base.free b o e n hx)
  · obtain ⟨o', e1⟩ := I.base.there b o e hx
    exact there b o' (neC b o e hx) e1
  · obtain ⟨m1, e1⟩ := I.base.tbls b ps e
    obtain ⟨m2, e2⟩ := tbls b _ e1
    exact ⟨m1 ++ m2, by rw [e2, Array.append_assoc]⟩
  · obtain ⟨m, hn, hl⟩ := I.loc
    refine ⟨m, ns m hn, fun i x v e1 e2 e3 => ?_⟩
    obtain ⟨u, r, l⟩ := hl i x v e1 e2 e3
    refine ⟨u, r, ?_⟩
    rcases l with l | ⟨k, c, e, z⟩
    · exact .inl l
    · exact .inr ⟨k, c, e, cellK x c e _ z⟩
  · obtain ⟨v, z⟩ := I.cell x c e
    exact ⟨v, cellK x c e v z⟩
  · obtain ⟨m, ⟨o, _, _, ho, _⟩, _⟩ := I.loc
    exact free _ o (fun z => (hch _ z).2.1 rfl) ho I.free
  · obtain ⟨v, o, ho, hd⟩ := I.cell x c e
    exact free c o (fun z => (hch c z).2.2.1 x c e rfl) ho (I.freeC x c e)
  · obtain ⟨e, n, ne, nf, d⟩ := I.pin p hp
    have nch : p.1 ∉ ch := fun z => (hch p.1 z).2.2.2 p hp rfl
    exact ⟨keep p.1 p.2 ne nf nch e n, free p.1 p.2 nch e n, ne, nf, d⟩
theorem Inv.un {t' : Nat} (I : Inv X pins σ H s) (u : Un X.fs [] H H' s.heap h') (hok : HOk X.prog X.w H' h') : Inv X pins σ H' { s with heap := h', toks := t' } := by
  obtain ⟨m, ⟨o, es, ep, ho, r⟩, _⟩ := id I.loc
  obtain ⟨sl, hL⟩ := u.any ho I.free (by simp)
  exact I.step (g' := s.gens) (d' := s.drawn) (ch := []) (fun _ z => nomatch z) (fun b o _ hb _ e n => u.keep b o e n hb (by simp)) (fun b o _ hb _ e n => u.slot b o e n hb (by simp)) (fun b o _ e n => u.free b o e n (by simp)) (fun b o _ e => u.there b o e (by simp)) u.tups u.frzs u.tbls (fun m' hm => by
    obtain ⟨o', es', ep', ho', r'⟩ := hm
    rw [ho] at ho'; cases ho'
    exact ⟨_, es', ep', hL, r'⟩) hok I.bare
theorem Inv.call {g' : Array GenState} {t' : Nat} {d' : Drawn} {ch : List Addr} (I : Inv X pins σ H s) (u : Un (frs X.stack) ch H H' s.heap h') (hok : HOk X.prog X.w H' h') (hg : AllBare g')
    (hch : ∀ b ∈ ch, (b ∈ X.ex ∨ X.s₀.heap.objs.size ≤ b) ∧ b ≠ X.env.locals ∧ (∀ x c, X.env.cells.lookup x = some c → c ≠ b) ∧ ∀ p ∈ X.pn ++ pins, p.1 ≠ b) :
    Inv X pins σ H' { s with heap := h', gens := g', drawn := d', toks := t' } := by
  obtain ⟨m, ⟨o, es, ep, ho, r⟩, _⟩ := id I.loc
  obtain ⟨sl, hL⟩ := u.any ho I.free fun z => (hch _ z).2.1 rfl
  exact I.step (ch := ch) hch (fun b o hL hb hc e n => u.keep b o e n (fun z => (List.mem_cons.mp (I.stkSub b z)).elim hL hb) hc) (fun b o _ _ hc e n => u.any e n hc) (fun b o hc e n => u.free b o e n hc) (fun b o hc e => u.there b o e hc) u.tups u.frzs u.tbls (fun m' hm => by
    obtain ⟨o', es', ep', ho', r'⟩ := hm
    rw [ho] at ho'; cases ho'
    exact ⟨_, es', ep', hL, r'⟩) hok hg
theorem Inv.turned {t' : Nat} {it : Addr} (I : Inv X pins σ H s) (k : ∀ b o, b ≠ it → s.heap.get? b = some o → h'.get? b = some o) (hn : H it = none) (hL : it ≠ X.env.locals)
    (h1 : it ∈ X.ex ∨ X.s₀.heap.objs.size ≤ it) (h2 : ∀ x c, X.env.cells.lookup x = some c → c ≠ it) (h3 : ∀ p ∈ X.pn ++ pins, p.1 ≠ it) : Inv X pins σ H { s with heap := h', toks := t' } := by
  have nit : ∀ b u, H b = some u → b ≠ it := fun b u e z => by rw [z, hn] at e; cases e
  refine I.step (g' := s.gens) (d' := s.drawn) (ch := [it]) (fun b hb => ?_) (fun b o _ _ hc e _ => k b o (fun z => hc (by simp [z])) e) (fun b o _ _ hc e _ => ⟨o.slots, k b o (fun z => hc (by simp [z])) e⟩) (fun _ _ _ _ n => n)
    (fun b o hc e => ⟨o, k b o (fun z => hc (by simp [z])) e⟩) (fun _ _ e => e) (fun _ _ _ e => e) (fun b ps e => ⟨#[], by rw [e]; simp⟩) (fun m hm => ?_) (fun b u e => ?_) I.bare
  · have e : b = it := by simpa using hb
    subst e
    exact ⟨h1, hL, h2, h3⟩
  · obtain ⟨o, es, ep, ho, r⟩ := hm
    exact ⟨o, es, ep, k _ o (Ne.symm hL) ho, r⟩
  · refine (I.hok b u e).stay (fun c v hc q => k c v ?_ q) (fun _ q => q) fun _ _ q => q
    rcases hc with z | z
    · rw [z]; exact nit b u e
    · exact nit c _ z
theorem Inv.tok (I : Inv X pins σ H s) (t : Nat) : Inv X pins σ H { s with toks := t } := I.un (h' := s.heap) (t' := t) Un.refl I.hok
theorem Inv.kept {t' : Nat} (I : Inv X pins σ H s) (k : ∀ b u, s.heap.get? b = some u → h'.get? b = some u) : Inv X pins σ H { s with heap := h', toks := t' } := I.un (Un.kept k) (I.hok.kept k)
theorem Inv.laid {a : Addr} {o : HO} {t' : Nat} (I : Inv X pins σ H s) (k : ∀ b u, s.heap.get? b = some u → h'.get? b = some u) (hp : s.heap.objs.size ≤ a) (new : ObjOk X.prog X.w (upd H a o) h' a o) :
    Inv X pins σ (upd H a o) { s with heap := h', toks := t' } := I.un (Un.laid k hp (I.hok.fresh hp)) (I.hok.laid k hp new)
theorem Inv.write {x e : Addr} {o : HO} {t' : Nat} (I : Inv X pins σ H s) (mu : Mut (H x)) (he : e = x ∨ H e = some (.own x)) (k : ∀ b u, b ≠ e → s.heap.get? b = some u → h'.get? b = some u) (heo : ∃ u, h'.get? e = some u)
    (new : ObjOk X.prog X.w (upd H x o) h' x o) : Inv X pins σ (upd H x o) { s with heap := h', toks := t' } := I.un (Un.write mu he k heo) (I.hok.write mu he k heo new)
theorem Inv.pins_of {pins' : List (Addr × Obj)} (I : Inv X pins σ H s) (h : ∀ p ∈ pins', s.heap.get? p.1 = some p.2 ∧ H p.1 = none ∧ p.1 ≠ X.env.locals ∧ p.1 ∉ X.fs ∧ ∀ v, p.2.data ≠ .cell v) : Inv X pins' σ H s :=
  ⟨I.ok, I.os, I.bare, I.base, I.loc, I.cell, I.free, I.freeC, fun p hp => (List.mem_append.mp hp).elim (fun z => I.pin p (List.mem_append_left _ z)) (h p), I.hok, I.len⟩
theorem nodup_ix {N : List Str} (hN : N.Nodup) {i j : Nat} {x : Str} (a : N[i]? = some x) (b : N[j]? = some x) : i = j := by
  obtain ⟨h1, e1⟩ := List.getElem?_eq_some_iff.mp a
  obtain ⟨h2, e2⟩ := List.getElem?_eq_some_iff.mp b
  exact (List.getElem_inj hN).mp (e1.trans e2.symm)
theorem store_ok2 {M : Model} {A : Around} {E : Value → Shared → Prop} {i : Nat} {x : Str} {v : V} {u : Value} {Q : Unit → Shared → Prop} (I : Inv X pins σ H s) (hN : X.N.Nodup) (hi : X.N[i]? = some x) (hx : Loc X.env.scope x) (r : RelV v u)
    (h : ∀ s', Inv X pins (σ.set i (some v)) H s' → (∃ a, Heap.SameBut a s.heap s'.heap ∧ (a = X.env.locals ∨ X.env.cells.lookup x = some a)) → Q () s') (hf : X.fn x = true ∨ X.env.scope.names.lookup x = some .local := by first | exact .inl rfl | exact .inr rfl | assumption) : wpAny M A (storeName X.env x u) Q E s := by
  obtain ⟨m, hn, hl⟩ := id I.loc
  have hcls : (X.env.scope.kind == .class || (X.env.scope.kind == .module && X.env.locals != X.env.globals)) = false := by rw [I.ok.kind]; rfl
  have hiσ : i < σ.length := by rw [I.len]; exact (List.getElem?_eq_some_iff.mp hi).1
  have cne := I.cne
  have tracked : ∀ {a : Addr} {h' : Heap}, (∃ o, s.heap.get? a = some o ∧ H a = none) → Heap.SameBut a s.heap h' → HOk X.prog X.w H h' := fun {a h'} ha hs b ob e => by
    obtain ⟨_, _, hfree⟩ := ha
    refine (I.hok b ob e).stay (fun c w' hc q => (hs.2 c ?_).trans q) (fun _ q => q) fun _ _ q => q
    rintro rfl
    rcases hc with rfl | hc
    · rw [hfree] at e; cases e
    · rw [hfree] at hc; cases hc
  rcases hx with hk | hk
  · refine wpAny_storeName_local hk hn (fun h' hn' hs => ?_) hcls
    obtain ⟨oL, _, _, hoL, _⟩ := id hn
    refine h _ ⟨I.ok, I.os, I.bare, ⟨fun b o e n hb hx => ?_, fun b o e n hb hx => ?_, I.base.free, fun b o e hx => ?_, I.base.tups, I.base.frzs, I.base.tbls⟩, ⟨_, hn', fun j y v' e1 e2 e3 => ?_⟩, fun y c e => ?_, I.free, I.freeC, fun p hp => ?_, tracked ⟨oL, hoL, I.free⟩ hs, by simpa using I.len⟩ ⟨_, hs, .inl rfl⟩
    · exact (hs.2 b (Nat.ne_of_lt (Nat.lt_of_lt_of_le (Heap.lt_size e) I.ok.above))).trans (I.base.keep b o e n hb hx)
    · obtain ⟨sl, e1⟩ := I.base.slot b o e n hb hx
      exact ⟨sl, (hs.2 b (Nat.ne_of_lt (Nat.lt_of_lt_of_le (Heap.lt_size e) I.ok.above))).trans e1⟩
    · obtain ⟨o', e1⟩ := I.base.there b o e hx
      exact ⟨o', (hs.2 b (Nat.ne_of_lt (Nat.lt_of_lt_of_le (Heap.lt_size e) I.ok.above))).trans e1⟩
    · by_cases hj : j = i
      · subst hj
        rw [hi] at e1; cases e1
        rw [List.getElem?_set_self hiσ] at e2
        cases e2
        exact ⟨u, r, .inl ⟨hk, by simp⟩⟩
      · rw [List.getElem?_set_ne (Ne.symm hj)] at e2
        obtain ⟨u', r', q⟩ := hl j y v' e1 e2 e3
        refine ⟨u', r', ?_⟩
        rcases q with ⟨k, e⟩ | ⟨k, c, e, z⟩
        · refine .inl ⟨k, ?_⟩
          have : y ≠ x := fun e => hj (nodup_ix hN e1 (e ▸ hi))
          simp [this, e]
        · exact .inr ⟨k, c, e, z.sameBut hs (cne y c e)⟩
    · obtain ⟨w', z⟩ := I.cell y c e
      exact ⟨w', z.sameBut hs (cne y c e)⟩
    · obtain ⟨e, n, ne, nf, d⟩ := I.pin p hp
      exact ⟨(hs.2 p.1 ne).trans e, n, ne, nf, d⟩
  · have hfn : X.fn x = true := by
      rcases hf with z | z
      · exact z
      · rw [z] at hk; cases hk
    obtain ⟨c, hc⟩ := I.ok.has x (.inl hk)
    obtain ⟨w', z⟩ := I.cell x c hc
    refine wpAny_storeName_cell I.ok.kind hk hc z (fun h' hc' hs => ?_)
    obtain ⟨oc, hoc, hocd⟩ := id z
    refine h { s with heap := h' } ⟨I.ok, I.os, I.bare, ⟨fun b o e n hb hx => ?_, fun b o e n hb hx => ?_, I.base.free, fun b o e hx => ?_, I.base.tups, I.base.frzs, I.base.tbls⟩, ⟨m, hn.sameBut hs (Ne.symm (cne x c hc)), fun j y v' e1 e2 e3 => ?_⟩, fun y c' e => ?_, I.free, I.freeC, fun p hp => ?_, tracked ⟨oc, hoc, I.freeC x c hc⟩ hs, by simpa using I.len⟩ ⟨c, hs, .inr hc⟩
    · exact (hs.2 b (Nat.ne_of_lt (Nat.lt_of_lt_of_le (Heap.lt_size e) (I.ok.cab x c hfn hc)))).trans (I.base.keep b o e n hb hx)
    · obtain ⟨sl, e1⟩ := I.base.slot b o e n hb hx
      exact ⟨sl, (hs.2 b (Nat.ne_of_lt (Nat.lt_of_lt_of_le (Heap.lt_size e) (I.ok.cab x c hfn hc)))).trans e1⟩
    · obtain ⟨o', e1⟩ := I.base.there b o e hx
      exact ⟨o', (hs.2 b (Nat.ne_of_lt (Nat.lt_of_lt_of_le (Heap.lt_size e) (I.ok.cab x c hfn hc)))).trans e1⟩
    · by_cases hj : j = i
      · subst hj
        rw [hi] at e1; cases e1
        rw [List.getElem?_set_self hiσ] at e2
        cases e2
        exact ⟨u, r, .inr ⟨.inl hk, c, hc, hc'⟩⟩
      · rw [List.getElem?_set_ne (Ne.symm hj)] at e2
        obtain ⟨u', r', q⟩ := hl j y v' e1 e2 e3
        refine ⟨u', r', ?_⟩
        rcases q with q | ⟨k, c', e, z'⟩
        · exact .inl q
        · refine .inr ⟨k, c', e, z'.sameBut hs ?_⟩
          rintro rfl
          exact hj (nodup_ix hN e1 (I.ok.inj _ _ _ e hc ▸ hi))
    · by_cases hcc : c' = c
      · subst hcc; exact ⟨_, hc'⟩
      · obtain ⟨w2, z2⟩ := I.cell y c' e
        exact ⟨w2, z2.sameBut hs hcc⟩
    · obtain ⟨e, n, ne, nf, d⟩ := I.pin p hp
      refine ⟨(hs.2 p.1 ?_).trans e, n, ne, nf, d⟩
      intro q
      rw [q, hoc] at e
      have q' : oc = p.2 := Option.some.inj e
      exact d w' (by rw [← q']; exact hocd)
theorem store_ok {M : Model} {A : Around} {E : Value → Shared → Prop} {i : Nat} {x : Str} {v : V} {u : Value} {Q : Unit → Shared → Prop} (I : Inv X pins σ H s) (hN : X.N.Nodup) (hi : X.N[i]? = some x) (hx : Loc X.env.scope x) (r : RelV v u)
    (h : ∀ s', Inv X pins (σ.set i (some v)) H s' → Q () s') (hf : X.fn x = true ∨ X.env.scope.names.lookup x = some .local := by first | exact .inl rfl | exact .inr rfl | assumption) : wpAny M A (storeName X.env x u) Q E s :=
  store_ok2 I hN hi hx r (fun s' I' _ => h s' I') hf
theorem Inv.call' {s' : Shared} {ch : List Addr} (I : Inv X pins σ H s) (ho : s'.os = s.os) (u : Un (frs X.stack) ch H H' s.heap s'.heap) (hok : HOk X.prog X.w H' s'.heap) (hg : AllBare s'.gens)
    (hch : ∀ b ∈ ch, (b ∈ X.ex ∨ X.s₀.heap.objs.size ≤ b) ∧ b ≠ X.env.locals ∧ (∀ x c, X.env.cells.lookup x = some c → c ≠ b) ∧ ∀ p ∈ X.pn ++ pins, p.1 ≠ b) : Inv X pins σ H' s' := by
  obtain ⟨h', g', d', t', o'⟩ := s'
  have e : o' = s.os := ho
  subst e
  exact I.call (g' := g') (t' := t') (d' := d') u hok hg hch
end
abbrev XK := Value → Option Addr → Hp → Prop
abbrev St := List (Option V)
abbrev VK := V → Hp → Prop
abbrev TE := St → Hp → VK → Prop
abbrev TT := St → Hp → (Bool → Hp → Prop) → Prop
abbrev TA := St → Hp → (List V → Hp → Prop) → Prop
structure Ends where
  nx : St → Hp → Prop
  rt : VK
  bk : St → Hp → Prop := fun _ _ => False
  ct : St → Hp → Prop := fun _ _ => False
abbrev TS := Ends → St → Hp → Prop
def EP (X : Cx) (pins : List (Addr × Obj)) (σ : St) (Q : VK) (u : Value) (s' : Shared) : Prop := ∃ v H', Inv X pins σ H' s' ∧ RelV v u ∧ Q v H'
def TP (X : Cx) (pins : List (Addr × Obj)) (σ : St) (Q : Bool → Hp → Prop) (b : Bool) (s' : Shared) : Prop := ∃ H', Inv X pins σ H' s' ∧ Q b H'
def AP (X : Cx) (pins : List (Addr × Obj)) (σ : St) (Q : List V → Hp → Prop) (us : List Value) (s' : Shared) : Prop := ∃ vs H', Inv X pins σ H' s' ∧ Vals vs us ∧ Q vs H'
def SP (X : Cx) (pins : List (Addr × Obj)) (D : Ends) (f : Flow) (s' : Shared) : Prop :=
  match f with
  | .next => ∃ σ' H', Inv X pins σ' H' s' ∧ D.nx σ' H'
  | .brk => ∃ σ' H', Inv X pins σ' H' s' ∧ D.bk σ' H'
  | .cont => ∃ σ' H', Inv X pins σ' H' s' ∧ D.ct σ' H'
  | .ret u => ∃ v σ' H', Inv X pins σ' H' s' ∧ RelV v u ∧ D.rt v H'
def PE (X : Cx) (e : Expr) (t : TE) : Prop :=
  ∀ (pins : List (Addr × Obj)) (s : Shared) (σ : St) (H : Hp) (Q : VK), Inv X pins σ H s → t σ H Q → wpAny (model X.prog X.w) X.A (eval e X.env) (EP X pins σ Q) X.xe s
def PT (X : Cx) (e : Expr) (t : TT) : Prop :=
  ∀ (pins : List (Addr × Obj)) (s : Shared) (σ : St) (H : Hp) (Q : Bool → Hp → Prop), Inv X pins σ H s → t σ H Q → wpAny (model X.prog X.w) X.A (isTrue e X.env (eval e X.env)) (TP X pins σ Q) X.xe s
def PW (X : Cx) (e : Expr) (t : TT) : Prop :=
  ∀ (whole : Sem Value) (pins : List (Addr × Obj)) (s : Shared) (σ : St) (H : Hp) (Q : Bool → Hp → Prop), Inv X pins σ H s → t σ H Q → wpAny (model X.prog X.w) X.A (isTrue e X.env whole) (TP X pins σ Q) X.xe s
theorem PW.pt {X : Cx} {e : Expr} {t : TT} (h : PW X e t) : PT X e t := h _
def PA (X : Cx) (es : List Expr) (t : TA) : Prop :=
  ∀ (pos : Pos) (pins : List (Addr × Obj)) (s : Shared) (σ : St) (H : Hp) (Q : List V → Hp → Prop), Inv X pins σ H s → t σ H Q → wpAny (model X.prog X.w) X.A (spliced (backTo pos (starEach es X.env))) (AP X pins σ Q) X.xe s
def PS (X : Cx) (st : Stmt) (t : TS) : Prop :=
  ∀ (pins : List (Addr × Obj)) (s : Shared) (σ : St) (H : Hp) (D : Ends), Inv X pins σ H s → t D σ H → wpAny (model X.prog X.w) X.A (exec st X.env) (SP X pins D) X.xe s
def PSs (X : Cx) (st : List Stmt) (t : TS) : Prop :=
  ∀ (pins : List (Addr × Obj)) (s : Shared) (σ : St) (H : Hp) (D : Ends), Inv X pins σ H s → t D σ H → wpAny (model X.prog X.w) X.A (execs st X.env) (SP X pins D) X.xe s
theorem thn {α : Type} {t : Sem α} {Q Q' : α → Shared → Prop} {M : Model} {A : Around} {E : Value → Shared → Prop} {s : Shared} (h : wpAny M A t Q E s) (hQ : ∀ a s, Q a s → Q' a s) : wpAny M A t Q' E s := wpAny_mono h hQ fun _ _ x => x
end L2
namespace L2
open PySem PySem.Spec PyProof.Rows
section
variable {X : Cx}
def tVar (i : Nat) : TE := fun σ H Q => ∃ v, σ[i]? = some (some v) ∧ Q v H
def tC (v : V) : TE := fun _ H Q => Q v H
theorem pe_var {i : Nat} {x : Str} {pos : Pos} (hN : X.N[i]? = some x) (hv : Vis X.env.scope x) (hd : (x == ("__debug__" : Str)) = false := by decide) (hcd : (x == ("__classdict__" : Str)) = false := by decide) : PE X (.Name x pos) (tVar i) := by
  intro pins s σ H Q I h
  obtain ⟨v, e, h⟩ := h
  obtain ⟨m, hn, hl⟩ := I.loc
  obtain ⟨u, r, l⟩ := hl i x v hN e hv
  have fin : EP X pins σ Q u s := ⟨v, H, I, r, h⟩
  rcases l with ⟨hk, hm⟩ | ⟨hk, c, hc, hcell⟩
  · exact wpAny_Name (wpAny_loadName_local I.ok.kind hk hn hm fin) hd
  · rcases hk with hk | hk
    · exact wpAny_Name (wpAny_loadName_cell I.ok.kind hk hc hcell fin) hd
    · exact wpAny_Name (wpAny_loadName_free I.ok.kind hk hc hcell fin hcd) hd
theorem pe_int {i j pos} : PE X (.Constant (.int i) j pos) (tC (.int i)) := fun _ _ _ H _ I h => wpAny_Constant_int ⟨.int i, H, I.tok _, ⟨_, rfl⟩, h⟩
theorem pe_bl {b j pos} : PE X (.Constant (.bool b) j pos) (tC (.bl b)) := fun _ _ _ H _ I h => Constant_bool ⟨.bl b, H, I, rfl, h⟩
theorem pe_non {j pos} : PE X (.Constant .none j pos) (tC .non) := fun _ _ _ H _ I h => Constant_none ⟨.non, H, I, rfl, h⟩
theorem pe_str {x j pos} : PE X (.Constant (.str x) j pos) (tC (.str x)) := fun _ _ _ H _ I h => Calls.Constant_str ⟨.str x, H, I.tok _, ⟨_, rfl⟩, h⟩
def Gl (X : Cx) (x : Str) : Prop := X.env.kindOf x = some .globalImplicit
theorem ld_glob {E : Value → Shared → Prop} {pins : List (Addr × Obj)} {s : Shared} {σ : St} {H : Hp} {x : Str} {u : Value} {pos : Pos} {Q : Value → Shared → Prop} (I : Inv X pins σ H s) (hg : Gl X x) (hm : X.mg x = some u) (h : Q u s)
    (hd : (x == ("__debug__" : Str)) = false := by decide) : wpAny (model X.prog X.w) X.A (eval (.Name x pos) X.env) Q E s :=
  Calls.Name_function_global I.ok.kind hg (Calls.loadGlobal_global (by rw [I.ok.glob]; exact I.mod.glob.keeps I.bk) hm h) hd
theorem ld_blt {E : Value → Shared → Prop} {pins : List (Addr × Obj)} {s : Shared} {σ : St} {H : Hp} {x : Str} {u : Value} {pos : Pos} {Q : Value → Shared → Prop} (I : Inv X pins σ H s) (hg : Gl X x) (hm : X.mg x = none) (hv : bootBuiltins x = some u) (h : Q u s)
    (hn : x ≠ "__name__" := by decide) (hd : (x == ("__debug__" : Str)) = false := by decide) : wpAny (model X.prog X.w) X.A (eval (.Name x pos) X.env) Q E s := by
  obtain ⟨mb, h1, h2⟩ := I.mod.blt
  exact Calls.Name_function_global I.ok.kind hg (Calls.loadGlobal_builtin (by rw [I.ok.glob]; exact I.mod.glob.keeps I.bk) hm (by rw [I.ok.blt]; exact h1.keeps I.bk) ((h2 x hn).trans hv) h) hd
theorem pe_glob {x : Str} {v : V} {u : Value} {pos : Pos} (hg : Gl X x) (hm : X.mg x = some u) (r : RelV v u) (hd : (x == ("__debug__" : Str)) = false := by decide) : PE X (.Name x pos) (tC v) :=
  fun _ _ _ H _ I h => ld_glob I hg hm ⟨v, H, I, r, h⟩ hd
theorem pe_bltn {x : Str} {v : V} {u : Value} {pos : Pos} (hg : Gl X x) (hm : X.mg x = none) (hv : bootBuiltins x = some u) (r : RelV v u) (hn : x ≠ "__name__" := by decide) (hd : (x == ("__debug__" : Str)) = false := by decide) : PE X (.Name x pos) (tC v) :=
  fun _ _ _ H _ I h => ld_blt I hg hm hv ⟨v, H, I, r, h⟩ hn hd
def t2I (ta tb : TE) (k : Int → Int → Hp → Prop) : St → Hp → Prop := fun σ H => ta σ H fun x H1 => tb σ H1 fun y H2 => ∃ i j, x = .int i ∧ y = .int j ∧ k i j H2
def tAdd (ta tb : TE) : TE := fun σ H Q => t2I ta tb (fun i j H2 => Q (.int (i + j)) H2) σ H
def tSub (ta tb : TE) : TE := fun σ H Q => t2I ta tb (fun i j H2 => Q (.int (i - j)) H2) σ H
def tMul (ta tb : TE) : TE := fun σ H Q => t2I ta tb (fun i j H2 => (-(2 ^ 64) < i ∧ i < 2 ^ 64) ∧ Q (.int (i * j)) H2) σ H
variable {a b : Expr} {ta tb : TE} {pos : Pos}
def PC (X : Cx) (op : CmpOp) (a b : Expr) (t : TE) : Prop :=
  ∀ (pins : List (Addr × Obj)) (s : Shared) (σ : St) (H : Hp) (Q : VK), Inv X pins σ H s → t σ H Q →
    wpAny (model X.prog X.w) X.A (eval a X.env) (fun v s₁ => wpAny (model X.prog X.w) X.A (eval b X.env) (fun u s₂ => wpAny (model X.prog X.w) X.A (compareOp op v u) (EP X pins σ Q) X.xe s₂) X.xe s₁) X.xe s
theorem nobehind (b : Expr) {op : CmpOp} (h : op ≠ .In) (h2 : op ≠ .NotIn) : behindInMarks op b = false := by
  have e1 : (op == CmpOp.In) = false := by cases op <;> first | rfl | exact absurd rfl h
  have e2 : (op == CmpOp.NotIn) = false := by cases op <;> first | rfl | exact absurd rfl h2
  cases b <;> simp [behindInMarks, e1, e2]
def tCmp (p : Int → Int → Bool) (ta tb : TE) : TE := fun σ H Q => t2I ta tb (fun i j H2 => Q (.bl (p i j)) H2) σ H
abbrev tLt : TE → TE → TE := tCmp fun i j => decide (i < j)
abbrev tLe : TE → TE → TE := tCmp fun i j => decide (i ≤ j)
abbrev tGt : TE → TE → TE := tCmp fun i j => decide (j < i)
abbrev tGe : TE → TE → TE := tCmp fun i j => decide (j ≤ i)
abbrev tEqI : TE → TE → TE := tCmp fun i j => decide (i = j)
abbrev tNeI : TE → TE → TE := tCmp fun i j => !decide (i = j)
def tIsN (ta : TE) : TE := fun σ H Q => ta σ H fun x H1 => Q (.bl (decide (x = .non))) H1
def tNotN (ta : TE) : TE := fun σ H Q => ta σ H fun x H1 => Q (.bl (!decide (x = .non))) H1
def tB (t : TE) : TT := fun σ H Q => t σ H fun x H1 => ∃ c, x = .bl c ∧ Q c H1
theorem pt_cmp {op : CmpOp} {t : TE} (h : PC X op a b t) (h1 : behindInMarks op b = false := by first | exact nobehind _ (by decide) (by decide) | rfl) : PT X (.Compare a [op] [b] pos) (tB t) := by
  intro pins s σ H Q I hw
  refine wpAny_isTrue_Compare1 (thn (h pins s σ H _ I hw) fun v s1 h1 => thn h1 fun u s2 h2 => thn h2 fun c s3 ⟨x, H1, I1, r1, q1⟩ => ?_) h1
  obtain ⟨d, rfl, q⟩ := q1
  cases r1
  exact wpAny_truthy_bool ⟨H1, I1, q⟩
theorem pt_val {e : Expr} {t : TE} (h : PE X e t) (he : ∀ whole, isTrue e X.env whole = (do let v ← whole; standAt e.pos; holding [v] (truthy v)) := by intro _; rfl) : PT X e (tB t) := by
  intro pins s σ H Q I hw
  refine isTrue_plain (thn (h pins s σ H _ I hw) fun v s1 ⟨x, H1, I1, r1, q1⟩ => ?_) (he _)
  obtain ⟨d, rfl, q⟩ := q1
  cases r1
  exact wpAny_truthy_bool ⟨H1, I1, q⟩
variable {tA tB' : TT} {rest : List Expr}
def tAnd (t u : TT) : TT := fun σ H Q => t σ H fun c H1 => if c = true then u σ H1 Q else Q false H1
def tOr (t u : TT) : TT := fun σ H Q => t σ H fun c H1 => if c = true then Q true H1 else u σ H1 Q
def tNot (t : TT) : TT := fun σ H Q => t σ H fun c H1 => Q (!c) H1
theorem pw_and1 (ha : PT X a tA) : PW X (.BoolOp .And [a] pos) tA := by
  intro wh pins s σ H Q I h
  refine isTrue_and (thn (ha pins s σ H Q I h) fun c s1 e => ?_)
  cases c with
  | true => exact isTrue_and_nil e
  | false => exact e
theorem pw_or1 (ha : PT X a tA) : PW X (.BoolOp .Or [a] pos) tA := by
  intro wh pins s σ H Q I h
  refine isTrue_or (thn (ha pins s σ H Q I h) fun c s1 e => ?_)
  cases c with
  | false => exact isTrue_or_nil e
  | true => exact e
theorem pw_and (ha : PT X a tA) (hb : PW X (.BoolOp .And (b :: rest) pos) tB') : PW X (.BoolOp .And (a :: b :: rest) pos) (tAnd tA tB') := by
  intro wh pins s σ H Q I h
  refine isTrue_and (thn (ha pins s σ H _ I h) fun c s1 ⟨H1, I1, q1⟩ => ?_)
  cases c with
  | true => exact hb wh pins s1 σ H1 Q I1 q1
  | false => exact ⟨H1, I1, q1⟩
theorem pw_or (ha : PT X a tA) (hb : PW X (.BoolOp .Or (b :: rest) pos) tB') : PW X (.BoolOp .Or (a :: b :: rest) pos) (tOr tA tB') := by
  intro wh pins s σ H Q I h
  refine isTrue_or (thn (ha pins s σ H _ I h) fun c s1 ⟨H1, I1, q1⟩ => ?_)
  cases c with
  | true => exact ⟨H1, I1, q1⟩
  | false => exact hb wh pins s1 σ H1 Q I1 q1
theorem pt_not (ha : PT X a tA) : PT X (.UnaryOp .Not a pos) (tNot tA) := by
  intro pins s σ H Q I h
  exact isTrue_not (ha pins s σ H (fun c H1 => Q (!c) H1) I h)
def tAndV (ta tb : TE) : TE := fun σ H Q => ta σ H fun x H1 => ∃ c, x = .bl c ∧ if c = true then tb σ H1 Q else Q (.bl false) H1
def tOrV (ta tb : TE) : TE := fun σ H Q => ta σ H fun x H1 => ∃ c, x = .bl c ∧ if c = true then Q (.bl true) H1 else tb σ H1 Q
def tNotV (ta : TE) : TE := fun σ H Q => ta σ H fun x H1 => ∃ c, x = .bl c ∧ Q (.bl (!c)) H1
theorem pe_one {op} {t : TE} (h : PE X a t) : PE X (.BoolOp op [a] pos) t := fun pins s σ H Q I hw => BoolOp_one (h pins s σ H Q I hw)
theorem pe_and (ha : PE X a ta) (hb : PE X (.BoolOp .And (b :: rest) pos) tb) : PE X (.BoolOp .And (a :: b :: rest) pos) (tAndV ta tb) := by
  intro pins s σ H Q I h
  refine BoolOp_and (thn (ha pins s σ H _ I h) fun v s1 ⟨x, H1, I1, r1, q1⟩ => ?_)
  obtain ⟨c, rfl, q1⟩ := q1
  cases r1
  refine wpAny_truthy_bool ?_
  cases c with
  | true => exact hb pins s1 σ H1 Q I1 q1
  | false => exact ⟨.bl false, H1, I1, rfl, q1⟩
theorem pe_not (ha : PE X a ta) : PE X (.UnaryOp .Not a pos) (tNotV ta) := by
  intro pins s σ H Q I h
  refine UnaryOp_ (thn (ha pins s σ H _ I h) fun v s1 ⟨x, H1, I1, r1, q1⟩ => ?_)
  obtain ⟨c, rfl, q1⟩ := q1
  cases r1
  exact not_of (wpAny_truthy_bool ⟨.bl (!c), H1, I1, rfl, q1⟩)
def tIf (t : TT) (ta tb : TE) : TE := fun σ H Q => t σ H fun c H1 => if c = true then ta σ H1 Q else tb σ H1 Q
end
end L2
namespace L2
open PySem PySem.Spec PyProof.Rows
def SqL (K : PySem.W.Frag) (H : Hp) (a : Addr) (xs : List V) : Prop :=
  Rd H a (.lst xs) ∨
    ∃ (o : Obj) (its : Array Value) (n : Nat), K.lookup a = some o ∧ o.cls = .type "list" ∧ o.dict = none ∧ o.data = .seq its n ∧ its.size ≤ sizeLine ∧ Vals xs its.toList
def SqT (K : PySem.W.Frag) (H : Hp) (a : Addr) (xs : List V) : Prop :=
  Rd H a (.tup xs) ∨
    ∃ (o : Obj) (its : Array Value) (n : Nat), K.lookup a = some o ∧ o.cls = .type "tuple" ∧ o.data = .seq its n ∧ its.size ≤ sizeLine ∧ Vals xs its.toList
def absV : Value → Option V
  | .none => some .non
  | .bool b => some (.bl b)
  | .int i _ => some (.int i)
  | .str x _ => some (.str x)
  | .bytes b _ => some (.byt b)
  | .float b _ => some (.flt b)
  | .ref a => some (.ref a)
  | .type n => some (.ty n)
  | _ => none
theorem RelV.abs {x : V} {u : Value} (r : RelV x u) : absV u = some x := by
  cases x with
  | non => cases r; rfl
  | bl _ => cases r; rfl
  | int _ => obtain ⟨t, rfl⟩ := r; rfl
  | str _ => obtain ⟨t, rfl⟩ := r; rfl
  | byt _ => obtain ⟨t, rfl⟩ := r; rfl
  | flt _ => obtain ⟨t, rfl⟩ := r; rfl
  | ref _ => cases r; rfl
  | ty _ => cases r; rfl
theorem RelV.inj {x y : V} {u : Value} (r : RelV x u) (q : RelV y u) : x = y := Option.some.inj (r.abs.symm.trans q.abs)
theorem Vals.inj : ∀ {xs ys : List V} {us : List Value}, Vals xs us → Vals ys us → xs = ys
  | _, _, _, .nil, .nil => rfl
  | _, _, _, .cons r t, .cons r' t' => by rw [r.inj r', Vals.inj t t']
section
variable {X : Cx} {pins : List (Addr × Obj)} {σ : St} {H : Hp} {s : Shared} {a : Addr} {xs ys : List V}
theorem SqL.of {K : PySem.W.Frag} (h : H a = some (.lst xs)) : SqL K H a xs := .inl (.inl h)
theorem SqT.of {K : PySem.W.Frag} (h : H a = some (.tup xs)) : SqT K H a xs := .inl (.inl h)
theorem Inv.list (I : Inv X pins σ H s) (h : SqL X.K H a xs) : ∃ its : List Value, Vals xs its ∧ PlainL s.heap a its.toArray ∧ xs.length ≤ sizeLine := by
  rcases h with h | ⟨o, its, n, hk, hc, hd, hs, hz, r⟩
  · obtain ⟨z, its, n, r, e⟩ := h.ok I.hok
    exact ⟨its, r, ⟨_, n, e, rfl, rfl, rfl⟩, z⟩
  · refine ⟨its.toList, r, ⟨o, n, I.kIn a o hk, hc, hd, by simpa using hs⟩, ?_⟩
    have e := r.length
    simp only [Array.length_toList] at e
    omega
theorem Inv.tuple (I : Inv X pins σ H s) (h : SqT X.K H a xs) : ∃ its : List Value, Vals xs its ∧ IsTup s.heap a its.toArray ∧ xs.length ≤ sizeLine := by
  rcases h with h | ⟨o, its, n, hk, hc, hs, hz, r⟩
  · obtain ⟨z, its, r, p⟩ := h.ok I.hok
    exact ⟨its, r, p, z⟩
  · refine ⟨its.toList, r, ⟨o, I.kIn a o hk, hc, n, by simpa using hs⟩, ?_⟩
    have e := r.length
    simp only [Array.length_toList] at e
    omega
theorem Inv.list_inj (I : Inv X pins σ H s) (h : SqL X.K H a xs) (h' : SqL X.K H a ys) : xs = ys := by
  obtain ⟨its, r, ⟨o, n, e, _, _, d⟩, _⟩ := I.list h
  obtain ⟨its', r', ⟨o', n', e', _, _, d'⟩, _⟩ := I.list h'
  rw [e] at e'; cases e'
  rw [d] at d'
  injection d' with d1 _
  have : its = its' := by simpa using congrArg Array.toList d1
  subst this
  exact r.inj r'
end
abbrev Cx.wish (X : Cx) (E : Value → Shared → Prop) : Cx := { X with xe := E }
abbrev Cx.nox (X : Cx) : Cx := X.wish fun _ _ => False
theorem Cx.Ok.wish {X : Cx} (ok : X.Ok) (E : Value → Shared → Prop) : (X.wish E).Ok :=
  ⟨ok.mod, ok.kind, ok.glob, ok.blt, ok.above, ok.inj, ok.has, ok.cab, ok.hd, ok.frames, ok.stk, ok.exf, ok.bs, ok.bsz, ok.noex, ok.exfs, ok.funs, ok.frf⟩
theorem Cx.Ok.unwish {X : Cx} {E : Value → Shared → Prop} (ok : (X.wish E).Ok) : X.Ok :=
  ⟨ok.mod, ok.kind, ok.glob, ok.blt, ok.above, ok.inj, ok.has, ok.cab, ok.hd, ok.frames, ok.stk, ok.exf, ok.bs, ok.bsz, ok.noex, ok.exfs, ok.funs, ok.frf⟩
section
variable {X : Cx} {pins : List (Addr × Obj)} {σ : St} {H : Hp} {s : Shared} {E : Value → Shared → Prop}
theorem Inv.wish (I : Inv X pins σ H s) (E : Value → Shared → Prop) : Inv (X.wish E) pins σ H s := ⟨I.ok.wish E, I.os, I.bare, I.base, I.loc, I.cell, I.free, I.freeC, I.pin, I.hok, I.len⟩
theorem Inv.unwish (I : Inv (X.wish E) pins σ H s) : Inv X pins σ H s := ⟨I.ok.unwish, I.os, I.bare, I.base, I.loc, I.cell, I.free, I.freeC, I.pin, I.hok, I.len⟩
theorem SP.unwish {D : Ends} {f : Flow} {s' : Shared} (h : SP (X.wish E) pins D f s') : SP X pins D f s' := by
  cases f with
  | next => obtain ⟨σ', H', I, q⟩ := h; exact ⟨σ', H', I.unwish, q⟩
  | brk => obtain ⟨σ', H', I, q⟩ := h; exact ⟨σ', H', I.unwish, q⟩
  | cont => obtain ⟨σ', H', I, q⟩ := h; exact ⟨σ', H', I.unwish, q⟩
  | ret u => obtain ⟨v, σ', H', I, r, q⟩ := h; exact ⟨v, σ', H', I.unwish, r, q⟩
theorem PSs.nox {st : List Stmt} {t : TS} (h : PSs X.nox st t) : PSs X st t := fun pins s σ H D I hw =>
  wpAny_mono (h pins s σ H D (I.wish _) hw) (fun _ _ q => q.unwish) fun _ _ z => False.elim z
end
section
variable {X : Cx} {st : Stmt} {rest : List Stmt} {t u : TS} {e : Expr} {te : TE} {pos : Pos}
def tNext : TS := fun D σ H => D.nx σ H
def tSeq (t u : TS) : TS := fun D σ H => t { D with nx := u D } σ H
theorem pss_nil : PSs X [] tNext := fun _ _ σ H _ I h => wpAny_execs_nil ⟨σ, H, I, h⟩
theorem pss_cons (h1 : PS X st t) (h2 : PSs X rest u) : PSs X (st :: rest) (tSeq t u) := by
  intro pins s σ H D I h
  refine wpAny_execs_cons (thn (h1 pins s σ H { D with nx := u D } I h) fun f s1 q => ?_)
  cases f with
  | next =>
    obtain ⟨σ', H', I', q⟩ := q
    exact h2 pins s1 σ' H' D I' q
  | ret v => exact q
  | brk => exact q
  | cont => exact q
theorem pss_one (h1 : PS X st t) : PSs X [st] t := by
  intro pins s σ H D I h
  refine wpAny_execs_cons (thn (h1 pins s σ H D I h) fun f s1 q => ?_)
  cases f with
  | next => exact wpAny_execs_nil q
  | ret v => exact q
  | brk => exact q
  | cont => exact q
def tBreak : TS := fun D σ H => D.bk σ H
def tCont : TS := fun D σ H => D.ct σ H
theorem Inv.quiet {pins : List (Addr × Obj)} {σ : St} {H : Hp} {s : Shared} (I : Inv X pins σ H s) : interactive X.env = false := by simp [interactive, I.ok.kind]
def tDrop (te : TE) : TS := fun D σ H => te σ H fun _ H1 => D.nx σ H1
theorem ps_expr (he : PE X e te) (hs : swapsWith e none pos.line X.env = pure false := by rfl) : PS X (.Expr e pos) (tDrop te) := by
  intro pins s σ H D I h
  exact wpAny_Expr_any (thn (he pins s σ H _ I h) fun v s1 ⟨x, H1, I1, r1, q1⟩ => ⟨σ, H1, I1, q1⟩) I.quiet hs
def tRet (te : TE) : TS := fun D σ H => te σ H D.rt
theorem ps_ret (he : PE X e te) : PS X (.Return (some e) pos) (tRet te) := by
  intro pins s σ H D I h
  exact wpAny_Return_some (thn (he pins s σ H _ I h) fun v s1 ⟨x, H1, I1, r1, q1⟩ => ⟨x, σ, H1, I1, r1, q1⟩)
def tRetN : TS := fun D _ H => D.rt .non H
def tIfS (c : TT) (t u : TS) : TS := fun D σ H => c σ H fun b H1 => if b = true then t D σ H1 else u D σ H1
theorem ps_if {c : Expr} {a b : List Stmt} {tc : TT} (hc : PT X c tc) (ha : PSs X a t) (hb : PSs X b u) : PS X (.If c a b pos) (tIfS tc t u) := by
  intro pins s σ H D I h
  refine wpAny_If (thn (hc pins s σ H _ I h) fun d s1 ⟨H1, I1, q1⟩ => ?_)
  cases d with
  | true => exact ha pins s1 σ H1 D I1 q1
  | false => exact hb pins s1 σ H1 D I1 q1
def tNever : TS := fun _ _ _ => False
theorem ps_never : PS X st tNever := fun _ _ _ _ _ _ h => h.elim
theorem pss_never {sts : List Stmt} : PSs X sts tNever := fun _ _ _ _ _ _ h => h.elim
end
abbrev TG := V → St → Hp → (St → Hp → Prop) → Prop
abbrev TGs := List V → St → Hp → (St → Hp → Prop) → Prop
def PG (X : Cx) (target : Expr) (t : TG) : Prop :=
  ∀ (pins : List (Addr × Obj)) (s : Shared) (σ : St) (H : Hp) (v : V) (u : Value) (Q : St → Hp → Prop), Inv X pins σ H s → RelV v u → t v σ H Q →
    wpAny (model X.prog X.w) X.A (assign target X.env u) (fun _ s' => ∃ σ' H', Inv X pins σ' H' s' ∧ Q σ' H') X.xe s
def PGs (X : Cx) (ts : List Expr) (t : TGs) : Prop :=
  ∀ (pins : List (Addr × Obj)) (s : Shared) (σ : St) (H : Hp) (vs : List V) (us : List Value) (Q : St → Hp → Prop), Inv X pins σ H s → Vals vs us → t vs σ H Q →
    wpAny (model X.prog X.w) X.A (assignInOrder ((assignEach ts X.env).map (·.2)) us) (fun _ s' => ∃ σ' H', Inv X pins σ' H' s' ∧ Q σ' H') X.xe s
abbrev TSet := V → V → V → Hp → (Hp → Prop) → Prop
def PSet (X : Cx) (t : TSet) : Prop :=
  ∀ (pins : List (Addr × Obj)) (s : Shared) (σ : St) (H : Hp) (o i v : V) (ov iv u : Value) (Q : Hp → Prop), Inv X pins σ H s → RelV o ov → RelV i iv → RelV v u → t o i v H Q →
    wpAny (model X.prog X.w) X.A (setItem ov iv u) (fun _ s' => ∃ H', Inv X pins σ H' s' ∧ Q H') X.xe s
abbrev TIp := V → V → Hp → VK → Prop
def PIp (X : Cx) (op : Operator) (t : TIp) : Prop :=
  ∀ (pins : List (Addr × Obj)) (s : Shared) (σ : St) (H : Hp) (x y : V) (v u : Value) (Q : VK), Inv X pins σ H s → RelV x v → RelV y u → t x y H Q →
    wpAny (model X.prog X.w) X.A (inplaceOp op v u) (EP X pins σ Q) X.xe s
section
variable {X : Cx} {pos : Pos}
def gName (i : Nat) : TG := fun v σ H Q => Q (σ.set i (some v)) H
theorem pg_name {i : Nat} {x : Str} (hN : X.N.Nodup) (hi : X.N[i]? = some x) (hx : Loc X.env.scope x) (hf : X.fn x = true ∨ X.env.scope.names.lookup x = some .local := by first | exact .inl rfl | exact .inr rfl | assumption) : PG X (.Name x pos) (gName i) := by
  intro pins s σ H v u Q I r h
  exact wpAny_assign_Name (store_ok I hN hi hx r (fun s' I' => ⟨_, H, I', h⟩) hf)
def gNil : TGs := fun vs σ H Q => vs = [] ∧ Q σ H
def gCons (t : TG) (u : TGs) : TGs := fun vs σ H Q => ∃ v r, vs = v :: r ∧ t v σ H fun σ' H' => u r σ' H' Q
theorem pgs_nil : PGs X [] gNil := by
  intro pins s σ H vs us Q I r h
  obtain ⟨e, h⟩ := h
  subst e
  cases r
  exact assignInOrder_nil ⟨σ, H, I, h⟩
theorem pgs_cons {e : Expr} {es : List Expr} {t : TG} {u : TGs} (h1 : PG X e t) (h2 : PGs X es u)
    (hs : (assignEach (e :: es) X.env).map (·.2) = assign e X.env :: (assignEach es X.env).map (·.2) := by rfl) : PGs X (e :: es) (gCons t u) := by
  intro pins s σ H vs us Q I r h
  obtain ⟨v, vr, e1, h⟩ := h
  subst e1
  cases r with
  | cons r rr =>
    rw [hs]
    refine assignInOrder_cons (thn (h1 pins s σ H _ _ _ I r h) fun _ s1 ⟨σ1, H1, I1, q1⟩ => ?_)
    exact h2 pins s1 σ1 H1 _ _ Q I1 rr q1
def gTup (K : PySem.W.Frag) (n : Nat) (t : TGs) : TG := fun v σ H Q => ∃ a xs, v = .ref a ∧ SqT K H a xs ∧ xs.length = n ∧ t xs σ H Q
theorem pg_tup {es : List Expr} {k : Nat} {t : TGs} {n : Nat} (hc : X.calm = true) (h : PGs X es t)
    (hn : (assignEach es X.env).length = n := by rfl) (hst : (assignEach es X.env).findIdx? (·.1) = none := by rfl) : PG X (.Tuple es k pos) (gTup X.K n t) := by
  intro pins s σ H v u Q I r hw
  obtain ⟨a, xs, e1, hq, hl, hw⟩ := hw
  subst e1
  cases r
  obtain ⟨its, rv, ht, hz⟩ := I.tuple hq
  refine assign_Tuple_tuple (I.ok.hd hc) ht (by simp [hn, ← hl, rv.length]) hst fun h' hx => ?_
  have I1 : Inv X pins σ H { s with heap := h' } := I.kept (t' := s.toks) fun b o e => hx b o (Nat.ne_of_lt (Heap.lt_size e)) e
  exact h pins _ σ H xs _ Q I1 (by simpa using rv) hw
def gSub (to ti : TE) (t : TSet) : TG := fun v σ H Q => to σ H fun o H1 => ti σ H1 fun i H2 => t o i v H2 fun H3 => Q σ H3
theorem pg_sub {o i : Expr} {to ti : TE} {t : TSet} (ho : PE X o to) (hi : PE X i ti) (hs : PSet X t)
    (ha : ∀ v, assign (.Subscript o i pos) X.env v = (do
      let ov ← holding [v] (eval o X.env)
      let iv ← holding [v, ov] (eval i X.env)
      standAt pos
      holding [v, ov, iv] (setItem ov iv v)
      release [v, ov, iv] []) := by intro _; rfl) : PG X (.Subscript o i pos) (gSub to ti t) := by
  intro pins s σ H v u Q I r h
  rw [ha]
  refine wpAny_bind (wpAny_holding (thn (ho pins s σ H _ I h) fun ov s1 ⟨x, H1, I1, r1, q1⟩ => ?_))
  refine wpAny_bind (wpAny_holding (thn (hi pins s1 σ H1 _ I1 q1) fun iv s2 ⟨y, H2, I2, r2, q2⟩ => ?_))
  refine wpAny_bind (wpAny_standAt (wpAny_bind (wpAny_holding (thn (hs pins s2 σ H2 x y v ov iv u _ I2 r1 r2 r q2) fun _ s3 ⟨H3, I3, q3⟩ => ?_))))
  exact wpAny_release ⟨σ, H3, I3, q3⟩
def tAsg (te : TE) (g : TG) : TS := fun D σ H => te σ H fun x H1 => g x σ H1 D.nx
theorem ps_asg {tg e : Expr} {te : TE} {g : TG} (he : PE X e te) (hg : PG X tg g) (hs : swapsWithSole [tg] e pos.line X.env = pure false := by rfl) (hw : swappedStores [tg] e X.env = pure none := by rfl)
    (h1 : (assignEach [tg] X.env).map (·.2) = [assign tg X.env] := by rfl) : PS X (.Assign [tg] e pos) (tAsg te g) := by
  intro pins s σ H D I h
  refine wpAny_Assign_stores (thn (he pins s σ H _ I h) fun v s1 ⟨x, H1, I1, r1, q1⟩ => ?_) hs hw
  rw [h1]
  exact thn (hg pins s1 σ H1 x v _ I1 r1 q1) fun _ s2 q => q
theorem ps_set {i : Nat} {x : Str} {e : Expr} {te : TE} {pos' : Pos} (hN : X.N.Nodup) (hi : X.N[i]? = some x) (hx : Loc X.env.scope x) (he : PE X e te) (hs : swapsWith e (some (.Name x pos')) pos.line X.env = pure false := by rfl) (hf : X.fn x = true ∨ X.env.scope.names.lookup x = some .local := by first | exact .inl rfl | exact .inr rfl | assumption) :
    PS X (.Assign [.Name x pos'] e pos) (tAsg te (gName i)) := by
  intro pins s σ H D I h
  refine wpAny_Assign_Name (thn (he pins s σ H _ I h) fun v s1 ⟨y, H1, I1, r1, q1⟩ => ?_) hs
  exact store_ok I1 hN hi hx r1 (fun s2 I2 => ⟨_, H1, I2, q1⟩) hf
def tPar (i j : Nat) (ta : TA) : TS := fun D σ H => ta σ H fun vs H1 => ∃ v w, vs = [v, w] ∧ D.nx ((σ.set i (some v)).set j (some w)) H1
def tAug (i : Nat) (te : TE) (ti : TIp) : TS := fun D σ H => ∃ x, σ[i]? = some (some x) ∧ te σ H fun y H1 => ti x y H1 fun z H2 => D.nx (σ.set i (some z)) H2
theorem ps_aug {i : Nat} {x : Str} {e : Expr} {te : TE} {op : Operator} {ti : TIp} {pos' : Pos} (hN : X.N.Nodup) (hi : X.N[i]? = some x) (hx : Loc X.env.scope x) (he : PE X e te) (ho : PIp X op ti) (hf : X.fn x = true ∨ X.env.scope.names.lookup x = some .local := by first | exact .inl rfl | exact .inr rfl | assumption) :
    PS X (.AugAssign (.Name x pos') op e pos) (tAug i te ti) := by
  intro pins s σ H D I h
  obtain ⟨v, e1, h⟩ := h
  obtain ⟨m, hn, hl⟩ := I.loc
  have vis : Vis X.env.scope x := by rcases hx with k | k; exact .inl k; exact .inr (.inl k)
  obtain ⟨u, r, l⟩ := hl i x v hi e1 vis
  refine wpAny_AugAssign_Name ?_
  have go : wpAny (model X.prog X.w) X.A (eval e X.env) (fun w s₂ => wpAny (model X.prog X.w) X.A (inplaceOp op u w) (fun r s₃ => wpAny (model X.prog X.w) X.A (storeName X.env x r) (fun _ => SP X pins D .next) X.xe s₃) X.xe s₂) X.xe s := by
    refine thn (he pins s σ H _ I h) fun w s1 ⟨y, H1, I1, r1, q1⟩ => ?_
    refine thn (ho pins s1 σ H1 v y u w _ I1 r r1 q1) fun z s2 ⟨zv, H2, I2, r2, q2⟩ => ?_
    exact store_ok I2 hN hi hx r2 (fun s3 I3 => ⟨_, H2, I3, q2⟩) hf
  rcases l with ⟨hk, hm⟩ | ⟨hk, c, hc, hcell⟩
  · exact wpAny_loadName_local I.ok.kind hk hn hm go
  · rcases hk with hk | hk
    · exact wpAny_loadName_cell I.ok.kind hk hc hcell go
    · rcases hx with k | k
      · have : X.env.scope.names.lookup x = some .free := hk
        rw [k] at this; cases this
      · have : X.env.scope.names.lookup x = some .free := hk
        rw [k] at this; cases this
def tAugS (to ti te : TE) (tget : V → V → Hp → VK → Prop) (tip : TIp) (tset : TSet) : TS := fun D σ H => to σ H fun o H1 => ti σ H1 fun i H2 => tget o i H2 fun x H3 => te σ H3 fun y H4 => tip x y H4 fun z H5 => tset o i z H5 fun H6 => D.nx σ H6
def PGet (X : Cx) (t : V → V → Hp → VK → Prop) : Prop :=
  ∀ (pins : List (Addr × Obj)) (s : Shared) (σ : St) (H : Hp) (o i : V) (ov iv : Value) (Q : VK), Inv X pins σ H s → RelV o ov → RelV i iv → t o i H Q →
    wpAny (model X.prog X.w) X.A (getItem ov iv) (EP X pins σ Q) X.xe s
def ipI (f : Int → Int → Int) : TIp := fun x y H Q => ∃ i j, x = .int i ∧ y = .int j ∧ Q (.int (f i j)) H
theorem ip_add : PIp X .Add (ipI fun i j => i + j) := by
  intro pins s σ H x y v u Q I r1 r2 h
  obtain ⟨i, j, e1, e2, q⟩ := h
  subst e1; subst e2
  obtain ⟨t, rfl⟩ := r1
  obtain ⟨t', rfl⟩ := r2
  exact iadd_int ⟨.int _, H, I.tok _, ⟨_, rfl⟩, q⟩
end
section
variable {X : Cx} {pos : Pos}
def tWhile (c : TT) (tb : TS) : TS := fun D σ H => ∃ W : Nat → St → Hp → Prop, (∃ m, W m σ H) ∧ ∀ m σ H, W m σ H →
  c σ H fun b H1 => if b = true then ∃ N : St → Hp → Prop, (∀ σ' H', N σ' H' → ∃ m', m' < m ∧ W m' σ' H') ∧ tb { D with nx := N, ct := N, bk := D.nx } σ H1 else D.nx σ H1
theorem ps_while {c : Expr} {body : List Stmt} {tc : TT} {tb : TS} (hp : PassesOwn (model X.prog X.w) X.A X.env X.xe) (hc : PT X c tc) (hb : PSs X body tb) : PS X (.While c body [] pos) (tWhile tc tb) := by
  intro pins s σ H D I h
  obtain ⟨W, ⟨m0, w0⟩, turn⟩ := h
  refine wpAny_While (codeAny_whileLoop (fun n s' => ∃ σ' H', Inv X pins σ' H' s' ∧ W n σ' H') ?_ m0 ⟨σ, H, I, w0⟩)
  rintro n s1 ⟨σ1, H1, I1, w1⟩
  refine wpAny_passesOwn hp (thn (hc pins s1 σ1 H1 _ I1 (turn n σ1 H1 w1)) fun b s2 ⟨H2, I2, q2⟩ => ?_)
  cases b with
  | true =>
    obtain ⟨N, hN, q2⟩ := q2
    rw [if_pos rfl]
    refine wpAny_passesOwn hp (thn (hb pins s2 σ1 H2 _ I2 q2) fun f s3 q3 => ?_)
    cases f with
    | next =>
      obtain ⟨σ3, H3, I3, n3⟩ := q3
      obtain ⟨m', hm, w3⟩ := hN σ3 H3 n3
      exact ⟨m', hm, σ3, H3, I3, w3⟩
    | cont =>
      obtain ⟨σ3, H3, I3, n3⟩ := q3
      obtain ⟨m', hm, w3⟩ := hN σ3 H3 n3
      exact ⟨m', hm, σ3, H3, I3, w3⟩
    | brk => exact q3
    | ret v => exact q3
  | false =>
    rw [if_neg Bool.false_ne_true]
    exact wpAny_execs_nil ⟨σ1, H2, I2, q2⟩
end
structure It where
  go : Nat → Hp → Prop
  yld : Nat → Hp → V → Hp → Prop
  stop : Nat → Hp → Prop
def FpOk (X : Cx) (pins : List (Addr × Obj)) (H : Hp) (b : Addr) : Prop :=
  H b = none ∧ b ≠ X.env.locals ∧ b ∉ X.fs ∧ (b ∈ X.ex ∨ X.s₀.heap.objs.size ≤ b) ∧ (∀ x c, X.env.cells.lookup x = some c → c ≠ b) ∧ ∀ p ∈ X.pn ++ pins, p.1 ≠ b
theorem Inv.fpOk {X : Cx} {pins : List (Addr × Obj)} {σ : St} {H H' : Hp} {s : Shared} {b : Addr} (I : Inv X pins σ H s) (hb : s.heap.objs.size ≤ b) (hn : H' b = none) : FpOk X pins H' b := by
  refine ⟨hn, Nat.ne_of_gt (Nat.lt_of_lt_of_le I.lt hb), I.nofs hb, .inr (Nat.le_trans I.sz hb), fun x c e z => ?_, fun p hp z => ?_⟩
  · obtain ⟨v, q⟩ := I.cell x c e
    exact absurd (Nat.lt_of_lt_of_le q.lt (by rw [z]; exact hb)) (Nat.lt_irrefl _)
  · exact absurd (Nat.lt_of_lt_of_le (Heap.lt_size (I.pin p hp).1) (by rw [z]; exact hb)) (Nat.lt_irrefl _)
structure Turn (P : Program) (w : World) (K : PySem.W.Frag) (tg : Expr) (J : It) (fp : List Addr) (it : Addr) (tn : Nat → Heap → Prop) : Prop where
  mem : it ∈ fp
  obj : ∀ i h, tn i h → ∀ b ∈ fp, ∃ o, h.get? b = some o ∧ ∀ v, o.data ≠ .cell v
  keep : ∀ i h h', tn i h → (∀ b ∈ fp, ∀ o, h.get? b = some o → h'.get? b = some o) → tn i h'
  item : ∀ (X : Cx), X.prog = P → X.w = w → X.K = K → X.calm = true → ∀ (i : Nat) (pins : List (Addr × Obj)) (s : Shared) (σ : St) (H : Hp) (E : Value → Shared → Prop), Inv X pins σ H s → (∀ b ∈ fp, FpOk X pins H b) → tn i s.heap → J.go i H →
    wpAny (model P w) X.A (pyNext (.ref it)) (fun r s1 => ∃ u, r = some u ∧
      wpAny (model P w) X.A (letOwnedTupleGo tg (.ref it) u) (fun _ s2 => ∃ x H', Inv X pins σ H' s2 ∧ RelV x u ∧ J.yld i H x H' ∧ tn (i + 1) s2.heap ∧ ∀ b ∈ fp, H' b = none) E s1) E s
  done : ∀ (X : Cx), X.prog = P → X.w = w → X.K = K → X.calm = true → ∀ (i : Nat) (pins : List (Addr × Obj)) (s : Shared) (σ : St) (H : Hp) (E : Value → Shared → Prop), Inv X pins σ H s → (∀ b ∈ fp, FpOk X pins H b) → tn i s.heap → J.stop i H →
    wpAny (model P w) X.A (pyNext (.ref it)) (fun r s1 => r = none ∧ Inv X pins σ H s1) E s
  self : ∀ (A : Around) (i : Nat) (s : Shared) (Q : Value → Shared → Prop) (E : Value → Shared → Prop), tn i s.heap → Q (.ref it) s → wpAny (model P w) A (pyIter (.ref it)) Q E s
abbrev TI := St → Hp → (It → Hp → Prop) → Prop
def PIE (X : Cx) (pins : List (Addr × Obj)) (σ : St) (tg : Expr) (R : It → Hp → Prop) (itv : Value) (s2 : Shared) : Prop :=
  ∃ (it : Addr) (fp : List Addr) (tn : Nat → Heap → Prop) (J : It) (H' : Hp), itv = .ref it ∧ Inv X pins σ H' s2 ∧ Turn X.prog X.w X.K tg J fp it tn ∧ tn 0 s2.heap ∧ (∀ b ∈ fp, FpOk X pins H' b) ∧ R J H'
def PI (X : Cx) (tg iter : Expr) (wi : TI) : Prop :=
  ∀ (pins : List (Addr × Obj)) (s : Shared) (σ : St) (H : Hp) (R : It → Hp → Prop), Inv X pins σ H s → wi σ H R →
    wpAny (model X.prog X.w) X.A (eval iter X.env) (fun v s1 => wpAny (model X.prog X.w) X.A (pyIter v) (PIE X pins σ tg R) X.xe s1) X.xe s
theorem go_of {M : Model} {A : Around} {E : Value → Shared → Prop} {s : Shared} {tg : Expr} {it : Addr} {u : Value} {o : Obj} {n : String} {vs : Array Value} {Q : Unit → Shared → Prop} (ho : s.heap.get? it = some o) (hc : o.cls = .type n) (hd : o.data = .fields vs)
    (hn : ["enumerate", "zip", "dict_itemiterator", "dict_reverseitemiterator", "odict_iterator", "itertools.zip_longest", "itertools.pairwise"].contains n = false) (hQ : Q () s) : wpAny M A (letOwnedTupleGo tg (.ref it) u) Q E s := by
  unfold letOwnedTupleGo
  cases tg <;> first
    | exact wpAny_pure hQ
    | (cases u <;> first
        | exact wpAny_pure hQ
        | (refine wpAny_bind (wpAny_load ho ?_)
           rw [hc, hd]
           show wpAny M A (if (["enumerate", "zip", "dict_itemiterator", "dict_reverseitemiterator", "odict_iterator", "itertools.zip_longest", "itertools.pairwise"].contains n && vs[0]? == some (rawInt _)) = true then _ else _) Q E s
           rw [if_neg (by intro h; rw [hn, Bool.false_and] at h; cases h)]
           exact wpAny_pure hQ))
def Itl (K : PySem.W.Frag) (a : Addr) : It :=
  ⟨fun i H => ∃ xs x, SqL K H a xs ∧ xs[i]? = some x, fun i H x H' => H' = H ∧ ∀ xs, SqL K H a xs → xs[i]? = some x, fun i H => ∃ xs, SqL K H a xs ∧ xs.length ≤ i⟩
def Itt (K : PySem.W.Frag) (a : Addr) : It :=
  ⟨fun i H => ∃ xs x, SqT K H a xs ∧ xs[i]? = some x, fun i H x H' => H' = H ∧ ∀ xs, SqT K H a xs → xs[i]? = some x, fun i H => ∃ xs, SqT K H a xs ∧ xs.length ≤ i⟩
def Itr (lo : Int) (n : Nat) : It := ⟨fun i _ => i < n, fun i H x H' => H' = H ∧ x = .int (lo + i), fun i _ => n ≤ i⟩
theorem turn_list {P : Program} {w : World} {K : PySem.W.Frag} {tg : Expr} (a it : Addr) : Turn P w K tg (Itl K a) [it] it (fun i h => h.IsListIter it a i) where
  mem := by simp
  obj := fun i h st b hb => by
    have e : b = it := by simpa using hb
    subst e
    obtain ⟨o, e, c, d⟩ := st
    exact ⟨o, e, fun v z => by rw [d] at z; cases z⟩
  keep := fun i h h' st k => st.at fun o e => k it (by simp) o e
  item := by
    intro X hP hw hK hc i pins s σ H E I hf st hg
    subst hP hw hK
    obtain ⟨xs, x, hq, hx⟩ := hg
    obtain ⟨its, rv, p, hz⟩ := I.list hq
    obtain ⟨u, hu, ru⟩ := rv.get hx
    obtain ⟨f0, f1, f2, f3, f4, f5⟩ := hf it (by simp)
    refine wpAny_pyNext_list_item st p.isList (x := u) (by simpa using hu) fun h' st' sb => ?_
    have I1 : Inv X pins σ H { s with heap := h' } := I.turned (t' := s.toks) (fun b o hb e => (sb.2 b hb).trans e) f0 f1 f3 f4 f5
    obtain ⟨o, e, c, d⟩ := id st'
    exact ⟨u, rfl, go_of (s := { s with heap := h' }) e c d (by decide) ⟨x, H, I1, ru, ⟨rfl, fun ys hy => by rw [I.list_inj hy hq]; exact hx⟩, st', fun b hb => (hf b hb).1⟩⟩
  done := by
    intro X hP hw hK hc i pins s σ H E I hf st hg
    subst hP hw hK
    obtain ⟨xs, hq, hx⟩ := hg
    obtain ⟨its, rv, p, hz⟩ := I.list hq
    obtain ⟨f0, f1, f2, f3, f4, f5⟩ := hf it (by simp)
    have hl := rv.length
    exact wpAny_pyNext_list_end (I.ok.hd hc) st p.isList (by simp; omega) fun h' eb => ⟨rfl, I.turned (t' := s.toks) (fun b o hb e => eb b o hb e) f0 f1 f3 f4 f5⟩
  self := fun _ _ _ _ _ st h => wpAny_pyIter_listiter st h
theorem turn_range {P : Program} {w : World} {K : PySem.W.Frag} {tg : Expr} (it : Addr) (lo : Int) (n : Nat) : Turn P w K tg (Itr lo n) [it] it (fun i h => IsRangeIter h it (lo + (i : Nat) * 1) ((n : Int) - (i : Nat)) 1) where
  mem := by simp
  obj := fun i h st b hb => by
    have e : b = it := by simpa using hb
    subst e
    exact ⟨_, st, fun v z => by
      have z' : Data.fields _ = Data.cell v := z
      cases z'⟩
  keep := fun i h h' st k => k it (by simp) _ st
  item := by
    intro X hP hw hK hc i pins s σ H E I hf st hg
    subst hP hw hK
    obtain ⟨f0, f1, f2, f3, f4, f5⟩ := hf it (by simp)
    have W := Walks.range (prog := X.prog) (w := X.w) (I.ok.hd hc) it lo 1 n
    refine W.item i s _ _ hg st fun v h' tk hv st' kk => ?_
    obtain ⟨t, rfl⟩ := hv
    have I1 : Inv X pins σ H { s with heap := h', toks := tk } := I.turned (fun b o hb e => kk b o (by simpa using hb) e) f0 f1 f3 f4 f5
    refine ⟨_, rfl, go_of (s := { s with heap := h', toks := tk }) (n := "range_iterator") st' rfl rfl (by decide) ⟨.int (lo + i), H, I1, ⟨t, ?_⟩, ⟨rfl, rfl⟩, st', fun b hb => (hf b hb).1⟩⟩
    rw [Int.mul_one]
  done := by
    intro X hP hw hK hc i pins s σ H E I hf st hg
    subst hP hw hK
    obtain ⟨f0, f1, f2, f3, f4, f5⟩ := hf it (by simp)
    exact wpAny_pyNext_range_end (I.ok.hd hc) st (by have : n ≤ i := hg; omega) fun h' eb => ⟨rfl, I.turned (t' := s.toks) (fun b o hb e => eb b o hb e) f0 f1 f3 f4 f5⟩
  self := fun _ _ _ _ _ st h => wpAny_pyIter_rangeiter st h
end L2
namespace L2
open PySem PySem.Spec PyProof.Rows
section
variable {X : Cx} {tg : Expr}
def iList (K : PySem.W.Frag) (tl : TE) : TI := fun σ H R => tl σ H fun x H1 => ∃ a, x = .ref a ∧ (∃ xs, SqL K H1 a xs) ∧ R (Itl K a) H1
def iTup (K : PySem.W.Frag) (tl : TE) : TI := fun σ H R => tl σ H fun x H1 => ∃ a, x = .ref a ∧ (∃ xs, SqT K H1 a xs) ∧ R (Itt K a) H1
theorem pi_list {l : Expr} {tl : TE} (hl : PE X l tl) : PI X tg l (iList X.K tl) := by
  intro pins s σ H R I h
  refine thn (hl pins s σ H _ I h) fun v s1 ⟨x, H1, I1, r1, q1⟩ => ?_
  obtain ⟨a, e, ⟨xs, hq⟩, q⟩ := q1
  subst e
  cases r1
  obtain ⟨its, rv, p, hz⟩ := I1.list hq
  refine wpAny_pyIter_list p.isList ?_
  refine ⟨s1.heap.objs.size, [s1.heap.objs.size], _, _, H1, rfl, I1.kept (t' := s1.toks) fun b o e => Heap.get?_push_of_some _ e, turn_list a _, ⟨_, Heap.get?_push_size _ rfl, rfl, rfl⟩, fun b hb => ?_, q⟩
  have e : b = s1.heap.objs.size := by simpa using hb
  subst e
  exact I1.fpOk (Nat.le_refl _) (I1.hok.fresh (Nat.le_refl _))
theorem range_it {pins : List (Addr × Obj)} {σ : St} {H : Hp} {s : Shared} {R : It → Hp → Prop} {E : Value → Shared → Prop} {lo hi : Int} {t u v : Tok} {tk : Nat} (I : Inv X pins σ H s) (h1 : -(2 ^ 62) ≤ lo) (h2 : lo < 2 ^ 62) (h3 : -(2 ^ 62) ≤ hi) (h4 : hi < 2 ^ 62)
    (q : R (Itr lo (hi - lo).toNat) H) : wpAny (model X.prog X.w) X.A (pyIter (.ref s.heap.objs.size)) (PIE X pins σ tg R) E { s with heap := s.heap.push { cls := .type "range", data := .fields #[.int lo t, .int hi u, .int 1 v] }, toks := tk } := by
  refine wpAny_pyIter_range (IsRange.new ..) (small_one h1 h2 h3 h4) ?_
  have I1 : Inv X pins σ H { s with heap := s.heap.push { cls := .type "range", data := .fields #[.int lo t, .int hi u, .int 1 v] }, toks := tk } := I.kept fun b o e => Heap.get?_push_of_some _ e
  refine ⟨(s.heap.push { cls := .type "range", data := .fields #[.int lo t, .int hi u, .int 1 v] }).objs.size, [(s.heap.push { cls := .type "range", data := .fields #[.int lo t, .int hi u, .int 1 v] }).objs.size], _, _, H, rfl,
    I1.kept (t' := tk) fun b o e => Heap.get?_push_of_some _ e, turn_range _ lo (hi - lo).toNat, ?_, fun b hb => ?_, q⟩
  · have e1 : lo + ((0 : Nat) : Int) * 1 = lo := by simp
    have e2 : (((hi - lo).toNat : Nat) : Int) - ((0 : Nat) : Int) = Builtin.Range.rangeSize lo hi 1 := by rw [rangeSize_one]; split <;> omega
    show IsRangeIter _ _ (lo + ((0 : Nat) : Int) * 1) ((((hi - lo).toNat : Nat) : Int) - ((0 : Nat) : Int)) 1
    rw [e1, e2]
    exact Heap.get?_push_size _ rfl
  · have e : b = (s.heap.push { cls := .type "range", data := .fields #[.int lo t, .int hi u, .int 1 v] }).objs.size := by simpa using hb
    subst e
    exact I1.fpOk (Nat.le_refl _) (I1.hok.fresh (Nat.le_refl _))
def iRng1 (ta : TA) : TI := fun σ H R => ta σ H fun vs H1 => ∃ j : Int, vs = [.int j] ∧ -(2 ^ 62) ≤ j ∧ j < 2 ^ 62 ∧ R (Itr 0 j.toNat) H1
def iRng2 (ta : TA) : TI := fun σ H R => ta σ H fun vs H1 => ∃ i j : Int, vs = [.int i, .int j] ∧ (-(2 ^ 62) ≤ i ∧ i < 2 ^ 62 ∧ -(2 ^ 62) ≤ j ∧ j < 2 ^ 62) ∧ R (Itr i (j - i).toNat) H1
theorem pi_range1 {a : Expr} {ta : TA} {p pos : Pos} (hg : Gl X "range") (hm : X.mg "range" = none) (ha : PA X [a] ta) (hs : starEach [a] X.env = [(false, eval a X.env)] := by rfl) : PI X tg (.Call (.Name "range" p) [a] [] pos) (iRng1 ta) := by
  intro pins s σ H R I h
  refine Call_ (ld_blt I hg hm boot_range (PyProof.Rows.callWith_type1 (thn (ha pos pins s σ H _ I h) fun us s1 ⟨vs, H1, I1, r1, q1⟩ => ?_) hs rfl))
  obtain ⟨j, e, q1, q2, q⟩ := q1
  subst e
  cases r1 with
  | cons r rr =>
    cases rr
    obtain ⟨t, rfl⟩ := r
    exact call_range_1 (range_it I1 (by omega) (by omega) q1 q2 (by simpa using q))
def tFor (wi : TI) (g : TG) (tb : TS) : TS := fun D σ H => wi σ H fun J H1 => ∃ W : Nat → Nat → St → Hp → Prop, (∃ m, W 0 m σ H1) ∧ ∀ i m σ H, W i m σ H →
  (J.stop i H ∧ D.nx σ H) ∨ (J.go i H ∧ ∃ N : St → Hp → Prop, (∀ σ' H', N σ' H' → ∃ m', m' < m ∧ W (i + 1) m' σ' H') ∧ ∀ x H', J.yld i H x H' → g x σ H' fun σ2 H2 => tb { D with nx := N, ct := N, bk := D.nx } σ2 H2)
def pinsAt (fp : List Addr) (h : Heap) : List (Addr × Obj) := fp.filterMap fun b => (h.get? b).map fun o => (b, o)
theorem mem_pinsAt {fp : List Addr} {h : Heap} {b : Addr} {o : Obj} (hb : b ∈ fp) (e : h.get? b = some o) : (b, o) ∈ pinsAt fp h := List.mem_filterMap.mpr ⟨b, hb, by rw [e]; rfl⟩
theorem of_pinsAt {fp : List Addr} {h : Heap} {p : Addr × Obj} (hp : p ∈ pinsAt fp h) : p.1 ∈ fp ∧ h.get? p.1 = some p.2 := by
  obtain ⟨b, hb, e⟩ := List.mem_filterMap.mp hp
  cases q : h.get? b with
  | none => rw [q] at e; cases e
  | some o =>
    rw [q] at e
    have e' : (b, o) = p := Option.some.inj e
    subst e'
    exact ⟨hb, q⟩
theorem Inv.pinned {pins : List (Addr × Obj)} {σ : St} {H : Hp} {s : Shared} {fp : List Addr} (I : Inv X pins σ H s) (hf : ∀ b ∈ fp, FpOk X pins H b) (ho : ∀ b ∈ fp, ∃ o, s.heap.get? b = some o ∧ ∀ v, o.data ≠ .cell v) : Inv X (pins ++ pinsAt fp s.heap) σ H s :=
  I.pins_of fun p hp => (List.mem_append.mp hp).elim (fun z => I.pin p (List.mem_append_right _ z)) fun z => by
    obtain ⟨hb, e⟩ := of_pinsAt z
    obtain ⟨f0, f1, f2, _⟩ := hf p.1 hb
    obtain ⟨o, e', d⟩ := ho p.1 hb
    rw [e] at e'; cases e'
    exact ⟨e, f0, f1, f2, d⟩
theorem Inv.unpinned {pins pl : List (Addr × Obj)} {σ : St} {H : Hp} {s : Shared} (I : Inv X (pins ++ pl) σ H s) : Inv X pins σ H s := I.pins_of fun p hp => I.pin p (List.mem_append_right _ (List.mem_append_left _ hp))
theorem ps_for {iter : Expr} {body : List Stmt} {wi : TI} {g : TG} {tb : TS} {pos : Pos} (hp : PassesOwn (model X.prog X.w) X.A X.env X.xe) (hc : X.calm = true) (hi : PI X tg iter wi) (hg : PG X tg g) (hb : PSs X body tb)
    (hs : ∀ x, foldedSetIterable iter X.env x = pure x := by intro _; rfl) : PS X (.For tg iter body [] pos) (tFor wi g tb) := by
  intro pins s σ H D I h
  refine wpAny_For (thn (hi pins s σ H _ I h) fun v s1 h1 => thn h1 fun itv s2 h2 => ?_) hs
  obtain ⟨it, fp, tn, J, H2, e, I2, T, st2, f2, W, ⟨m0, w0⟩, turn⟩ := h2
  subst e
  have stat : ∀ {H' : Hp}, (∀ b ∈ fp, H' b = none) → ∀ b ∈ fp, FpOk X pins H' b := fun hn b hb => ⟨hn b hb, (f2 b hb).2⟩
  refine codeAny_forLoop_any (fun n s' => ∃ i σ' H', Inv X pins σ' H' s' ∧ tn i s'.heap ∧ (∀ b ∈ fp, H' b = none) ∧ W i n σ' H') ?_ m0 ⟨0, σ, H2, I2, st2, fun b hb => (f2 b hb).1, w0⟩
  rintro n s3 ⟨i, σ3, H3, I3, st3, fr3, w3⟩
  rcases turn i n σ3 H3 w3 with ⟨stop, qn⟩ | ⟨go, N, hN, step⟩
  · refine wpAny_passesOwn hp (thn (T.done X rfl rfl rfl hc i pins s3 σ3 H3 X.xe I3 (stat fr3) st3 stop) fun r s4 ⟨hr, I4⟩ => ?_)
    subst hr
    exact wpAny_execs_nil ⟨σ3, H3, I4, qn⟩
  · refine wpAny_passesOwn hp (thn (T.item X rfl rfl rfl hc i pins s3 σ3 H3 X.xe I3 (stat fr3) st3 go) fun r s4 ⟨u, hr, h4⟩ => ?_)
    subst hr
    refine wpAny_passesOwn hp (thn h4 fun _ s5 ⟨x, H5, I5, r5, y5, st5, fr5⟩ => ?_)
    have I5' := I5.pinned (stat fr5) (T.obj _ _ st5)
    refine wpAny_passesOwn hp (thn (hg _ s5 σ3 H5 x u _ I5' r5 (step x H5 y5)) fun _ s6 ⟨σ6, H6, I6, q6⟩ => ?_)
    refine wpAny_passesOwn hp (thn (hb _ s6 σ6 H6 _ I6 q6) fun f s7 q7 => ?_)
    have again : ∀ {σ7 : St} {H7 : Hp}, Inv X (pins ++ pinsAt fp s5.heap) σ7 H7 s7 → N σ7 H7 → ∃ m, m < n ∧ ∃ i σ' H', Inv X pins σ' H' s7 ∧ tn i s7.heap ∧ (∀ b ∈ fp, H' b = none) ∧ W i m σ' H' := fun {σ7 H7} I7 n7 => by
      obtain ⟨m', hm, w7⟩ := hN σ7 H7 n7
      refine ⟨m', hm, i + 1, σ7, H7, I7.unpinned, T.keep _ _ _ st5 fun b hb o e => (I7.pin (b, o) (List.mem_append_right _ (List.mem_append_right _ (mem_pinsAt hb e)))).1, fun b hb => ?_, w7⟩
      obtain ⟨o, e, d⟩ := T.obj _ _ st5 b hb
      exact (I7.pin (b, o) (List.mem_append_right _ (List.mem_append_right _ (mem_pinsAt hb e)))).2.1
    cases f with
    | next => obtain ⟨σ7, H7, I7, n7⟩ := q7; exact again I7 n7
    | cont => obtain ⟨σ7, H7, I7, n7⟩ := q7; exact again I7 n7
    | brk => obtain ⟨σ7, H7, I7, q7⟩ := q7; exact ⟨σ7, H7, I7.unpinned, q7⟩
    | ret v => obtain ⟨x7, σ7, H7, I7, r7, q7⟩ := q7; exact ⟨x7, σ7, H7, I7.unpinned, r7, q7⟩
end
theorem for_list {K : PySem.W.Frag} {a : Addr} {xs : List V} {g : TG} {tb : TS} {D : Ends} {σ : St} {H : Hp} (Pv : Nat → St → Hp → Prop) (h0 : Pv 0 σ H) (hl : ∀ i σ H, i ≤ xs.length → Pv i σ H → SqL K H a xs)
    (hs : ∀ i x σ H, xs[i]? = some x → Pv i σ H → g x σ H fun σ2 H2 => tb { D with nx := Pv (i + 1), ct := Pv (i + 1), bk := D.nx } σ2 H2) (hd : ∀ σ H, Pv xs.length σ H → D.nx σ H) :
    ∃ W : Nat → Nat → St → Hp → Prop, (∃ m, W 0 m σ H) ∧ ∀ i m σ H, W i m σ H →
      ((Itl K a).stop i H ∧ D.nx σ H) ∨ ((Itl K a).go i H ∧ ∃ N : St → Hp → Prop, (∀ σ' H', N σ' H' → ∃ m', m' < m ∧ W (i + 1) m' σ' H') ∧ ∀ x H', (Itl K a).yld i H x H' → g x σ H' fun σ2 H2 => tb { D with nx := N, ct := N, bk := D.nx } σ2 H2) := by
  refine ⟨fun i m σ H => m = xs.length - i ∧ i ≤ xs.length ∧ Pv i σ H, ⟨xs.length, by simp, Nat.zero_le _, h0⟩, ?_⟩
  rintro i m σ H ⟨rfl, hi, p⟩
  have q := hl i σ H hi p
  by_cases hlt : i < xs.length
  · refine .inr ⟨⟨xs, xs[i], q, by simp [hlt]⟩, Pv (i + 1), fun σ' H' p' => ⟨xs.length - (i + 1), by omega, rfl, hlt, p'⟩, fun x H' y => ?_⟩
    obtain ⟨e, y⟩ := y
    subst e
    exact hs i x σ _ (y xs q) p
  · have e : i = xs.length := by omega
    subst e
    exact .inl ⟨⟨xs, q, Nat.le_refl _⟩, hd σ H p⟩
theorem for_range {lo : Int} {n : Nat} {g : TG} {tb : TS} {D : Ends} {σ : St} {H : Hp} (Pv : Nat → St → Hp → Prop) (h0 : Pv 0 σ H)
    (hs : ∀ i σ H, i < n → Pv i σ H → g (.int (lo + i)) σ H fun σ2 H2 => tb { D with nx := Pv (i + 1), ct := Pv (i + 1), bk := D.nx } σ2 H2) (hd : ∀ σ H, Pv n σ H → D.nx σ H) :
    ∃ W : Nat → Nat → St → Hp → Prop, (∃ m, W 0 m σ H) ∧ ∀ i m σ H, W i m σ H →
      ((Itr lo n).stop i H ∧ D.nx σ H) ∨ ((Itr lo n).go i H ∧ ∃ N : St → Hp → Prop, (∀ σ' H', N σ' H' → ∃ m', m' < m ∧ W (i + 1) m' σ' H') ∧ ∀ x H', (Itr lo n).yld i H x H' → g x σ H' fun σ2 H2 => tb { D with nx := N, ct := N, bk := D.nx } σ2 H2) := by
  refine ⟨fun i m σ H => m = n - i ∧ i ≤ n ∧ Pv i σ H, ⟨n, by simp, Nat.zero_le _, h0⟩, ?_⟩
  rintro i m σ H ⟨rfl, hi, p⟩
  by_cases hlt : i < n
  · refine .inr ⟨hlt, Pv (i + 1), fun σ' H' p' => ⟨n - (i + 1), by omega, rfl, hlt, p'⟩, fun x H' y => ?_⟩
    obtain ⟨e, y⟩ := y
    subst e y
    exact hs i σ _ hlt p
  · have e : i = n := by omega
    subst e
    exact .inl ⟨Nat.le_refl _, hd σ H p⟩
end L2
namespace L2
open PySem PySem.Spec PyProof.Rows
abbrev R2 := V → V → Hp → VK → Prop
def OpR (X : Cx) (f : Value → Value → Sem Value) (r : R2) : Prop :=
  ∀ (pins : List (Addr × Obj)) (s : Shared) (σ : St) (H : Hp) (x y : V) (v u : Value) (Q : VK), Inv X pins σ H s → RelV x v → RelV y u → r x y H Q →
    wpAny (model X.prog X.w) X.A (f v u) (EP X pins σ Q) X.xe s
def UnR (X : Cx) (f : Value → Sem Value) (r : V → Hp → VK → Prop) : Prop :=
  ∀ (pins : List (Addr × Obj)) (s : Shared) (σ : St) (H : Hp) (x : V) (v : Value) (Q : VK), Inv X pins σ H s → RelV x v → r x H Q →
    wpAny (model X.prog X.w) X.A (f v) (EP X pins σ Q) X.xe s
def CallR (X : Cx) (f : Value) (r : List V → Hp → VK → Prop) : Prop :=
  ∀ (pins : List (Addr × Obj)) (s : Shared) (σ : St) (H : Hp) (xs : List V) (us : List Value) (Q : VK), Inv X pins σ H s → Vals xs us → r xs H Q →
    wpAny (model X.prog X.w) X.A (call f us) (EP X pins σ Q) X.xe s
def TruR (X : Cx) (r : V → Hp → (Bool → Hp → Prop) → Prop) : Prop :=
  ∀ (pins : List (Addr × Obj)) (s : Shared) (σ : St) (H : Hp) (x : V) (v : Value) (Q : Bool → Hp → Prop), Inv X pins σ H s → RelV x v → r x H Q →
    wpAny (model X.prog X.w) X.A (truthy v) (TP X pins σ Q) X.xe s
def tOp (r : R2) (ta tb : TE) : TE := fun σ H Q => ta σ H fun x H1 => tb σ H1 fun y H2 => r x y H2 Q
def tUn (r : V → Hp → VK → Prop) (ta : TE) : TE := fun σ H Q => ta σ H fun x H1 => r x H1 Q
def rI (C : Int → Int → Prop) (g : Int → Int → V) : R2 := fun x y H Q => ∃ i j, x = .int i ∧ y = .int j ∧ C i j ∧ Q (g i j) H
def rI0 (g : Int → Int → V) : R2 := fun x y H Q => ∃ i j, x = .int i ∧ y = .int j ∧ Q (g i j) H
def rU (g : Int → V) : V → Hp → VK → Prop := fun x H Q => ∃ i, x = .int i ∧ Q (g i) H
section
variable {X : Cx} {a b c : Expr} {ta tb tc : TE} {pos : Pos}
theorem binT (ha : PE X a ta) (hb : PE X b tb) {pins : List (Addr × Obj)} {s : Shared} {σ : St} {H : Hp} {R : V → V → Hp → Prop} (I : Inv X pins σ H s)
    (h : ta σ H fun x H1 => tb σ H1 fun y H2 => R x y H2) {Q : Value → Shared → Prop} {f : Value → Value → Sem Value}
    (hf : ∀ v u s2 x y H2, Inv X pins σ H2 s2 → RelV x v → RelV y u → R x y H2 → wpAny (model X.prog X.w) X.A (f v u) Q X.xe s2) :
    wpAny (model X.prog X.w) X.A (eval a X.env) (fun v s₁ => wpAny (model X.prog X.w) X.A (eval b X.env) (fun u s₂ => wpAny (model X.prog X.w) X.A (f v u) Q X.xe s₂) X.xe s₁) X.xe s := by
  refine thn (ha pins s σ H _ I h) fun v s1 ⟨x, H1, I1, r1, q1⟩ => ?_
  refine thn (hb pins s1 σ H1 _ I1 q1) fun u s2 ⟨y, H2, I2, r2, q2⟩ => ?_
  exact hf v u s2 x y H2 I2 r1 r2 q2
theorem pe_op {op : Operator} {r : R2} (ho : OpR X (binaryOp op) r) (ha : PE X a ta) (hb : PE X b tb) : PE X (.BinOp a op b pos) (tOp r ta tb) := by
  intro pins s σ H Q I h
  exact wpAny_BinOp (binT ha hb I h fun v u s2 x y H2 I2 rx ry q => ho pins s2 σ H2 x y v u Q I2 rx ry q)
theorem pe_un {op : UnaryOp} {r : V → Hp → VK → Prop} (ho : UnR X (unaryOp op) r) (ha : PE X a ta) : PE X (.UnaryOp op a pos) (tUn r ta) := by
  intro pins s σ H Q I h
  exact UnaryOp_ (thn (ha pins s σ H _ I h) fun v s1 ⟨x, H1, I1, r1, q1⟩ => ho pins s1 σ H1 x v Q I1 r1 q1)
theorem opI {f : Value → Value → Sem Value} {C : Int → Int → Prop} {g : Int → Int → Int}
    (rule : ∀ (i j : Int) (t u : Tok) (s : Shared) (Q : Value → Shared → Prop) (E : Value → Shared → Prop), C i j → Q (.int (g i j) s.toks) { s with toks := s.toks + 1 } → wpAny (model X.prog X.w) X.A (f (.int i t) (.int j u)) Q E s) :
    OpR X f (rI C fun i j => .int (g i j)) := by
  intro pins s σ H x y v u Q I rx ry h
  obtain ⟨i, j, rfl, rfl, hc, q⟩ := h
  obtain ⟨t, rfl⟩ := rx
  obtain ⟨t', rfl⟩ := ry
  exact rule i j t t' s _ _ hc ⟨.int (g i j), H, I.tok _, ⟨_, rfl⟩, q⟩
theorem opI0 {f : Value → Value → Sem Value} {g : Int → Int → Int}
    (rule : ∀ (i j : Int) (t u : Tok) (s : Shared) (Q : Value → Shared → Prop) (E : Value → Shared → Prop), Q (.int (g i j) s.toks) { s with toks := s.toks + 1 } → wpAny (model X.prog X.w) X.A (f (.int i t) (.int j u)) Q E s) :
    OpR X f (rI0 fun i j => .int (g i j)) := by
  intro pins s σ H x y v u Q I rx ry h
  obtain ⟨i, j, rfl, rfl, q⟩ := h
  obtain ⟨t, rfl⟩ := rx
  obtain ⟨t', rfl⟩ := ry
  exact rule i j t t' s _ _ ⟨.int (g i j), H, I.tok _, ⟨_, rfl⟩, q⟩
theorem opB0 {f : Value → Value → Sem Value} {g : Int → Int → Bool}
    (rule : ∀ (i j : Int) (t u : Tok) (s : Shared) (Q : Value → Shared → Prop) (E : Value → Shared → Prop), Q (.bool (g i j)) s → wpAny (model X.prog X.w) X.A (f (.int i t) (.int j u)) Q E s) :
    OpR X f (rI0 fun i j => .bl (g i j)) := by
  intro pins s σ H x y v u Q I rx ry h
  obtain ⟨i, j, rfl, rfl, q⟩ := h
  obtain ⟨t, rfl⟩ := rx
  obtain ⟨t', rfl⟩ := ry
  exact rule i j t t' s _ _ ⟨.bl (g i j), H, I, rfl, q⟩
def CDiv (i j : Int) : Prop := 0 < j ∧ j < 1073741824
def CDivN (i j : Int) : Prop := j ≠ 0 ∧ j.natAbs < 1073741824
def CPow (i j : Int) : Prop := 0 ≤ j ∧ j ≤ 1000000 ∧ i.natAbs < 2 ^ 64
def CMul (i j : Int) : Prop := (-(2 ^ 64) < i ∧ i < 2 ^ 64) ∨ (-(2 ^ 64) < j ∧ j < 2 ^ 64)
theorem CMul.ok {i j : Int} (h : CMul i j) : IntMulOk i j := by
  rcases h with ⟨h1, h2⟩ | ⟨h1, h2⟩
  · exact .of_left (intBits_le_64 h1 h2)
  · exact .of_right (intBits_le_64 h1 h2)
theorem op_add : OpR X (binaryOp .Add) (rI0 fun i j => .int (i + j)) := opI0 fun _ _ _ _ _ _ _ q => add_int q
theorem op_sub : OpR X (binaryOp .Sub) (rI0 fun i j => .int (i - j)) := opI0 fun _ _ _ _ _ _ _ q => sub_int q
theorem op_mul : OpR X (binaryOp .Mult) (rI CMul fun i j => .int (i * j)) := opI fun _ _ _ _ _ _ _ hc q => mul_int q hc.ok
theorem op_fdiv : OpR X (binaryOp .FloorDiv) (rI CDiv fun i j => .int (i / j)) := opI fun i j _ _ _ _ _ hc q => by
  have h1 : (0 : Int) < j := hc.1
  have h2 : j < 1073741824 := hc.2
  exact floordiv_int (by omega) (by rw [Int.fdiv_eq_ediv_of_nonneg i (by omega)]; exact q) (.inl (PyProof.noPylong_small (by omega)))
theorem op_mod : OpR X (binaryOp .Mod) (rI (fun _ j => 0 < j) fun i j => .int (i % j)) := opI fun i j _ _ _ _ _ hc q => by
  have h1 : (0 : Int) < j := hc
  exact mod_int' (by omega) (by rw [Int.fmod_eq_emod_of_nonneg i (by omega)]; exact q)
theorem op_pow : OpR X (binaryOp .Pow) (rI CPow fun i j => .int (i ^ j.toNat)) := opI fun _ _ _ _ _ _ _ hc q => pow_int_small hc.1 hc.2.1 hc.2.2 q
theorem unI {f : Value → Sem Value} {g : Int → Int}
    (rule : ∀ (i : Int) (t : Tok) (s : Shared) (Q : Value → Shared → Prop) (E : Value → Shared → Prop), Q (.int (g i) s.toks) { s with toks := s.toks + 1 } → wpAny (model X.prog X.w) X.A (f (.int i t)) Q E s) :
    UnR X f (rU fun i => .int (g i)) := by
  intro pins s σ H x v Q I rx h
  obtain ⟨i, rfl, q⟩ := h
  obtain ⟨t, rfl⟩ := rx
  exact rule i t s _ _ ⟨.int (g i), H, I.tok _, ⟨_, rfl⟩, q⟩
theorem un_neg : UnR X (unaryOp .USub) (rU fun i => .int (-i)) := unI fun _ _ _ _ _ q => neg_int q
end
def scal : V → V → Bool
  | .non, .non => true | .non, .int _ => true | .int _, .non => true | .non, .bl _ => true | .bl _, .non => true | .non, .str _ => true | .str _, .non => true
  | .int _, .int _ => true | .bl _, .bl _ => true | .str _, .str _ => true | .byt _, .byt _ => true
  | .int _, .str _ => true | .str _, .int _ => true | .bl _, .str _ => true | .str _, .bl _ => true
  | _, _ => false
def rEq : R2 := fun x y H Q => scal x y = true ∧ Q (.bl (decide (x = y))) H
def rNe : R2 := fun x y H Q => scal x y = true ∧ Q (.bl (!decide (x = y))) H
theorem dec_int {i j : Int} : decide (V.int i = V.int j) = (i == j) := by
  rw [Bool.eq_iff_iff]
  simp
theorem dec_bl {i j : Bool} : decide (V.bl i = V.bl j) = (i == j) := by
  rw [Bool.eq_iff_iff]
  simp
theorem dec_str {i j : Str} : decide (V.str i = V.str j) = (i == j) := by
  rw [Bool.eq_iff_iff]
  simp
theorem dec_byt {i j : Array UInt8} : decide (V.byt i = V.byt j) = (i.toList == j.toList) := by
  rw [Bool.eq_iff_iff]
  cases i
  cases j
  simp
section
variable {X : Cx} {a b c : Expr} {ta tb tc : TE} {pos : Pos}
theorem fin_bl {pins : List (Addr × Obj)} {σ : St} {H : Hp} {s : Shared} {Q : VK} {k k' : Bool} (I : Inv X pins σ H s) (q : Q (.bl k) H) (e : k = k') : EP X pins σ Q (.bool k') s := by
  subst e
  exact ⟨.bl k, H, I, rfl, q⟩
theorem op_eq : OpR X (compareOp .Eq) rEq := by
  intro pins s σ H x y v u Q I rx ry h
  obtain ⟨hs, q⟩ := h
  cases x with
  | non =>
    cases rx
    cases y with
    | non => cases ry; exact PySem.EqNone.eq_none_none (fin_bl I q (by simp))
    | bl j => cases ry; exact PySem.EqNone.eq_none_bool (fin_bl I q (by simp))
    | int j => obtain ⟨t', rfl⟩ := ry; exact PySem.EqNone.eq_none_int (fin_bl I q (by simp))
    | str j => obtain ⟨t', rfl⟩ := ry; exact PySem.EqNone.eq_none_str (fin_bl I q (by simp))
    | _ => exact absurd (show false = true from hs) Bool.false_ne_true
  | bl i =>
    cases rx
    cases y with
    | non => cases ry; exact PySem.EqNone.eq_bool_none (fin_bl I q (by simp))
    | bl j => cases ry; exact eq_bool (fin_bl I q dec_bl)
    | str j => obtain ⟨t', rfl⟩ := ry; exact PySem.EqMixed.eq_bool_str (fin_bl I q (by simp))
    | _ => exact absurd (show false = true from hs) Bool.false_ne_true
  | int i =>
    obtain ⟨t, rfl⟩ := rx
    cases y with
    | non => cases ry; exact PySem.EqNone.eq_int_none (fin_bl I q (by simp))
    | int j => obtain ⟨t', rfl⟩ := ry; exact eq_int (fin_bl I q dec_int)
    | str j => obtain ⟨t', rfl⟩ := ry; exact PySem.EqMixed.eq_int_str (fin_bl I q (by simp))
    | _ => exact absurd (show false = true from hs) Bool.false_ne_true
  | str i =>
    obtain ⟨t, rfl⟩ := rx
    cases y with
    | non => cases ry; exact PySem.EqNone.eq_str_none (fin_bl I q (by simp))
    | bl j => cases ry; exact PySem.EqMixed.eq_str_bool (fin_bl I q (by simp))
    | int j => obtain ⟨t', rfl⟩ := ry; exact PySem.EqMixed.eq_str_int (fin_bl I q (by simp))
    | str j => obtain ⟨t', rfl⟩ := ry; exact eq_str (fin_bl I q dec_str)
    | _ => exact absurd (show false = true from hs) Bool.false_ne_true
  | byt i =>
    obtain ⟨t, rfl⟩ := rx
    cases y with
    | byt j => obtain ⟨t', rfl⟩ := ry; exact PySem.W.eq_bytes (fin_bl I q dec_byt)
    | _ => exact absurd (show false = true from hs) Bool.false_ne_true
  | _ => cases y <;> exact absurd (show false = true from hs) Bool.false_ne_true
theorem op_ne : OpR X (compareOp .NotEq) rNe := by
  intro pins s σ H x y v u Q I rx ry h
  obtain ⟨hs, q⟩ := h
  cases x with
  | non =>
    cases rx
    cases y with
    | non => cases ry; exact PySem.EqNone.ne_none_none (fin_bl I q (by simp))
    | bl j => cases ry; exact PySem.EqNone.ne_none_bool (fin_bl I q (by simp))
    | int j => obtain ⟨t', rfl⟩ := ry; exact PySem.EqNone.ne_none_int (fin_bl I q (by simp))
    | str j => obtain ⟨t', rfl⟩ := ry; exact PySem.EqNone.ne_none_str (fin_bl I q (by simp))
    | _ => exact absurd (show false = true from hs) Bool.false_ne_true
  | bl i =>
    cases rx
    cases y with
    | non => cases ry; exact PySem.EqNone.ne_bool_none (fin_bl I q (by simp))
    | bl j => cases ry; exact ne_bool (fin_bl I q (congrArg not dec_bl))
    | str j => obtain ⟨t', rfl⟩ := ry; exact PySem.EqMixed.ne_bool_str (fin_bl I q (by simp))
    | _ => exact absurd (show false = true from hs) Bool.false_ne_true
  | int i =>
    obtain ⟨t, rfl⟩ := rx
    cases y with
    | non => cases ry; exact PySem.EqNone.ne_int_none (fin_bl I q (by simp))
    | int j => obtain ⟨t', rfl⟩ := ry; exact ne_int (fin_bl I q (congrArg not dec_int))
    | str j => obtain ⟨t', rfl⟩ := ry; exact PySem.EqMixed.ne_int_str (fin_bl I q (by simp))
    | _ => exact absurd (show false = true from hs) Bool.false_ne_true
  | str i =>
    obtain ⟨t, rfl⟩ := rx
    cases y with
    | non => cases ry; exact PySem.EqNone.ne_str_none (fin_bl I q (by simp))
    | bl j => cases ry; exact PySem.EqMixed.ne_str_bool (fin_bl I q (by simp))
    | int j => obtain ⟨t', rfl⟩ := ry; exact PySem.EqMixed.ne_str_int (fin_bl I q (by simp))
    | str j => obtain ⟨t', rfl⟩ := ry; exact ne_str (fin_bl I q (congrArg not dec_str))
    | _ => exact absurd (show false = true from hs) Bool.false_ne_true
  | byt i =>
    obtain ⟨t, rfl⟩ := rx
    cases y with
    | byt j => obtain ⟨t', rfl⟩ := ry; exact PySem.W.ne_bytes (fin_bl I q (congrArg not dec_byt))
    | _ => exact absurd (show false = true from hs) Bool.false_ne_true
  | _ => cases y <;> exact absurd (show false = true from hs) Bool.false_ne_true
theorem op_lt : OpR X (compareOp .Lt) (rI0 fun i j => .bl (decide (i < j))) := opB0 fun _ _ _ _ _ _ _ q => lt_int q
theorem op_le : OpR X (compareOp .LtE) (rI0 fun i j => .bl (decide (i ≤ j))) := opB0 fun _ _ _ _ _ _ _ q => le_int q
theorem op_gt : OpR X (compareOp .Gt) (rI0 fun i j => .bl (decide (j < i))) := opB0 fun _ _ _ _ _ _ _ q => gt_int q
theorem op_ge : OpR X (compareOp .GtE) (rI0 fun i j => .bl (decide (j ≤ i))) := opB0 fun _ _ _ _ _ _ _ q => ge_int q
theorem op_notN : OpR X (compareOp .IsNot) (fun x y H Q => y = .non ∧ Q (.bl (!decide (x = .non))) H) := by
  intro pins s σ H x y v u Q I rx ry h
  obtain ⟨rfl, q⟩ := h
  cases ry
  refine isnot_none_gen (fin_bl I q ?_)
  cases x <;> first
    | (cases rx; rfl)
    | (obtain ⟨t, rfl⟩ := rx; rfl)
theorem op_notin_str : OpR X (compareOp .NotIn) (fun x y H Q => ∃ i j, x = .str i ∧ y = .str j ∧ Q (.bl (!(!(Builtin.Str.occurrences j i 0 j.length 1).isEmpty))) H) := by
  intro pins s σ H x y v u Q I rx ry h
  obtain ⟨i, j, rfl, rfl, q⟩ := h
  obtain ⟨t, rfl⟩ := rx
  obtain ⟨t', rfl⟩ := ry
  exact notIn_str (fin_bl I q rfl)
def isObj : HO → Bool
  | .lst _ => true
  | .ins _ _ _ => true
  | _ => false
theorem nomark (b : Expr) {op : CmpOp} (h : op ≠ .In := by decide) (h2 : op ≠ .NotIn := by decide) : behindInMarks op b = false := by
  have e1 : (op == CmpOp.In) = false := by cases op <;> first | rfl | exact absurd rfl h
  have e2 : (op == CmpOp.NotIn) = false := by cases op <;> first | rfl | exact absurd rfl h2
  cases b <;> simp [behindInMarks, e1, e2]
theorem pe_cmpR {op : CmpOp} {r : R2} (ho : OpR X (compareOp op) r) (ha : PE X a ta) (hb : PE X b tb) (hm : behindInMarks op b = false) : PE X (.Compare a [op] [b] pos) (tOp r ta tb) := by
  intro pins s σ H Q I h
  exact wpAny_Compare1 (binT ha hb I h fun v u s2 x y H2 I2 rx ry q => ho pins s2 σ H2 x y v u Q I2 rx ry q) hm
def tTest (t : TE) : TT := fun σ H Q => t σ H fun x H' => ∃ k, x = .bl k ∧ Q k H'
theorem pt_cmpR {op : CmpOp} {r : R2} (ho : OpR X (compareOp op) r) (ha : PE X a ta) (hb : PE X b tb) (hm : behindInMarks op b = false) : PT X (.Compare a [op] [b] pos) (tTest (tOp r ta tb)) := by
  intro pins s σ H Q I h
  refine wpAny_isTrue_Compare1 (thn (ha pins s σ H _ I h) fun v s1 ⟨x, H1, I1, r1, q1⟩ => thn (hb pins s1 σ H1 _ I1 q1) fun u s2 ⟨y, H2, I2, r2, q2⟩ =>
    thn (ho pins s2 σ H2 x y v u _ I2 r1 r2 q2) fun c s3 ⟨z, H3, I3, r3, k, e, q3⟩ => ?_) hm
  subst e
  cases r3
  exact wpAny_truthy_bool ⟨H3, I3, q3⟩
def tChain (r r' : R2) (ta tb tc : TE) : TE := fun σ H Q => ta σ H fun x H1 => tb σ H1 fun y H2 => r x y H2 fun z H3 => ∃ k, z = .bl k ∧
  (if k = true then tc σ H3 fun w' H4 => r' y w' H4 Q else Q (.bl false) H3)
def TruV (K : PySem.W.Frag) (x : V) (H : Hp) (k : Bool) : Prop :=
  match x with
  | .non => k = false
  | .bl b => k = b
  | .int i => k = (i != 0)
  | .str y => y.length ≤ sizeLine ∧ k = ((y.length : Int) != 0)
  | .byt y => y.size ≤ sizeLine ∧ k = ((y.size : Int) != 0)
  | .ref p => (∃ xs, SqL K H p xs ∧ k = !xs.isEmpty) ∨ (∃ xs, SqT K H p xs ∧ k = !xs.isEmpty) ∨ ∃ kvs, H p = some (.dK kvs) ∧ k = !kvs.isEmpty
  | _ => False
theorem isEmpty_kv {κ : Type} {kvs : List (κ × V)} {vs : List (κ × Value)} (r : KV kvs vs) : (!vs.isEmpty) = !kvs.isEmpty := by
  cases r <;> rfl
theorem isEmpty_of {xs : List V} {its : List Value} (r : Vals xs its) : (!its.toArray.isEmpty) = !xs.isEmpty := by
  cases r <;> simp
theorem line63 : (sizeLine : Nat) < 2 ^ 63 := by rw [sizeLine_eq]; decide
theorem tru_ok : TruR X (fun x H Q => ∃ k, TruV X.K x H k ∧ Q k H) := by
  intro pins s σ H x v Q I rx h
  obtain ⟨k, e, q⟩ := h
  have hl := line63
  have hs : sizeLine = 16777216 := sizeLine_eq
  cases x with
  | non =>
    cases rx
    have e' : k = false := e
    subst e'
    exact truthy_none ⟨H, I, q⟩
  | bl b =>
    cases rx
    have e' : k = b := e
    subst e'
    exact wpAny_truthy_bool ⟨H, I, q⟩
  | int i =>
    obtain ⟨t, rfl⟩ := rx
    have e' : k = (i != 0) := e
    subst e'
    exact PySem.P.truthy_int ⟨H, I, q⟩
  | str y =>
    obtain ⟨t, rfl⟩ := rx
    obtain ⟨hy, e'⟩ : y.length ≤ sizeLine ∧ k = ((y.length : Int) != 0) := e
    subst e'
    exact PySem.P.truthy_str (by omega) ⟨H, I.tok _, q⟩
  | byt y =>
    obtain ⟨t, rfl⟩ := rx
    obtain ⟨hy, e'⟩ : y.size ≤ sizeLine ∧ k = ((y.size : Int) != 0) := e
    subst e'
    exact PySem.W.truthy_bytes (by omega) ⟨H, I.tok _, q⟩
  | ref p =>
    cases rx
    have e' : (∃ xs, SqL X.K H p xs ∧ k = !xs.isEmpty) ∨ (∃ xs, SqT X.K H p xs ∧ k = !xs.isEmpty) ∨ ∃ kvs, H p = some (.dK kvs) ∧ k = !kvs.isEmpty := e
    rcases e' with ⟨xs, hx, e'⟩ | ⟨xs, hx, e'⟩ | ⟨kvs, hx, e'⟩
    · subst e'
      obtain ⟨its, r, pl, hz⟩ := I.list hx
      have hlen := r.length
      exact wpAny_truthy_list pl.isList (by simp only [List.size_toArray]; omega) ⟨H, I.tok _, by rw [isEmpty_of r]; exact q⟩
    · subst e'
      obtain ⟨its, r, pl, hz⟩ := I.tuple hx
      have hlen := r.length
      exact truthy_tuple pl (by simp only [List.size_toArray]; omega) ⟨H, I.tok _, by rw [isEmpty_of r]; exact q⟩
    · subst e'
      obtain ⟨hz, hS, vs, r, m⟩ : kvs.length ≤ sizeLine ∧ (p == sysModules) = false ∧ ∃ vs, KV kvs vs ∧ s.heap.DictOf (mixKind X.prog X.w) p vs := I.hok p _ hx
      have hlen : kvs.length = vs.length := Paired.length r
      exact wpAny_truthy_dict hS m (by omega) ⟨H, I.tok _, by rw [isEmpty_kv r]; exact q⟩
  | _ => exact (show False from e).elim
theorem pt_truth (ha : PE X a ta) (he : ∀ whole, isTrue a X.env whole = (do let v ← whole; standAt a.pos; holding [v] (truthy v))) :
    PT X a (fun σ H Q => ta σ H fun x H' => ∃ k, TruV X.K x H' k ∧ Q k H') := by
  intro pins s σ H Q I h
  exact isTrue_plain (thn (ha pins s σ H _ I h) fun v s1 ⟨x, H1, I1, r1, q1⟩ => tru_ok pins s1 σ H1 x v Q I1 r1 q1) (he _)
theorem op_add_str : OpR X (binaryOp .Add) (fun x y H Q => ∃ i j, x = .str i ∧ y = .str j ∧ i.length + j.length ≤ sizeLine ∧ Q (.str (i ++ j)) H) := by
  intro pins s σ H x y v u Q I rx ry h
  obtain ⟨i, j, rfl, rfl, hz, q⟩ := h
  obtain ⟨t, rfl⟩ := rx
  obtain ⟨t', rfl⟩ := ry
  exact add_str (fun t' tk => ⟨.str (i ++ j), H, I.tok _, ⟨_, rfl⟩, q⟩) hz
def PlainIxT (b : Expr) : Prop := ∀ o i, subscripted b false o i = operate [o, i] (getItem o i)
theorem vals1 {x : V} {us : List Value} (r : Vals [x] us) : ∃ u, us = [u] ∧ RelV x u := by
  cases r with
  | cons r1 r2 => cases r2; exact ⟨_, rfl, r1⟩
theorem call_int1 : CallR X (.type "int") (fun xs H Q => (∃ i, xs = [.int i] ∧ Q (.int i) H) ∨ ∃ k, xs = [.bl k] ∧ Q (.int (if k then 1 else 0)) H) := by
  intro pins s σ H xs us Q I r h
  rcases h with ⟨i, rfl, q⟩ | ⟨k, rfl, q⟩
  · obtain ⟨u, rfl, t, rfl⟩ := vals1 r
    exact call_int_int ⟨.int i, H, I, ⟨_, rfl⟩, q⟩
  · obtain ⟨u, rfl, r1⟩ := vals1 r
    cases r1
    exact call_int_bool ⟨.int (if k then 1 else 0), H, I.tok _, ⟨_, rfl⟩, q⟩
def LenV (K : PySem.W.Frag) (x : V) (H : Hp) (n : Nat) : Prop :=
  match x with
  | .str y => y.length ≤ sizeLine ∧ n = y.length
  | .byt y => y.size ≤ sizeLine ∧ n = y.size
  | .ref p => (∃ xs, SqL K H p xs ∧ n = xs.length) ∨ ∃ xs, SqT K H p xs ∧ n = xs.length
  | _ => False
end
end L2
namespace L2
open PySem PySem.Spec PyProof.Rows
structure ObjM (h : Heap) (x dx C : Addr) (mA : Str → Option Value) : Prop where
  obj : h.get? x = some (PySem.W.instObj C dx)
  ns : h.Ns1 dx mA
  ne : dx ≠ x
section
variable {prog : Program} {w : World} {A : Around} {E : Value → Shared → Prop} {s : Shared} {K : PySem.W.Frag} {x dx C f : Addr} {mA : Str → Option Value} {name : Str} {v : Value}
end
def putF (f : Str) (v : V) : List (Str × V) → List (Str × V)
  | [] => [(f, v)]
  | (g, x) :: r => if g = f then (g, v) :: r else (g, x) :: putF f v r
theorem RelO.some_of {v : V} {o : Option Value} (r : RelO (some v) o) : ∃ u, o = some u ∧ RelV v u := by
  cases o with
  | none => exact (show False from r).elim
  | some u => exact ⟨u, rfl, r⟩
section
variable {P : Program} {w : World} {H H' : Hp} {h h' : Heap} {a C dx : Addr} {fs fs' : List (Str × V)}
end
structure Cls (K : PySem.W.Frag) (C : Addr) : Prop where
  pg : PySem.W.plainGet K C Str.empty = true
  hd : PySem.W.hasDictIn K C = true
  po : PySem.W.plainOver K C = true
  sa : PySem.W.findIn K (.ref C) "__setattr__" = some (some (.builtin "object.__setattr__"))
def NoAttr (K : PySem.W.Frag) (C : Addr) (f : Str) : Prop := PySem.W.findIn K (.ref C) f = some none
structure Con (K : PySem.W.Frag) (C : Addr) (f : Str) (v : V) (u : Value) : Prop where
  at_ : PySem.W.findIn K (.ref C) f = some (some u)
  rel : RelV v u
  get : PySem.W.specialIn K u "__get__" = some none
  cp : PySem.W.copiedNames.contains f = false
structure Meth (K : PySem.W.Frag) (C : Addr) (m : Str) (f : Addr) : Prop where
  at_ : PySem.W.findIn K (.ref C) m = some (some (.ref f))
  fn : PySem.W.isFn K (.ref f) = true
  kp : PySem.W.keepIn K (.ref f) = true
section
variable {X : Cx} {pins : List (Addr × Obj)} {σ : St} {H : Hp} {s : Shared} {a C dx : Addr} {fs : List (Str × V)} {f : Str} {v : V} {A : Around} {E : Value → Shared → Prop}
end
def tFld (K : PySem.W.Frag) (ta : TE) (f : Str) : TE := fun σ H Q => ta σ H fun x H1 => ∃ a C dx fs v, x = .ref a ∧ H1 a = some (.ins C dx fs) ∧ Cls K C ∧ NoAttr K C f ∧ fs.lookup f = some v ∧ Q v H1
def tCon (K : PySem.W.Frag) (ta : TE) (f : Str) : TE := fun σ H Q => ta σ H fun x H1 => ∃ a C dx fs v u, x = .ref a ∧ H1 a = some (.ins C dx fs) ∧ Cls K C ∧ Con K C f v u ∧ fs.lookup f = none ∧ Q v H1
def sFld (K : PySem.W.Frag) (ta tv : TE) (f : Str) : TS := fun D σ H => tv σ H fun y H1 => ta σ H1 fun x H2 => ∃ a C dx fs, x = .ref a ∧ H2 a = some (.ins C dx fs) ∧ Cls K C ∧ NoAttr K C f ∧ fs.length < 1000 ∧
  D.nx σ (upd H2 a (.ins C dx (putF f y fs)))
def InOp (X : Cx) (op : Operator) (rd : V → V → Hp → VK → Prop) : Prop :=
  ∀ (pins : List (Addr × Obj)) (s : Shared) (σ : St) (H : Hp) (x y : V) (u v : Value) (Q : VK), Inv X pins σ H s → RelV x u → RelV y v → rd x y H Q → wpAny (model X.prog X.w) X.A (inplaceOp op u v) (EP X pins σ Q) X.xe s
def sFldAug (K : PySem.W.Frag) (ta tv : TE) (rd : V → V → Hp → VK → Prop) (f : Str) : TS := fun D σ H => ta σ H fun x H1 => ∃ a C dx fs v, x = .ref a ∧ H1 a = some (.ins C dx fs) ∧ Cls K C ∧ NoAttr K C f ∧ fs.lookup f = some v ∧
  tv σ H1 fun y H2 => rd v y H2 fun z H3 => ∃ dx' fs', H3 a = some (.ins C dx' fs') ∧ fs'.length < 1000 ∧ D.nx σ (upd H3 a (.ins C dx' (putF f z fs')))
section
variable {X : Cx} {o e value : Expr} {f : Str} {pos pos' tpos : Pos} {ta tv : TE}
def rAdd : V → V → Hp → VK → Prop := fun x y H Q => ∃ i j, x = .int i ∧ y = .int j ∧ Q (.int (i + j)) H
def rSub : V → V → Hp → VK → Prop := fun x y H Q => ∃ i j, x = .int i ∧ y = .int j ∧ Q (.int (i - j)) H
end
section
variable {X : Cx} {pins : List (Addr × Obj)} {σ : St} {H : Hp} {s : Shared} {A : Around} {E : Value → Shared → Prop} {Q : Value → Shared → Prop} {c : Value} {b : Bool}
inductive TyOf (K : PySem.W.Frag) (H : Hp) : V → Value → Prop where
  | non : TyOf K H .non (.type "NoneType")
  | bl (x : Bool) : TyOf K H (.bl x) (.type "bool")
  | int (i : Int) : TyOf K H (.int i) (.type "int")
  | str (x : Str) : TyOf K H (.str x) (.type "str")
  | flt (x : UInt64) : TyOf K H (.flt x) (.type "float")
  | lst {a : Addr} {xs : List V} (e : H a = some (.lst xs)) : TyOf K H (.ref a) (.type "list")
  | frz {a : Addr} {o : Obj} {xs : List V} (e : H a = some (.frz o (.lst xs))) : TyOf K H (.ref a) (.type "list")
  | tup {a : Addr} {xs : List V} (e : H a = some (.tup xs)) : TyOf K H (.ref a) (.type "tuple")
  | dK {a : Addr} {kvs : List (Key × V)} (e : H a = some (.dK kvs)) : TyOf K H (.ref a) (.type "dict")
  | dT {a : Addr} {kvs : List (List Key × V)} (e : H a = some (.dT kvs)) : TyOf K H (.ref a) (.type "dict")
  | ins {a C dx : Addr} {fs : List (Str × V)} (e : H a = some (.ins C dx fs)) (cl : Cls K C) (ha : PySem.W.findIn K (.ref C) "__class__" = some (some (.builtin "object.__class__")))
      (hn : PySem.W.specialIn K (.builtin "object.__class__") "__get__" = some (some (.builtin "getset_descriptor.__get__"))) (htk : PySem.W.takesIn K (.builtin "object.__class__") = some true)
      (hm : PySem.W.mroIn K C (.type "object") = some true) : TyOf K H (.ref a) (.ref C)
end
end L2
namespace L2
open PySem PySem.Spec PyProof.Rows
structure Room (k : Nat) (A : Around) : Prop where
  hd : A.handled = none
  dp : A.depth + 3 * k + 5 < recursionLimit
  un : A.units + 16 * k + 200 < cLine
theorem Room.mono {j k : Nat} {A : Around} (r : Room k A) (h : j ≤ k) : Room j A := ⟨r.hd, by have := r.dp; omega, by have := r.un; omega⟩
theorem Room.deeper {k : Nat} {A : Around} (r : Room (k + 1) A) (env : Env) : Room k (A.deeper env) :=
  ⟨r.hd, by have := r.dp; show A.depth + 1 + 3 * k + 5 < _; omega, by have := r.un; show A.units + 3 + 16 * k + 200 < _; omega⟩
theorem Room.depth {k : Nat} {A : Around} (r : Room k A) : A.depth < recursionLimit := by have := r.dp; omega
theorem Room.units {k : Nat} {A : Around} (r : Room k A) : A.units + 64 < cLine := by have := r.un; omega
def tNil : TA := fun _ H Q => Q [] H
def tCons (ta : TE) (tr : TA) : TA := fun σ H Q => ta σ H fun x H1 => tr σ H1 fun xs H2 => Q (x :: xs) H2
section
variable {X : Cx} {e : Expr} {es : List Expr} {te : TE} {t : TA} {pos : Pos}
theorem pa_nil : PA X [] tNil := fun _ _ _ _ H Q I h => Calls.spliced_nil ⟨[], H, I, .nil, h⟩
theorem pa_cons (ha : PE X e te) (hr : PA X es t) (hs : starEach (e :: es) X.env = (false, eval e X.env) :: starEach es X.env := by rfl) : PA X (e :: es) (tCons te t) := by
  intro pos pins s σ H Q I h
  rw [hs]
  show wpAny _ _ (spliced ((false, eval e X.env) :: backTo pos (starEach es X.env))) _ _ s
  refine Calls.spliced_cons (thn (ha pins s σ H _ I h) fun u s1 ⟨x, H1, I1, r1, q1⟩ => ?_)
  exact thn (hr pos pins s1 σ H1 _ I1 q1) fun us s2 ⟨xs, H2, I2, r2, q2⟩ => ⟨x :: xs, H2, I2, .cons r1 r2, q2⟩
def tTup (t : TA) : TE := fun σ H Q => t σ H fun xs H1 => xs.length ≤ sizeLine ∧ ∀ p, H1 p = none → Q (.ref p) (upd H1 p (.tup xs))
def tLst (t : TA) : TE := fun σ H Q => t σ H fun xs H1 => xs.length ≤ sizeLine ∧ ∀ p, H1 p = none → Q (.ref p) (upd H1 p (.lst xs))
theorem pe_tup {x1} (h : PA X es t) : PE X (.Tuple es x1 pos) (tTup t) := by
  intro pins s σ H Q I hq
  refine wpAny_Tuple_spliced (thn (h pos pins s σ H _ I hq) fun us s1 ⟨xs, H1, I1, r, z, q⟩ => ⟨by rw [← r.length]; exact z, ?_⟩)
  have hf : H1 s1.heap.objs.size = none := I1.hok.fresh (Nat.le_refl _)
  refine ⟨.ref s1.heap.objs.size, upd H1 s1.heap.objs.size (.tup xs), I1.laid (t' := s1.toks) (fun b u e => Heap.get?_push_of_some _ e) (Nat.le_refl _) ?_, rfl, q _ hf⟩
  exact ⟨z, us, r, ⟨_, Heap.get?_push_size _ rfl, rfl, _, rfl⟩⟩
theorem pe_lst (h : PA X es t) : PE X (.List es pos) (tLst t) := by
  intro pins s σ H Q I hq
  refine wpAny_List_spliced (thn (h pos pins s σ H _ I hq) fun us s1 ⟨xs, H1, I1, r, z, q⟩ => ⟨by rw [← r.length]; exact z, ?_⟩)
  have hf : H1 s1.heap.objs.size = none := I1.hok.fresh (Nat.le_refl _)
  refine ⟨.ref s1.heap.objs.size, upd H1 s1.heap.objs.size (.lst xs), I1.laid (t' := s1.toks) (fun b u e => Heap.get?_push_of_some _ e) (Nat.le_refl _) ?_, rfl, q _ hf⟩
  exact ⟨z, us, 0, r, Heap.get?_push_size _ rfl⟩
end
abbrev Sp := List V → Hp → VK → XK → Prop
abbrev CXT := List Env → Hp → Shared → XK → Value → Shared → Prop
structure Env0 (P : Program) (w : World) (K : PySem.W.Frag) (mg : Str → Option Value) (base : Heap) (A : Around) (outer : List Env) (s : Shared) (H : Hp) : Prop where
  frames : A.frames = some outer
  mod : Mod K mg base
  bs : ∀ b o, base.get? b = some o → s.heap.get? b = some o ∧ H b = none
  bsz : base.objs.size ≤ s.heap.objs.size
  funs : s.heap.FunFrames base outer
  frf : ∀ b ∈ frs outer, H b = none
  hok : HOk P w H s.heap
  bare : AllBare s.gens
def CE (outer : List Env) (P : Program) (w : World) (H : Hp) (s : Shared) (Q : VK) (u : Value) (s' : Shared) : Prop :=
  ∃ v H', s'.os = s.os ∧ AllBare s'.gens ∧ Un (frs outer) [] H H' s.heap s'.heap ∧ HOk P w H' s'.heap ∧ RelV v u ∧ Q v H'
def CR (CX : CXT) (outer : List Env) (P : Program) (w : World) (H : Hp) (s : Shared) (Q : VK) (E : XK) (r : Result) (s' : Shared) : Prop :=
  match r with
  | .ok (.ret u) => CE outer P w H s Q u s'
  | .ok _ => False
  | .error e => CX outer H s E e s'
structure FnOk (P : Program) (w : World) (K : PySem.W.Frag) (mg : Str → Option Value) (base : Heap) (CX : CXT) (k : Nat) (f : Addr) (fd : FuncData) (ps : List Str) (sp : Sp) : Prop where
  len : ∀ vs H Q E, sp vs H Q E → vs.length = ps.length
  run : ∀ (A : Around) (outer : List Env) (s : Shared) (H : Hp) (args : Args) (us : List Value) (vs : List V) (Q : VK) (E : XK), Room k A → Env0 P w K mg base A outer s H → BindsTo s fd args (ps.zip us) → Vals vs us → sp vs H Q E →
    codeAny (model P w) A (.call (.ref f) args) (CR CX outer P w H s Q E) s
theorem FnOk.mono {P : Program} {w : World} {K : PySem.W.Frag} {mg : Str → Option Value} {base : Heap} {CX : CXT} {j k : Nat} {f : Addr} {fd : FuncData} {ps : List Str} {sp : Sp} (F : FnOk P w K mg base CX j f fd ps sp) (h : j ≤ k) :
    FnOk P w K mg base CX k f fd ps sp := ⟨F.len, fun A outer s H args us vs Q E hr => F.run A outer s H args us vs Q E (hr.mono h)⟩
section
variable {X : Cx} {pins : List (Addr × Obj)} {σ : St} {H : Hp} {s s' : Shared}
theorem Inv.env0 (I : Inv X pins σ H s) : Env0 X.prog X.w X.K X.mg X.base X.A X.stack s H :=
  ⟨I.ok.frames, I.ok.mod, I.bs, Nat.le_trans I.ok.bsz I.sz, I.stack, I.stkFree, I.hok, I.bare⟩
theorem Inv.after {Q : VK} {u : Value} (I : Inv X pins σ H s) (h : CE X.stack X.prog X.w H s Q u s') : EP X pins σ Q u s' := by
  obtain ⟨v, H', os, bare, un, hok, r, q⟩ := h
  obtain ⟨hh, g, d, t, os'⟩ := s'
  obtain rfl : os' = s.os := os
  exact ⟨v, H', I.call (h' := hh) (g' := g) (d' := d) (t' := t) (ch := []) un hok bare (fun b z => absurd z (by simp)), r, q⟩
end
def tCall (sp : Sp) (dvs : List V) (E : XK) (t : TA) : TE := fun σ H Q => t σ H fun vs H1 => sp (vs ++ dvs) H1 Q E
def tMeth (C : Addr) (m : Str) (sp : Sp) (dvs : List V) (E : XK) (ta : TE) (t : TA) : TE := fun σ H Q => ta σ H fun x H1 => ∃ a dx fs, x = .ref a ∧ H1 a = some (.ins C dx fs) ∧ fs.lookup m = none ∧
  t σ H1 fun vs H2 => sp (x :: (vs ++ dvs)) H2 Q E
def tMake (C : Addr) (sp : Sp) (dvs : List V) (E : XK) (t : TA) : TE := fun σ H Q => t σ H fun vs H1 => ∀ x dx, H1 x = none → H1 dx = none → dx ≠ x →
  sp (.ref x :: (vs ++ dvs)) (upd (upd H1 dx (.own x)) x (.ins C dx [])) (fun v H2 => v = .non ∧ Q (.ref x) H2) E
def Binds (K : PySem.W.Frag) (fd : FuncData) (ps : List Str) (ds : List Value) : Prop :=
  ∀ (s : Shared) (us : List Value), K.In s.heap → (us ++ ds).length = ps.length → BindsTo s fd ⟨us, []⟩ (ps.zip (us ++ ds))
theorem Binds.all {K : PySem.W.Frag} {fd : FuncData} {ps : List Str} (h : ∀ us : List Value, us.length = ps.length → bindArgs fd ⟨us, []⟩ = pure (ps.zip us)) : Binds K fd ps [] := fun s us _ hl => by
  rw [List.append_nil] at hl ⊢
  exact .of_eq (h us hl)
def Passes (CX : CXT) (X : Cx) (E : XK) : Prop := ∀ (pins : List (Addr × Obj)) (σ : St) (H : Hp) (s : Shared) (e : Value) (s' : Shared), Inv X pins σ H s → CX X.stack H s E e s' → X.xe e s'
section
variable {X : Cx} {CX : CXT} {k : Nat} {f C : Addr} {fd : FuncData} {ps : List Str} {sp : Sp} {dvs : List V} {ds : List Value} {E : XK} {x m : Str} {p pos apos : Pos} {e o : Expr} {es : List Expr} {ta : TE} {t : TA}
theorem run_fn {pins : List (Addr × Obj)} {σ : St} {H : Hp} {s : Shared} {Q : VK} {us : List Value} {vs : List V} (F : FnOk X.prog X.w X.K X.mg X.base CX k f fd ps sp) (hr : Room k X.A) (hb : Binds X.K fd ps ds) (hd : Vals dvs ds) (hx : Passes CX X E)
    (I : Inv X pins σ H s) (r : Vals vs us) (h : sp (vs ++ dvs) H Q E) : wpAny (model X.prog X.w) X.A (call (.ref f) us) (EP X pins σ Q) X.xe s := by
  have r2 : Vals (vs ++ dvs) (us ++ ds) := r.append hd
  have hl : (us ++ ds).length = ps.length := by rw [← r2.length]; exact F.len _ _ _ _ h
  refine wpAny_call (codeAny_mono (F.run X.A X.stack s H ⟨us, []⟩ (us ++ ds) (vs ++ dvs) Q E hr I.env0 (hb s us I.kIn hl) r2 h) fun r s' hq => ?_)
  cases r with
  | error e => exact hx pins σ H s e s' I hq
  | ok fl =>
    cases fl with
    | ret u => exact I.after hq
    | next => exact False.elim hq
    | brk => exact False.elim hq
    | cont => exact False.elim hq
theorem pe_call (F : FnOk X.prog X.w X.K X.mg X.base CX k f fd ps sp) (hr : Room k X.A) (hg : Gl X x) (hm : X.mg x = some (.ref f)) (hk : PySem.W.keepIn X.K (.ref f) = true) (hb : Binds X.K fd ps ds) (hd : Vals dvs ds) (hx : Passes CX X E)
    (ha : PA X (e :: es) t) (hdb : (x == ("__debug__" : Str)) = false := by decide) (he : starEach (e :: es) X.env = (false, eval e X.env) :: starEach es X.env := by rfl) (hpl : (backTo pos (starEach es X.env)).any (·.1) = false := by rfl) :
    PE X (.Call (.Name x p) (e :: es) [] pos) (tCall sp dvs E t) := by
  intro pins s σ H Q I h
  refine wpAny_Call_Name_kw (ld_glob I hg hm ?_ hdb)
  refine PySem.W.callWith_K (h₀ := X.base) I.ok.mod.kin hk (thn (ha pos pins s σ H _ I h) fun us s1 ⟨vs, H1, I1, r, q⟩ => ⟨I1.kIn, ?_⟩) he hpl
  exact run_fn F hr hb hd hx I1 r q
structure Mk (K : PySem.W.Frag) (C f : Addr) : Prop where
  makes : PySem.W.makesIn K C = true
  init : PySem.W.findIn K (.ref C) "__init__" = some (some (.ref f))
  fn : PySem.W.isFn K (.ref f) = true
  kp : PySem.W.keepIn K (.ref C) = true
end
def PK (X : Cx) (kws : List Keyword) (t : TA) : Prop :=
  ∀ (pos : Pos) (pins : List (Addr × Obj)) (s : Shared) (σ : St) (H : Hp) (Q : List V → Hp → Prop), Inv X pins σ H s → t σ H Q → wpAny (model X.prog X.w) X.A (evalAll ((backToKw pos (keywordEach kws X.env)).map (·.2))) (AP X pins σ Q) X.xe s
section
variable {X : Cx} {CX : CXT} {k : Nat} {f C : Addr} {fd : FuncData} {ps ks : List Str} {sp : Sp} {E : XK} {x m : Str} {p pos apos kpos : Pos} {e o : Expr} {es : List Expr} {kws : List Keyword} {te ta : TE} {t tk : TA} {nm : Option Str}
structure KBinds (K : PySem.W.Frag) (fd : FuncData) (ps ks : List Str) (g : List Value → List Value → List Value) (gV : List V → List V → List V) : Prop where
  to : ∀ (s : Shared) (us ws : List Value), K.In s.heap → (g us ws).length = ps.length → BindsTo s fd ⟨us, ks.zip ws⟩ (ps.zip (g us ws))
  rel : ∀ {vs : List V} {us : List Value} {zs : List V} {ws : List Value}, Vals vs us → Vals zs ws → Vals (gV vs zs) (g us ws)
def tCallK (sp : Sp) (gV : List V → List V → List V) (E : XK) (t tk : TA) : TE := fun σ H Q => t σ H fun vs H1 => tk σ H1 fun zs H2 => sp (gV vs zs) H2 Q E
variable {g : List Value → List Value → List Value} {gV : List V → List V → List V}
end
structure FnScope (N P : List Str) (sc : Scope) : Prop where
  kind : sc.kind = .function
  co : sc.isCoroutine = false
  gen : sc.isGenerator = false
  nd : N.Nodup
  pre : N.take P.length = P
  par : ∀ x ∈ P, sc.names.lookup x = some .local ∨ sc.names.lookup x = some .cell
  nofree : ∀ y ∈ sc.names, y.2 ≠ .free
theorem bindL_out {kindOf : Str → Option NameKind} {x : Str} : ∀ {binds : List (Str × Value)} {m : Str → Option Value}, (∀ v, (x, v) ∉ binds) → bindL kindOf binds m x = m x
  | [], _, _ => rfl
  | (n, v) :: r, m, h => by
    unfold bindL
    rw [bindL_out fun w hw => h w (List.mem_cons_of_mem _ hw)]
    split
    · have : x ≠ n := by rintro rfl; exact h v List.mem_cons_self
      simp [this]
    · rfl
theorem bindC_out {kindOf : Str → Option NameKind} {x : Str} : ∀ {binds : List (Str × Value)} {m : Str → Option Value}, (∀ v, (x, v) ∉ binds) → bindC kindOf binds m x = m x
  | [], _, _ => rfl
  | (n, v) :: r, m, h => by
    unfold bindC
    rw [bindC_out fun w hw => h w (List.mem_cons_of_mem _ hw)]
    split
    · rfl
    · have : x ≠ n := by rintro rfl; exact h v List.mem_cons_self
      simp [this]
theorem bindL_get {kindOf : Str → Option NameKind} {x : Str} {v : Value} : ∀ {P : List Str} {vs : List Value} {i : Nat} {m : Str → Option Value}, P.Nodup → P[i]? = some x → vs[i]? = some v → kindOf x = some .local →
    bindL kindOf (P.zip vs) m x = some v
  | [], _, _, _, _, h, _, _ => by simp at h
  | _ :: _, [], _, _, _, _, h, _ => by simp at h
  | p :: P, w :: vs, 0, m, nd, h1, h2, hk => by
    simp at h1 h2; subst h1; subst h2
    show bindL kindOf ((p, w) :: P.zip vs) m p = _
    unfold bindL
    rw [bindL_out fun v hv => (List.nodup_cons.mp nd).1 (List.of_mem_zip hv).1, if_pos hk]
    simp
  | p :: P, w :: vs, i + 1, m, nd, h1, h2, hk => by
    show bindL kindOf ((p, w) :: P.zip vs) m x = _
    unfold bindL
    exact bindL_get (i := i) (List.nodup_cons.mp nd).2 (by simpa using h1) (by simpa using h2) hk
theorem bindC_get {kindOf : Str → Option NameKind} {x : Str} {v : Value} : ∀ {P : List Str} {vs : List Value} {i : Nat} {m : Str → Option Value}, P.Nodup → P[i]? = some x → vs[i]? = some v → kindOf x ≠ some .local →
    bindC kindOf (P.zip vs) m x = some v
  | [], _, _, _, _, h, _, _ => by simp at h
  | _ :: _, [], _, _, _, _, h, _ => by simp at h
  | p :: P, w :: vs, 0, m, nd, h1, h2, hk => by
    simp at h1 h2; subst h1; subst h2
    show bindC kindOf ((p, w) :: P.zip vs) m p = _
    unfold bindC
    rw [bindC_out fun v hv => (List.nodup_cons.mp nd).1 (List.of_mem_zip hv).1, if_neg hk]
    simp
  | p :: P, w :: vs, i + 1, m, nd, h1, h2, hk => by
    show bindC kindOf ((p, w) :: P.zip vs) m x = _
    unfold bindC
    exact bindC_get (i := i) (List.nodup_cons.mp nd).2 (by simpa using h1) (by simpa using h2) hk
def start (N : List Str) (vs : List V) : St := vs.map some ++ List.replicate (N.length - vs.length) none
def cxOf (CX : CXT) (P : Program) (w : World) (K : PySem.W.Frag) (mg : Str → Option Value) (base : Heap) (N : List Str) (qual : Str) (scope : Scope) (f : Addr) (cd : Value) (A : Around) (outer : List Env) (s : Shared) (H : Hp) (E : XK) : Cx where
  prog := P
  w := w
  K := K
  mg := mg
  base := base
  A := A.deeper (envOfC qual scope s.heap.objs.size f cd)
  N := N
  s₀ := s
  H₀ := H
  env := envOfC qual scope s.heap.objs.size f cd
  outer := outer
  stack := envOfC qual scope s.heap.objs.size f cd :: outer
  ex := []
  calm := true
  fn := fun _ => true
  pn := []
  xe := fun e s' => wpAny (model P w) (A.deeper (envOfC qual scope s.heap.objs.size f cd)) (leaving (envOfC qual scope s.heap.objs.size f cd) e) (fun _ s'' => CX outer H s E e s'') (fun e' s'' => CX outer H s E e' s'') s'
theorem cell_has {sc : Scope} {n : Nat} {x : Str} (h : sc.names.lookup x = some .cell) : ∃ c, (cellsFrom n sc.names []).lookup x = some c := by
  have q := PySem.W.cellsFrom_some sc.names n [] (.inl h)
  exact Option.isSome_iff_exists.mp q
theorem inv_start {CX : CXT} {P : Program} {w : World} {K : PySem.W.Frag} {mg : Str → Option Value} {base : Heap} {N ps : List Str} {qual : Str} {scope : Scope} {f : Addr} {cd : Value} {A : Around} {outer : List Env} {s s1 : Shared} {H : Hp} {E : XK} {us : List Value} {vs : List V}
    (S : FnScope N ps scope) (hd : A.handled = none) (e0 : Env0 P w K mg base A outer s H) (hl : vs.length = ps.length) (r : Vals vs us)
    (x : InCallC s s.heap.objs.size (bindL (envOfC qual scope s.heap.objs.size f cd).kindOf (ps.zip us) fun _ => none) (cellsFrom (s.heap.objs.size + 1) scope.names []) (bindC (envOfC qual scope s.heap.objs.size f cd).kindOf (ps.zip us) fun _ => none) s1) :
    Inv (cxOf CX P w K mg base N qual scope f cd A outer s H E) [] (start N vs) H s1 := by
  have hpl : ps.length ≤ N.length := by have := congrArg List.length S.pre; rw [List.length_take] at this; omega
  obtain ⟨h1, tk, rfl, hk⟩ := x.done
  have noA : ∀ b : Addr, b ∉ (cxOf CX P w K mg base N qual scope f cd A outer s H E).ex := fun b z => absurd (show b ∈ ([] : List Addr) from z) (by simp)
  refine ⟨⟨e0.mod, S.kind, rfl, rfl, Nat.le_refl _, fun y z c h1 h2 => ?_, fun y hy => ?_, fun y c _ h => ?_, fun _ => hd, Around.frames_deeper e0.frames, .inr ⟨rfl, rfl⟩, fun b z => absurd z (noA b), e0.bs, e0.bsz, fun b _ _ => noA b, fun b z => absurd z (noA b), e0.funs, e0.frf⟩,
    rfl, e0.bare, Un.kept hk, ⟨_, x.toInCall.ns, fun i y v h1 h2 h3 => ?_⟩, fun y c h => ⟨_, x.cell y c h⟩, e0.hok.fresh (Nat.le_refl _), fun y c h => ?_, fun p hp => absurd (show p ∈ ([] : List (Addr × Obj)) from hp) (by simp), e0.hok.kept hk, ?_⟩
  · exact name_of_addr x.apart (PySem.mem_of_lookup h1) (PySem.mem_of_lookup h2)
  · have hy : scope.names.lookup y = some .cell ∨ scope.names.lookup y = some .free := hy
    rcases hy with hy | hy
    · exact cell_has hy
    · exact absurd rfl (S.nofree _ (PySem.mem_of_lookup hy))
  · exact Nat.le_of_lt (x.above y c (PySem.mem_of_lookup h))
  · have hi : i < vs.length := by
      unfold start at h2
      by_cases hi : i < vs.length
      · exact hi
      · rw [List.getElem?_append_right (by simpa using hi)] at h2
        rw [List.getElem?_replicate] at h2
        split at h2 <;> cases h2
    have ha : vs[i]? = some v := by
      unfold start at h2
      rw [List.getElem?_append_left (by simpa using hi), List.getElem?_map] at h2
      cases e : vs[i]? with
      | none => rw [e] at h2; cases h2
      | some a => rw [e] at h2; cases h2; rfl
    obtain ⟨u, hu, rv⟩ := r.get ha
    have hp : ps[i]? = some y := by
      rw [← S.pre, List.getElem?_take_of_lt (by omega)]; exact h1
    have ndP : ps.Nodup := by rw [← S.pre]; exact S.nd.sublist (List.take_sublist _ _)
    refine ⟨u, rv, ?_⟩
    rcases S.par y (List.mem_of_getElem? hp) with k | k
    · exact .inl ⟨k, bindL_get ndP hp hu k⟩
    · obtain ⟨c, e⟩ := cell_has (n := s.heap.objs.size + 1) k
      refine .inr ⟨.inl k, c, e, ?_⟩
      have q := x.cell y c e
      rw [bindC_get ndP hp hu (by show scope.names.lookup y ≠ _; rw [k]; decide)] at q
      exact q
  · exact e0.hok.fresh (Nat.le_of_lt (x.above y c (PySem.mem_of_lookup h)))
  · unfold start
    show _ = N.length
    rw [List.length_append, List.length_map, List.length_replicate]
    omega
theorem fn_of {CX : CXT} {P : Program} {w : World} {K : PySem.W.Frag} {mg : Str → Option Value} {base : Heap} {k : Nat} {f : Addr} {name qual : Str} {params : Arguments} {body : List Stmt} {scope : Scope} {dV kV doc pm cdv ct oc : Value} {an od : Option Addr}
    {osl : Array (Option Value)} {N ps : List Str} {sp : Sp} (lk : K.lookup f = some ⟨oc, od, .func (PySem.W.fnOf name qual params body scope dV kV doc pm an cdv ct), osl⟩) (hcd : PySem.W.codeIn K cdv qual = true) (S : FnScope N ps scope)
    (len : ∀ vs H Q E, sp vs H Q E → vs.length = ps.length)
    (hbody : ∀ (A : Around) (outer : List Env) (s : Shared) (H : Hp) (vs : List V) (Q : VK) (E : XK), Room k (A.deeper (envOfC qual scope s.heap.objs.size f cdv)) → sp vs H Q E →
      ∃ t, PSs (cxOf CX P w K mg base N qual scope f cdv A outer s H E) body t ∧ t { nx := fun _ H' => Q .non H', rt := Q } (start N vs) H) :
    FnOk P w K mg base CX (k + 1) f (PySem.W.fnOf name qual params body scope dV kV doc pm an cdv ct) ps sp := by
  refine ⟨len, fun A outer s H args us vs Q E hr e0 hb r hsp => ?_⟩
  have hl := len _ _ _ _ hsp
  have KX : K.In s.heap := e0.mod.kin.keeps fun b o e => (e0.bs b o e).1
  have lim : s.heap.NoLimit := e0.mod.nolimit.keeps fun b o e => (e0.bs b o e).1
  have hkind : ∀ y ∈ ps.zip us, scope.names.lookup y.1 = some .local ∨ (scope.names.lookup y.1 = some .cell ∧ ((cellsFrom (s.heap.objs.size + 1) scope.names []).lookup y.1).isSome = true) := fun ⟨n, v⟩ hy => by
    rcases S.par n (List.of_mem_zip hy).1 with q | q
    · exact .inl q
    · exact .inr ⟨q, PySem.W.cellsFrom_some _ _ _ (.inl q)⟩
  refine codeAny_call_function hr.depth (KX _ _ lk) rfl S.co S.gen rfl (PySem.W.codeRec_of KX hcd) (hb _ _ _ _ ?_)
  refine wpAny_newFunctionEnv_cells S.kind hkind fun env he s1 x => ?_
  subst he
  refine ⟨lim.keeps x.toInCall.keep, codeAny_func ?_⟩
  obtain ⟨t, ht, hq⟩ := hbody A outer s H vs Q E (hr.deeper _) hsp
  have I : Inv (cxOf CX P w K mg base N qual scope f cdv A outer s H E) [] (start N vs) H s1 := inv_start S hr.hd e0 hl r x
  refine wpAny_mono (ht [] s1 (start N vs) H _ I hq) (fun fl s' hs => ?_) fun e s' hs => hs
  have fin : ∀ {σ' : St} {H' : Hp} {v : V} {u : Value}, Inv (cxOf CX P w K mg base N qual scope f cdv A outer s H E) [] σ' H' s' → RelV v u → Q v H' → CE outer P w H s Q u s' :=
    fun {σ' H' v u} J rv q => ⟨v, H', J.os, J.bare, J.base, J.hok, rv, q⟩
  cases fl with
  | ret u =>
    obtain ⟨v, σ', H', J, rv, q⟩ := hs
    exact fin J rv q
  | next =>
    obtain ⟨σ', H', J, q⟩ := hs
    exact fin (v := V.non) (u := Value.none) J rfl q
  | brk =>
    obtain ⟨_, _, _, q⟩ := hs
    exact False.elim q
  | cont =>
    obtain ⟨_, _, _, q⟩ := hs
    exact False.elim q
end L2
namespace L2
open PySem PySem.Spec PyProof.Rows
section
variable {X : Cx} {x : Str} {p pos : Pos} {e : Expr} {es : List Expr} {t : TA} {id T : String} {r : List V → Hp → VK → Prop}
def tCB (r : List V → Hp → VK → Prop) (t : TA) : TE := fun σ H Q => t σ H fun vs H1 => r vs H1 Q
theorem pe_callB (hc : CallR X (.builtin id) r) (hg : Gl X x) (hm : X.mg x = none) (hv : bootBuiltins x = some (.builtin id)) (ha : PA X (e :: es) t) (hn : x ≠ "__name__" := by decide) (hdb : (x == ("__debug__" : Str)) = false := by decide)
    (he : starEach (e :: es) X.env = (false, eval e X.env) :: starEach es X.env := by rfl) (hpl : (backTo pos (starEach es X.env)).any (·.1) = false := by rfl) : PE X (.Call (.Name x p) (e :: es) [] pos) (tCB r t) := by
  intro pins s σ H Q I h
  refine wpAny_Call_Name_kw (ld_blt I hg hm hv ?_ hn hdb)
  exact PyProof.Rows.callWith_builtin1 (thn (ha pos pins s σ H _ I h) fun us s1 ⟨vs, H1, I1, r1, q1⟩ => hc pins s1 σ H1 vs us Q I1 r1 q1) he hpl
theorem pe_callTy (hc : CallR X (.type T) r) (hg : Gl X x) (hm : X.mg x = none) (hv : bootBuiltins x = some (.type T)) (ha : PA X (e :: es) t) (hn : x ≠ "__name__" := by decide) (hdb : (x == ("__debug__" : Str)) = false := by decide)
    (he : starEach (e :: es) X.env = (false, eval e X.env) :: starEach es X.env := by rfl) (hpl : (backTo pos (starEach es X.env)).any (·.1) = false := by rfl) : PE X (.Call (.Name x p) (e :: es) [] pos) (tCB r t) := by
  intro pins s σ H Q I h
  refine wpAny_Call_Name_kw (ld_blt I hg hm hv ?_ hn hdb)
  exact PyProof.Rows.callWith_type1 (thn (ha pos pins s σ H _ I h) fun us s1 ⟨vs, H1, I1, r1, q1⟩ => hc pins s1 σ H1 vs us Q I1 r1 q1) he hpl
end
end L2
namespace HT
open PySem PyProof.Rows
def lexLt : List Int → List Int → Bool
  | [], [] => false
  | [], _ :: _ => true
  | _ :: _, [] => false
  | x :: xs, y :: ys => if x = y then lexLt xs ys else decide (x < y)
section
open PySem.SeqAt
open PySem.AutoSeq1 (wpAny_loadPart')
open PySem.MeetsSeq PySem.MeetsSeq2 PySem.MeetsSeq3
end
section
variable {prog : Program} {w : World} {A : Around} {E : Value → Shared → Prop} {s : Shared}
def sIx (n d : Nat) : Option Int → Nat
  | none => d
  | some v => if v < 0 then (v + (n : Int)).toNat else min v.toNat n
theorem sIx_none (n d : Nat) : sIx n d none = d := rfl
theorem sIx_nat (n d k : Nat) : sIx n d (some (k : Int)) = min k n := by
  show (if (k : Int) < 0 then ((k : Int) + (n : Int)).toNat else min (k : Int).toNat n) = min k n
  rw [if_neg (by omega), Int.toNat_natCast]
theorem sIx_le (n d : Nat) (hd : d ≤ n) (o : Option Int) : sIx n d o ≤ n := by
  cases o with
  | none => exact hd
  | some v =>
    show (if v < 0 then (v + (n : Int)).toNat else min v.toNat n) ≤ n
    by_cases hv : v < 0
    · rw [if_pos hv]; omega
    · rw [if_neg hv]; exact Nat.min_le_right _ _
end
end HT
namespace L2
open PySem PySem.Spec PyProof.Rows
abbrev TO := St → Hp → (Option Int → Hp → Prop) → Prop
def PO (X : Cx) (e : Option Expr) (t : TO) : Prop :=
  ∀ (pins : List (Addr × Obj)) (s : Shared) (σ : St) (H : Hp) (Q : Option Int → Hp → Prop), Inv X pins σ H s → t σ H Q →
    wpAny (model X.prog X.w) X.A (evalPart e X.env) (fun u s' => ∃ o H', Inv X pins σ H' s' ∧ IsPart u o ∧ Q o H') X.xe s
def tNoPart : TO := fun _ H Q => Q none H
def tPart (t : TE) : TO := fun σ H Q => t σ H fun x H1 => ∃ i, x = .int i ∧ Q (some i) H1
theorem intsAre_of {ns : List Int} : ∀ {us : List Value}, Vals (ns.map V.int) us → IntsAre us ns := by
  induction ns with
  | nil => intro us r; rw [List.map_nil] at r; cases r; exact .nil
  | cons n ns ih =>
    intro us r
    rw [List.map_cons] at r
    cases r with
    | cons r1 r2 =>
      obtain ⟨t, e⟩ := r1
      subst e
      exact .cons n t (ih r2)
section
variable {X : Cx} {e : Expr} {te : TE} {lo hi : Option Expr} {tl th : TO} {pos p2 : Pos}
theorem po_none : PO X none tNoPart := by
  intro pins s σ H Q I h
  rw [evalPart_none]
  exact wpAny_pure ⟨none, H, I, .none, h⟩
theorem po_some (h : PE X e te) : PO X (some e) (tPart te) := by
  intro pins s σ H Q I hw
  rw [evalPart_some]
  refine thn (h pins s σ H _ I hw) fun u s1 ⟨x, H1, I1, r1, q1⟩ => ?_
  obtain ⟨i, rfl, q⟩ := q1
  obtain ⟨t, rfl⟩ := r1
  exact ⟨some i, H1, I1, .int i t, q⟩
def SlR (X : Cx) (r : V → Option Int → Option Int → Hp → VK → Prop) : Prop :=
  ∀ (pins : List (Addr × Obj)) (s : Shared) (σ : St) (H : Hp) (x : V) (v vl vu : Value) (lo hi : Option Int) (sl : Addr) (Q : VK), Inv X pins σ H s → RelV x v → s.heap.IsSliceOf sl vl vu .none → IsPart vl lo → IsPart vu hi → r x lo hi H Q →
    ∃ T id, typeLookup (.type T) "__getitem__" = pure (some (.builtin id)) ∧ s.TypeIs v T ∧ wpAny (model X.prog X.w) X.A (getItem v (.ref sl)) (EP X pins σ Q) X.xe s
def tSl (r : V → Option Int → Option Int → Hp → VK → Prop) (te : TE) (tl th : TO) : TE := fun σ H Q => te σ H fun x H1 => tl σ H1 fun l H2 => th σ H2 fun u H3 => r x l u H3 Q
theorem pe_slice {r : V → Option Int → Option Int → Hp → VK → Prop} (hr : SlR X r) (he : PE X e te) (hl : PO X lo tl) (hu : PO X hi th) : PE X (.Subscript e (.Slice lo hi none p2) pos) (tSl r te tl th) := by
  intro pins s σ H Q I h
  refine Subscript_ (thn (he pins s σ H _ I h) fun v s1 ⟨x, H1, I1, r1, q1⟩ => ?_)
  refine wpAny_Slice (thn (hl pins s1 σ H1 _ I1 q1) fun vl s2 ⟨l, H2, I2, pl, q2⟩ => thn (hu pins s2 σ H2 _ I2 q2) fun vu s3 ⟨u, H3, I3, pu, q3⟩ => ?_)
  rw [evalPart_none]
  refine wpAny_pure ?_
  have I4 : Inv X pins σ H3 { s3 with heap := s3.heap.push { cls := .type "slice", data := .fields #[vl, vu, .none] } } := I3.kept (t' := s3.toks) fun b ob q => Heap.get?_push_of_some _ q
  obtain ⟨T, id, hT, ht, hg⟩ := hr pins { s3 with heap := s3.heap.push { cls := .type "slice", data := .fields #[vl, vu, .none] } } σ H3 x v vl vu l u s3.heap.objs.size Q I4 r1 (Heap.IsSliceOf.new ..) pl pu q3
  show wpAny (model X.prog X.w) X.A (subscriptTail e (.Slice lo hi none p2) v (.ref s3.heap.objs.size)) (EP X pins σ Q) X.xe { s3 with heap := s3.heap.push { cls := .type "slice", data := .fields #[vl, vu, .none] } }
  exact tail_any (ops := [.ref s3.heap.objs.size, v]) ht hT hg (by with_unfolding_all rfl)
def cutV (xs : List V) (lo hi : Option Int) : List V := (xs.drop (HT.sIx xs.length 0 lo)).take (HT.sIx xs.length xs.length hi - HT.sIx xs.length 0 lo)
theorem cutV_length (xs : List V) (lo hi : Option Int) : (cutV xs lo hi).length ≤ xs.length := by
  unfold cutV
  rw [List.length_take, List.length_drop]
  omega
def rSlT (K : PySem.W.Frag) : V → Option Int → Option Int → Hp → VK → Prop := fun x lo hi H Q => ∃ a xs, x = .ref a ∧ SqT K H a xs ∧
  ¬ (HT.sIx xs.length 0 lo = 0 ∧ HT.sIx xs.length xs.length hi = xs.length) ∧ ∀ p, H p = none → Q (.ref p) (upd H p (.tup (cutV xs lo hi)))
def rLtT (K : PySem.W.Frag) : R2 := fun x y H Q => ∃ a b ns ms, x = .ref a ∧ y = .ref b ∧ SqT K H a (ns.map V.int) ∧ SqT K H b (ms.map V.int) ∧ Q (.bl (HT.lexLt ns ms)) H
def rCatT (K : PySem.W.Frag) : R2 := fun x y H Q => ∃ a b xs ys, x = .ref a ∧ y = .ref b ∧ SqT K H a xs ∧ SqT K H b ys ∧ xs ≠ [] ∧ xs.length + ys.length ≤ sizeLine ∧
  (ys = [] → Q (.ref a) H) ∧ (ys ≠ [] → ∀ p, H p = none → Q (.ref p) (upd H p (.tup (xs ++ ys))))
end
end L2
namespace L2
open PySem PySem.Spec PyProof.Rows
def ixN (n : Nat) (i : Int) : Option Nat := if 0 ≤ i then (if i < n then some i.toNat else none) else if -(n : Int) ≤ i then some (i + n).toNat else none
def atI {α : Type} (xs : List α) (i : Int) : Option α := (ixN xs.length i).bind fun j => xs[j]?
theorem ixN_seq {n : Nat} {i : Int} {j : Nat} (h : ixN n i = some j) : seqIndex? i n = some j ∧ j < n ∧ -(n : Int) ≤ i ∧ i < n := by
  unfold ixN at h
  by_cases h0 : 0 ≤ i
  · rw [if_pos h0] at h
    by_cases h1 : i < n
    · rw [if_pos h1] at h
      have e : i.toNat = j := Option.some.inj h
      exact ⟨by rw [seqIndex_of h0 h1, e], by omega, by omega, h1⟩
    · rw [if_neg h1] at h; cases h
  · rw [if_neg h0] at h
    by_cases h1 : -(n : Int) ≤ i
    · rw [if_pos h1] at h
      have e : (i + n).toNat = j := Option.some.inj h
      exact ⟨by rw [seqIndex_neg (by omega) h1, e], by omega, h1, by omega⟩
    · rw [if_neg h1] at h; cases h
theorem atI_get {α : Type} {xs : List α} {i : Int} {v : α} (h : atI xs i = some v) : ∃ j, seqIndex? i xs.length = some j ∧ xs[j]? = some v ∧ j < xs.length ∧ -(xs.length : Int) ≤ i ∧ i < xs.length := by
  unfold atI at h
  cases e : ixN xs.length i with
  | none => rw [e] at h; cases h
  | some j =>
    rw [e] at h
    obtain ⟨h1, h2, h3, h4⟩ := ixN_seq e
    exact ⟨j, h1, h, h2, h3, h4⟩
theorem atI_nat {α : Type} {xs : List α} {j : Nat} {v : α} (h : xs[j]? = some v) : atI xs (j : Int) = some v := by
  have hj : j < xs.length := (List.getElem?_eq_some_iff.mp h).1
  have e : ixN xs.length (j : Int) = some j := by
    unfold ixN
    rw [if_pos (by omega), if_pos (by omega)]; simp
  unfold atI; rw [e]; exact h
def PlainIx (b : Expr) : Prop := ∀ o i, subscripted b false o i = operate [o, i] (getItem o i)
def IxR (X : Cx) (r : R2) : Prop :=
  ∀ (value slice : Expr) (pins : List (Addr × Obj)) (s : Shared) (σ : St) (H : Hp) (x y : V) (v u : Value) (Q : VK), Inv X pins σ H s → RelV x v → RelV y u → r x y H Q →
    subscripted slice false v u = operate [v, u] (getItem v u) → wpAny (model X.prog X.w) X.A (subscriptTail value slice v u) (EP X pins σ Q) X.xe s
def MtR (X : Cx) (id : String) (r : V → List V → Hp → VK → Prop) : Prop :=
  ∀ (pins : List (Addr × Obj)) (s : Shared) (σ : St) (H : Hp) (x : V) (xs : List V) (v : Value) (us : List Value) (Q : VK), Inv X pins σ H s → RelV x v → Vals xs us → r x xs H Q →
    wpAny (model X.prog X.w) X.A (call (.builtin id) (v :: us)) (EP X pins σ Q) X.xe s
section
variable {X : Cx} {a b : Expr} {ta tb : TE} {pos : Pos}
theorem pe_ix {r : R2} (hr : IxR X r) (ha : PE X a ta) (hb : PE X b tb) (hs : PlainIx b) : PE X (.Subscript a b pos) (tOp r ta tb) := by
  intro pins s σ H Q I h
  exact Subscript_ (binT ha hb I h fun v u s2 x y H2 I2 rx ry q => hr a b pins s2 σ H2 x y v u Q I2 rx ry q (hs _ _))
def rIxL (K : PySem.W.Frag) : R2 := fun x y H Q => ∃ p xs i v, x = .ref p ∧ y = .int i ∧ SqL K H p xs ∧ atI xs i = some v ∧ Q v H
def rIxT (K : PySem.W.Frag) : R2 := fun x y H Q => ∃ p xs i v, x = .ref p ∧ y = .int i ∧ SqT K H p xs ∧ atI xs i = some v ∧ Q v H
def rIxS : R2 := fun x y H Q => ∃ z i c, x = .str z ∧ y = .int i ∧ z.length ≤ sizeLine ∧ atI z.cps.toList i = some c ∧ Q (.str ⟨#[c]⟩) H
theorem ix_list : IxR X (rIxL X.K) := by
  intro value slice pins s σ H x y v u Q I rx ry h hs
  obtain ⟨p, xs, i, z, rfl, rfl, hq, he, q⟩ := h
  cases rx
  obtain ⟨t, rfl⟩ := ry
  obtain ⟨its, r, pl, hz⟩ := I.list hq
  obtain ⟨j, h1, h2, h3, h4, h5⟩ := atI_get he
  obtain ⟨w, ew, rw'⟩ := r.get h2
  have hl := r.length
  have hn := line63
  have fin : EP X pins σ Q w s := ⟨z, H, I, rw', q⟩
  by_cases h0 : 0 ≤ i
  · have hj : i.toNat = j := by
      rw [seqIndex_of h0 h5] at h1
      exact Option.some.inj h1
    exact item_listR pl.isList h0 (by omega) (by rw [hj]; simpa using ew) fin hs
  · have hj : (i + (its.toArray.size : Int)).toNat = j := by
      rw [seqIndex_neg (by omega) h4] at h1
      rw [List.size_toArray, ← hl]
      exact Option.some.inj h1
    exact subscriptTail_builtinR (x := w) pl.isList.typeIs slot_list_getitem.lookup
      (wpAny_getItem_list_neg (Q := fun r s' => r = w ∧ EP X pins σ Q r s') pl.isList (by omega) (by rw [List.size_toArray] <;> omega) (by omega) (by rw [hj]; simpa using ew) ⟨rfl, fin⟩) hs
theorem ix_tup : IxR X (rIxT X.K) := by
  intro value slice pins s σ H x y v u Q I rx ry h hs
  obtain ⟨p, xs, i, z, rfl, rfl, hq, he, q⟩ := h
  cases rx
  obtain ⟨t, rfl⟩ := ry
  obtain ⟨its, r, pl, hz⟩ := I.tuple hq
  obtain ⟨j, h1, h2, h3, h4, h5⟩ := atI_get he
  obtain ⟨w, ew, rw'⟩ := r.get h2
  have hl := r.length
  have hn := line63
  have fin : EP X pins σ Q w s := ⟨z, H, I, rw', q⟩
  exact subscriptTail_builtinR (x := w) pl.typeIs slot_tuple_getitem.lookup
    (getItem_tuple (j := j) (Q := fun r s' => r = w ∧ EP X pins σ Q r s') pl (by omega) (by omega) (by rw [List.size_toArray, ← hl]; exact h1) (by simpa using ew) ⟨rfl, fin⟩) hs
theorem ix_str : IxR X rIxS := by
  intro value slice pins s σ H x y v u Q I rx ry h hs
  obtain ⟨z, i, c, rfl, rfl, hz, he, q⟩ := h
  obtain ⟨t, rfl⟩ := rx
  obtain ⟨t', rfl⟩ := ry
  obtain ⟨j, h1, h2, h3, h4, h5⟩ := atI_get he
  have hl : z.cps.toList.length = z.length := by simp [Str.length]
  rw [hl] at h1 h4 h5
  have hn := line63
  exact tail_any (typeIs_str s z t) slot_str_getitem.lookup (getItem_str (c := c) (by
    have e1 : decide (i < -(2 ^ 63 : Int)) = false := decide_eq_false (by omega)
    have e2 : decide (i ≥ 2 ^ 63) = false := decide_eq_false (by omega)
    rw [e1, e2, Bool.or_false]) (by rw [h1]; simpa using h2) ⟨.str ⟨#[c]⟩, H, I.tok _, ⟨_, rfl⟩, q⟩) hs
def rIx (K : PySem.W.Frag) : R2 := fun x y H Q => rIxL K x y H Q ∨ rIxT K x y H Q ∨ rIxS x y H Q
theorem mapSeq_set (its : List Value) (n j : Nat) (u : Value) : Obj.mapSeq (·.setIfInBounds j u) { cls := .type "list", data := .seq its.toArray n } = { cls := .type "list", data := .seq (its.set j u).toArray n } := by
  simp [Obj.mapSeq]
theorem Inv.lst {pins : List (Addr × Obj)} {σ : St} {H : Hp} {s : Shared} {p : Addr} {xs : List V} (I : Inv X pins σ H s) (h : H p = some (.lst xs)) :
    ∃ (its : List Value) (n : Nat), Vals xs its ∧ s.heap.get? p = some { cls := .type "list", data := .seq its.toArray n } ∧ xs.length ≤ sizeLine := by
  obtain ⟨z, its, n, r, e⟩ := I.hok p _ h
  exact ⟨its, n, r, e, z⟩
theorem Inv.lstUpd {pins : List (Addr × Obj)} {σ : St} {H : Hp} {s : Shared} {p : Addr} {xs ys : List V} {its its' : List Value} {n n' : Nat} {f : Obj → Obj} (I : Inv X pins σ H s) (h : H p = some (.lst xs))
    (ho : s.heap.get? p = some { cls := .type "list", data := .seq its.toArray n }) (hf : f { cls := .type "list", data := .seq its.toArray n } = { cls := .type "list", data := .seq its'.toArray n' }) (r : Vals ys its') (hz : ys.length ≤ sizeLine) (t : Nat) :
    Inv X pins σ (upd H p (.lst ys)) { s with heap := s.heap.update p f, toks := t } := by
  have e : (s.heap.update p f).get? p = some { cls := .type "list", data := .seq its'.toArray n' } := by
    rw [Heap.get?_update_self f ho (by rw [hf] <;> rfl), hf]
  refine I.write (x := p) (e := p) (by rw [h]; trivial) (.inl rfl) (fun b u hb q => (Heap.get?_update_other _ _ (Ne.symm hb)).trans q) ⟨_, e⟩ ?_
  exact ⟨hz, its', n', r, e⟩
def rSetL : V → V → V → Hp → (Hp → Prop) → Prop := fun o i v H Q => ∃ p xs k j, o = .ref p ∧ i = .int k ∧ H p = some (.lst xs) ∧ ixN xs.length k = some j ∧ Q (upd H p (.lst (xs.set j v)))
theorem set_list : PSet X rSetL := by
  intro pins s σ H o i v ov iv u Q I ro ri rv h
  obtain ⟨p, xs, k, j, rfl, rfl, hp, hj, q⟩ := h
  cases ro
  obtain ⟨t, rfl⟩ := ri
  obtain ⟨its, n, r, ho, hz⟩ := I.lst hp
  obtain ⟨h1, h2, h3, h4⟩ := ixN_seq hj
  have hl := r.length
  have hn := line63
  have I' : Inv X pins σ (upd H p (.lst (xs.set j v))) { s with heap := s.heap.update p (Obj.mapSeq (·.setIfInBounds j u)) } :=
    I.lstUpd hp ho (mapSeq_set its n j u) (r.set rv j) (by rw [List.length_set]; exact hz) s.toks
  by_cases h0 : 0 ≤ k
  · have hk : k.toNat = j := by
      rw [seqIndex_of h0 h4] at h1
      exact Option.some.inj h1
    exact PySem.W.ki_setAt ho h0 (by omega) (by rw [List.size_toArray, ← hl]; exact h4) (by rw [hk]; exact ⟨_, I', q⟩)
  · have hk : (k + (its.toArray.size : Int)).toNat = j := by
      rw [seqIndex_neg (by omega) h3] at h1
      rw [List.size_toArray, ← hl]
      exact Option.some.inj h1
    exact PySem.W.ki_setBack ho (by omega) (by rw [List.size_toArray, ← hl]; exact h3) (by omega) (by rw [hk]; exact ⟨_, I', q⟩)
theorem slice_bounds (lo hi : Option Int) (n : Nat) : (sliceBounds lo hi none n).1 = ((HT.sIx n 0 lo : Nat) : Int) ∧ (sliceBounds lo hi none n).2.1 = ((HT.sIx n n hi : Nat) : Int) ∧ (sliceBounds lo hi none n).2.2 = 1 := by
  refine ⟨?_, ?_, rfl⟩
  · cases lo with
    | none => simp [sliceBounds, HT.sIx]
    | some i =>
      simp only [sliceBounds, HT.sIx, Option.getD_none, show (1 : Int) > 0 by decide, if_true]
      by_cases h : i < 0
      · simp only [h, if_true] <;> omega
      · simp only [h, if_false] <;> omega
  · cases hi with
    | none => simp [sliceBounds, HT.sIx]
    | some i =>
      simp only [sliceBounds, HT.sIx, Option.getD_none, show (1 : Int) > 0 by decide, if_true]
      by_cases h : i < 0
      · simp only [h, if_true] <;> omega
      · simp only [h, if_false] <;> omega
theorem slicePick_cut (its : List Value) (lo hi : Option Int) : slicePick its.toArray lo hi none = ((its.drop (HT.sIx its.length 0 lo)).take (HT.sIx its.length its.length hi - HT.sIx its.length 0 lo)).toArray := by
  obtain ⟨h1, h2, h3⟩ := slice_bounds lo hi its.toArray.size
  unfold slicePick
  rw [h1, h2, h3]
  simp only [sliceRange_one, pick_run, List.size_toArray] <;> rfl
def rSlL (K : PySem.W.Frag) : V → Option Int → Option Int → Hp → VK → Prop := fun x lo hi H Q => ∃ a xs, x = .ref a ∧ SqL K H a xs ∧ ∀ p, H p = none → Q (.ref p) (upd H p (.lst (cutV xs lo hi)))
theorem sl_list : SlR X (rSlL X.K) := by
  intro pins s σ H x v vl vu lo hi sl Q I rx hs pl pu h
  obtain ⟨a, xs, rfl, hx, q⟩ := h
  cases rx
  obtain ⟨its, r, ht, hz⟩ := I.list hx
  have hlen := r.length
  refine ⟨"list", _, slot_list_getitem.lookup, ht.isList.typeIs, ?_⟩
  refine wpAny_getItem_list_slice ht.isList hs pl pu .none (by simp) ?_ (by rw [List.size_toArray] <;> omega)
  rw [slicePick_cut, ← hlen]
  refine ⟨.ref s.heap.objs.size, _, I.laid (t' := s.toks) (o := .lst (cutV xs lo hi)) (fun b ob q => Heap.get?_push_of_some _ q) (Nat.le_refl _) ?_, rfl, q _ (I.hok.fresh (Nat.le_refl _))⟩
  exact ⟨Nat.le_trans (cutV_length xs lo hi) hz, _, 0, (r.drop (HT.sIx xs.length 0 lo)).take (HT.sIx xs.length xs.length hi - HT.sIx xs.length 0 lo), Heap.get?_push_size _ rfl⟩
def flatV : V → Bool
  | .non => true
  | .bl _ => true
  | .int _ => true
  | .str _ => true
  | _ => false
def eqV : V → V → Bool
  | .non, .non => true
  | .bl a, .bl b => a == b
  | .bl a, .int b => (if a then 1 else 0) == b
  | .int a, .bl b => a == (if b then 1 else 0)
  | .int a, .int b => a == b
  | .str a, .str b => a == b
  | _, _ => false
theorem eqAt_V {A : Around} {s : Shared} {y x : V} {u v : Value} (ry : RelV y u) (rx : RelV x v) (fy : flatV y = true) (fx : flatV x = true) : SeqAt.EqAt A s u v (eqV y x) := by
  cases y with
  | non =>
    cases ry
    cases x with
    | non => cases rx; exact SeqAt.EqAt.same _
    | bl b => cases rx; exact SeqAt.EqAt.none_bool b
    | int b => obtain ⟨t, rfl⟩ := rx; exact SeqAt.EqAt.none_int b t
    | str b => obtain ⟨t, rfl⟩ := rx; exact SeqAt.EqAt.none_str b t
    | _ => exact absurd (show false = true from fx) Bool.false_ne_true
  | bl a =>
    cases ry
    cases x with
    | non => cases rx; exact SeqAt.EqAt.bool_none a
    | bl b => cases rx; exact SeqAt.EqAt.bool_bool a b
    | int b => obtain ⟨t, rfl⟩ := rx; exact SeqAt.EqAt.bool_int a b t
    | str b => obtain ⟨t, rfl⟩ := rx; exact SeqAt.EqAt.bool_str a b t
    | _ => exact absurd (show false = true from fx) Bool.false_ne_true
  | int a =>
    obtain ⟨t', rfl⟩ := ry
    cases x with
    | non => cases rx; exact SeqAt.EqAt.int_none a t'
    | bl b => cases rx; exact SeqAt.EqAt.int_bool a t' b
    | int b => obtain ⟨t, rfl⟩ := rx; exact SeqAt.EqAt.int_int a t' b t
    | str b => obtain ⟨t, rfl⟩ := rx; exact SeqAt.EqAt.int_str a t' b t
    | _ => exact absurd (show false = true from fx) Bool.false_ne_true
  | str a =>
    obtain ⟨t', rfl⟩ := ry
    cases x with
    | non => cases rx; exact SeqAt.EqAt.str_none a t'
    | bl b => cases rx; exact SeqAt.EqAt.str_bool a t' b
    | int b => obtain ⟨t, rfl⟩ := rx; exact SeqAt.EqAt.str_int a t' b t
    | str b => obtain ⟨t, rfl⟩ := rx; exact SeqAt.EqAt.str_str a t' b t
    | _ => exact absurd (show false = true from fx) Bool.false_ne_true
  | _ => exact absurd (show false = true from fy) Bool.false_ne_true
def eqU (x : V) (u : Value) : Bool := match u with
  | .none => eqV .non x
  | .bool b => eqV (.bl b) x
  | .int i _ => eqV (.int i) x
  | .str z _ => eqV (.str z) x
  | _ => false
theorem eqU_of {x y : V} {u : Value} (r : RelV y u) (f : flatV y = true) : eqU x u = eqV y x := by
  cases y with
  | non => cases r; rfl
  | bl b => cases r; rfl
  | int i => obtain ⟨t, rfl⟩ := r; rfl
  | str z => obtain ⟨t, rfl⟩ := r; rfl
  | _ => exact absurd (show false = true from f) Bool.false_ne_true
theorem any_eqU {x : V} : ∀ {xs : List V} {us : List Value}, Vals xs us → xs.all flatV = true → us.any (eqU x) = xs.any fun y => eqV y x
  | _, _, .nil, _ => rfl
  | y :: xs, u :: us, .cons r t, f => by
    rw [List.all_cons, Bool.and_eq_true] at f
    rw [List.any_cons, List.any_cons, eqU_of r f.1, any_eqU t f.2]
theorem mem_eqAt {A : Around} {s : Shared} {x : V} {v : Value} (rx : RelV x v) (fx : flatV x = true) : ∀ {xs : List V} {us : List Value}, Vals xs us → xs.all flatV = true → ∀ u ∈ us, SeqAt.EqAt A s u v (eqU x u)
  | _, _, .nil, _ => fun u hu => by cases hu
  | y :: xs, u :: us, .cons r t, f => fun u' hu => by
    rw [List.all_cons, Bool.and_eq_true] at f
    rcases List.mem_cons.mp hu with rfl | hu
    · rw [eqU_of r f.1]; exact eqAt_V r rx f.1 fx
    · exact mem_eqAt rx fx t f.2 u' hu
def inV (x : V) (xs : List V) : Bool := xs.any fun y => eqV y x
def rIn (K : PySem.W.Frag) (neg : Bool) : R2 := fun x y H Q => ∃ p xs, y = .ref p ∧ (SqL K H p xs ∨ SqT K H p xs) ∧ flatV x = true ∧ xs.all flatV = true ∧ Q (.bl (if neg then !inV x xs else inV x xs)) H
theorem op_in_seq : OpR X (compareOp .In) (rIn X.K false) := by
  intro pins s σ H x y v u Q I rx ry h
  obtain ⟨p, xs, rfl, hq, fx, fs, q⟩ := h
  cases ry
  rcases hq with hq | hq
  · obtain ⟨its, r, pl, hz⟩ := I.list hq
    refine SeqAt.in_listAt (eqU x) pl.isList (fun w hw => mem_eqAt rx fx r fs w (by simpa using hw)) ⟨.bl _, H, I, rfl, ?_⟩
    rw [show its.toArray.any (eqU x) = its.any (eqU x) by simp, any_eqU r fs]
    exact q
  · obtain ⟨its, r, pl, hz⟩ := I.tuple hq
    refine SeqAt.in_tupleAt (eqU x) pl (fun w hw => mem_eqAt rx fx r fs w (by simpa using hw)) ⟨.bl _, H, I, rfl, ?_⟩
    rw [show its.toArray.any (eqU x) = its.any (eqU x) by simp, any_eqU r fs]
    exact q
theorem op_notIn_seq : OpR X (compareOp .NotIn) (rIn X.K true) := by
  intro pins s σ H x y v u Q I rx ry h
  obtain ⟨p, xs, rfl, hq, fx, fs, q⟩ := h
  cases ry
  rcases hq with hq | hq
  · obtain ⟨its, r, pl, hz⟩ := I.list hq
    refine SeqAt.notIn_listAt (eqU x) pl.isList (fun w hw => mem_eqAt rx fx r fs w (by simpa using hw)) ⟨.bl _, H, I, rfl, ?_⟩
    rw [show its.toArray.any (eqU x) = its.any (eqU x) by simp, any_eqU r fs]
    exact q
  · obtain ⟨its, r, pl, hz⟩ := I.tuple hq
    refine SeqAt.notIn_tupleAt (eqU x) pl (fun w hw => mem_eqAt rx fx r fs w (by simpa using hw)) ⟨.bl _, H, I, rfl, ?_⟩
    rw [show its.toArray.any (eqU x) = its.any (eqU x) by simp, any_eqU r fs]
    exact q
theorem call_len_seq : CallR X (.builtin "len") (fun xs H Q => ∃ p ys, xs = [.ref p] ∧ (SqL X.K H p ys ∨ SqT X.K H p ys) ∧ Q (.int ys.length) H) := by
  intro pins s σ H xs us Q I r h
  obtain ⟨p, ys, rfl, hq, q⟩ := h
  obtain ⟨u, rfl, rx⟩ := vals1 r
  cases rx
  have hn := line63
  rcases hq with hq | hq
  · obtain ⟨its, r', pl, hz⟩ := I.list hq
    have hlen := r'.length
    exact Calls.call_len_list pl.isList (by simp only [List.size_toArray] <;> omega) ⟨.int ys.length, H, I.tok _, ⟨s.toks + 1, by rw [List.size_toArray, hlen]⟩, q⟩
  · obtain ⟨its, r', pl, hz⟩ := I.tuple hq
    have hlen := r'.length
    exact len_tuple pl (by simp only [List.size_toArray] <;> omega) ⟨.int ys.length, H, I.tok _, ⟨s.toks + 1, by rw [List.size_toArray, hlen]⟩, q⟩
theorem call_len_str : CallR X (.builtin "len") (fun xs H Q => ∃ z, xs = [.str z] ∧ z.length ≤ sizeLine ∧ Q (.int z.length) H) := by
  intro pins s σ H xs us Q I r h
  obtain ⟨z, rfl, hz, q⟩ := h
  obtain ⟨u, rfl, t, rfl⟩ := vals1 r
  have hn := line63
  exact len_str (by omega) ⟨.int z.length, H, I.tok _, ⟨_, rfl⟩, q⟩
theorem call_list_of : CallR X (.type "list") (fun xs H Q => ∃ p ys, xs = [.ref p] ∧ (SqL X.K H p ys ∨ SqT X.K H p ys) ∧ ∀ l, H l = none → Q (.ref l) (upd H l (.lst ys))) := by
  intro pins s σ H xs us Q I r h
  obtain ⟨p, ys, rfl, hq, q⟩ := h
  obtain ⟨u, rfl, rx⟩ := vals1 r
  cases rx
  have fin : ∀ (its : List Value), Vals ys its → ys.length ≤ sizeLine → ∀ (h' : Heap) (c' : Nat), (∀ b o', s.heap.get? b = some o' → h'.get? b = some o') →
      h'.get? s.heap.objs.size = some { cls := .type "list", dict := none, data := .seq its.toArray c', slots := #[] } → EP X pins σ Q (.ref s.heap.objs.size) { s with heap := h' } := fun its r' hz h' c' kp e =>
    ⟨.ref s.heap.objs.size, _, I.laid (t' := s.toks) kp (Nat.le_refl _) (show ObjOk X.prog X.w _ h' _ (.lst ys) from ⟨hz, its, c', r', e⟩), rfl, q _ (I.hok.fresh (Nat.le_refl _))⟩
  rcases hq with hq | hq
  · obtain ⟨its, r', pl, hz⟩ := I.list hq
    have hlen := r'.length
    obtain ⟨o, ho, hc, n, hd⟩ := pl.isList
    exact call_list_seq p (.inl rfl) ho hc hd (fun h' c' kp e => fin its r' hz h' c' kp e) (by simp only [List.size_toArray] <;> omega)
  · obtain ⟨its, r', pl, hz⟩ := I.tuple hq
    have hlen := r'.length
    obtain ⟨o, ho, hc, n, hd⟩ := pl
    exact call_list_seq p (.inr rfl) ho hc hd (fun h' c' kp e => fin its r' hz h' c' kp e) (by simp only [List.size_toArray] <;> omega)
def tyV (K : PySem.W.Frag) (T : String) (x : V) (H : Hp) : Prop := match x with
  | .str _ => T = "str"
  | .int _ => T = "int"
  | .ref p => (T = "list" ∧ ∃ xs, SqL K H p xs) ∨ (T = "tuple" ∧ ∃ o, K.lookup p = some o ∧ o.cls = .type "tuple" ∧ o.dict = none) ∨
      (T = "dict" ∧ ((∃ kvs, H p = some (.dK kvs)) ∨ ∃ kvs, H p = some (.dT kvs))) ∨ (T = "set" ∧ ∃ S n, H p = some (.set S n))
  | _ => False
theorem tyV_is {pins : List (Addr × Obj)} {σ : St} {H : Hp} {s : Shared} {T : String} {x : V} {v : Value} (I : Inv X pins σ H s) (r : RelV x v) (ty : tyV X.K T x H) :
    s.TypeIs v T ∧ ∀ a, v = .ref a → ∃ ob, s.heap.get? a = some ob ∧ ob.dict = none := by
  cases x with
  | str z =>
    obtain ⟨t, rfl⟩ := r
    cases (show T = "str" from ty)
    exact ⟨typeIs_str s z t, fun _ e => nomatch e⟩
  | int i =>
    obtain ⟨t, rfl⟩ := r
    cases (show T = "int" from ty)
    exact ⟨typeIs_int s i t, fun _ e => nomatch e⟩
  | ref p =>
    cases r
    rcases ty with ⟨rfl, xs, hq⟩ | ⟨rfl, o, hk, hc, hd⟩ | ⟨rfl, hk⟩ | ⟨rfl, S, n, hk⟩
    · obtain ⟨its, _, pl, _⟩ := I.list hq
      refine ⟨pl.isList.typeIs, fun a e => ?_⟩
      cases e
      obtain ⟨o, n, e, c, hd, _⟩ := pl
      exact ⟨o, e, hd⟩
    · refine ⟨⟨o, I.kIn p o hk, hc⟩, fun a e => ?_⟩
      cases e
      exact ⟨o, I.kIn _ o hk, hd⟩
    · have z : ∃ o, s.heap.get? p = some o ∧ o.ExactDict := by
        rcases hk with ⟨kvs, hk⟩ | ⟨kvs, hk⟩
        · obtain ⟨_, _, _, _, o, _, _, e, ex, _⟩ := I.hok p _ hk
          exact ⟨o, e, ex⟩
        · obtain ⟨_, _, _, _, o, _, _, e, ex, _⟩ := I.hok p _ hk
          exact ⟨o, e, ex⟩
      obtain ⟨o, e, ex⟩ := z
      refine ⟨⟨o, e, ex.1⟩, fun a e2 => ?_⟩
      cases e2
      exact ⟨o, e, ex.2.1⟩
    · obtain ⟨o, _, _, _, e, ex, _⟩ := I.hok p _ hk
      refine ⟨⟨o, e, ex.1⟩, fun a e2 => ?_⟩
      cases e2
      exact ⟨o, e, ex.2.1⟩
  | _ => exact False.elim ty
def tBM0 (K : PySem.W.Frag) (T : String) (r : V → List V → Hp → VK → Prop) (to : TE) : TE := fun σ H Q => to σ H fun x H1 => tyV K T x H1 ∧ r x [] H1 Q
def tBM (K : PySem.W.Frag) (T : String) (r : V → List V → Hp → VK → Prop) (to : TE) (t : TA) : TE := fun σ H Q => to σ H fun x H1 => tyV K T x H1 ∧ t σ H1 fun xs H2 => r x xs H2 Q
variable {o e : Expr} {es : List Expr} {to : TE} {t : TA} {name : Str} {apos cpos : Pos} {T id : String} {r : V → List V → Hp → VK → Prop}
theorem pe_bm (pa : PlainAttrs T) (slot : Slot T name id) (hty : typeOf (.builtin id) = pure (.type "method_descriptor")) (hm : MtR X id r) (ho : PE X o to) (ha : PA X (e :: es) t)
    (hbase : attributeBase o name X.env (eval o X.env) = eval o X.env := by rfl)
    (hfew : ((backTo cpos (starEach (e :: es) X.env)).all (fun x => !x.1) && (backToKw cpos (keywordEach [] X.env)).all (fun x => x.1.isSome)
      && decide ((e :: es).length + ([] : List Keyword).length + (if ([] : List Keyword).isEmpty then 0 else 1) < 30)) = true := by rfl)
    (hline : (apos.endLine == cpos.line) = true := by rfl) (hs : starEach (e :: es) X.env = (false, eval e X.env) :: starEach es X.env := by rfl) (hplain : (backTo cpos (starEach es X.env)).any (·.1) = false := by rfl) :
    PE X (.Call (.Attribute o name apos) (e :: es) [] cpos) (tBM X.K T r to t) := by
  intro pins s σ H Q I h
  refine wpAny_Call_method_late hbase hfew hline rfl (thn (ho pins s σ H _ I h) fun v s1 ⟨x, H1, I1, r1, ty, q1⟩ => ?_)
  obtain ⟨h1, h2⟩ := tyV_is I1 r1 ty
  refine ⟨T, id, pa, slot, hty, h1, h2, ?_⟩
  have hA := ha cpos pins s1 σ H1 _ I1 q1
  rw [hs] at hA ⊢
  refine Calls.callWith_builtin (by show (false || (backTo cpos (starEach es X.env)).any (·.1)) = false; rw [hplain] <;> rfl) (Calls.evalArgs_plain ?_)
  exact thn hA fun us s2 ⟨vs, H2, I2, r2, q2⟩ => hm pins s2 σ H2 x vs v us Q I2 r1 r2 q2
end
end L2
namespace L2
open PySem PySem.Spec PyProof.Rows
def MtM (X : Cx) (id : String) (r : V → List V → Hp → VK → Prop) : Prop :=
  ∀ (pins : List (Addr × Obj)) (s : Shared) (σ : St) (H : Hp) (x : V) (xs : List V) (v : Value) (us : List Value) (Q : VK), Inv X pins σ H s → RelV x v → Vals xs us → r x xs H Q →
    wpAny (model X.prog X.w) X.A (call (.builtin id) (v :: us)) (EP X pins σ Q) X.xe s
theorem Vals.one : ∀ {x : V} {us : List Value}, Vals [x] us → ∃ u, us = [u] ∧ RelV x u
  | _, _, .cons r .nil => ⟨_, rfl, r⟩
theorem Vals.two : ∀ {x y : V} {us : List Value}, Vals [x, y] us → ∃ u v, us = [u, v] ∧ RelV x u ∧ RelV y v
  | _, _, _, .cons r (.cons q .nil) => ⟨_, _, rfl, r, q⟩
theorem Vals.rep {xs : List V} {us : List Value} (h : Vals xs us) : ∀ k : Nat, Vals (List.replicate k xs).flatten (List.replicate k us).flatten
  | 0 => .nil
  | k + 1 => by
    rw [List.replicate_succ, List.replicate_succ, List.flatten_cons, List.flatten_cons]
    exact Vals.append h (Vals.rep h k)
theorem foldl_rep (its : List Value) : ∀ (k : Nat) (acc : List Value),
    List.foldl (fun x1 x2 => x1 ++ x2) acc.toArray (List.replicate k its.toArray) = (acc ++ (List.replicate k its).flatten).toArray
  | 0, acc => by simp
  | k + 1, acc => by
    have e : acc.toArray ++ its.toArray = (acc ++ its).toArray := by simp
    have e2 : (acc ++ its) ++ (List.replicate k its).flatten = acc ++ (List.replicate (k + 1) its).flatten := by
      rw [List.replicate_succ, List.flatten_cons, List.append_assoc]
    rw [← e2, ← foldl_rep its k (acc ++ its), ← e, List.replicate_succ, List.foldl_cons]
section
variable {X : Cx} {pins : List (Addr × Obj)} {σ : St} {H : Hp} {s : Shared} {l b : Addr} {xs ys zs : List V}
theorem Inv.lset {its its' : List Value} {n : Nat} {f : Array Value → Array Value} {t' : Nat} (I : Inv X pins σ H s) (hH : H l = some (.lst xs))
    (e : s.heap.get? l = some { cls := .type "list", data := .seq its.toArray n }) (hf : f its.toArray = its'.toArray) (hv : Vals ys its') (hz : ys.length ≤ sizeLine) :
    Inv X pins σ (upd H l (.lst ys)) { s with heap := s.heap.update l (Obj.mapSeq f), toks := t' } := by
  have q := PySem.IsL.update e f
  rw [hf] at q
  refine I.write (x := l) (e := l) (by rw [hH]; exact trivial) (.inl rfl) (fun b' u hb hu => (Heap.get?_update_other s.heap (Obj.mapSeq f) (Ne.symm hb)).trans hu) ⟨_, q⟩ ?_
  exact ⟨hz, its', _, hv, q⟩
theorem Inv.lnew {its : List Value} {t' : Nat} (I : Inv X pins σ H s) (hv : Vals ys its) (hz : ys.length ≤ sizeLine) :
    Inv X pins σ (upd H s.heap.objs.size (.lst ys)) { s with heap := s.heap.push { cls := .type "list", data := .seq its.toArray }, toks := t' } :=
  I.laid (fun _ _ q => Heap.get?_push_of_some _ q) (Nat.le_refl _) ⟨hz, its, 0, hv, Heap.get?_push_size _ rfl⟩
theorem Inv.fresh (I : Inv X pins σ H s) : H s.heap.objs.size = none := I.hok.fresh (Nat.le_refl _)
theorem Inv.lstM (I : Inv X pins σ H s) (hH : H l = some (.lst xs)) : xs.length ≤ sizeLine ∧ ∃ (its : List Value) (n : Nat), Vals xs its ∧ xs.length = its.length ∧ s.heap.get? l = some { cls := .type "list", data := .seq its.toArray n } := by
  obtain ⟨z, its, n, r, e⟩ := I.hok l _ hH
  exact ⟨z, its, n, r, r.length, e⟩
theorem notLongL {n : Nat} (h : n ≤ sizeLine) : Builtin.List.listTooLong n = false := by
  unfold Builtin.List.listTooLong
  exact decide_eq_false (by omega)
end
section
variable {X : Cx}
def rAppend : V → List V → Hp → VK → Prop := fun x vs H Q => ∃ l xs y, x = .ref l ∧ vs = [y] ∧ H l = some (.lst xs) ∧ xs.length < sizeLine ∧ Q .non (upd H l (.lst (xs ++ [y])))
theorem mt_append : MtM X "list.append" rAppend := by
  intro pins s σ H x vs v us Q I rx rv h
  obtain ⟨l, xs, y, rfl, rfl, hH, hz, q⟩ := h
  cases rx
  obtain ⟨u, rfl, ru⟩ := rv.one
  obtain ⟨z, its, n, r, hl, e⟩ := I.lstM hH
  refine call_meets F.slot_list_append ⟨_, e, rfl⟩ F.entry_list_append (F.args_list_append_2 _ _) (PySem.list_append l its.toArray n u (by rw [List.size_toArray]; omega)) ⟨e, ?_⟩
  refine ⟨.non, _, I.lset (its' := its ++ [u]) hH e (by simp) (r.append (.cons ru .nil)) ?_, rfl, q⟩
  rw [List.length_append, List.length_singleton]
  omega
def rExtend : V → List V → Hp → VK → Prop := fun x vs H Q => ∃ l b xs zs, x = .ref l ∧ vs = [.ref b] ∧ H l = some (.lst xs) ∧ H b = some (.lst zs) ∧ xs.length + zs.length ≤ sizeLine ∧ Q .non (upd H l (.lst (xs ++ zs)))
theorem mt_extend : MtM X "list.extend" rExtend := by
  intro pins s σ H x vs v us Q I rx rv h
  obtain ⟨l, b, xs, zs, rfl, rfl, hH, hB, hz, q⟩ := h
  cases rx
  obtain ⟨u, rfl, ru⟩ := rv.one
  cases ru
  obtain ⟨z, its, n, r, hl, e⟩ := I.lstM hH
  obtain ⟨z2, its2, n2, r2, hl2, e2⟩ := I.lstM hB
  have hsz : its.toArray.size + its2.toArray.size ≤ sizeLine := by rw [List.size_toArray, List.size_toArray]; omega
  have hlong : ¬ (!its.toArray.isEmpty && Builtin.List.listTooLong (its.toArray.size + its2.toArray.size)) = true := by
    rw [notLongL hsz, Bool.and_false]
    exact Bool.false_ne_true
  refine call_meets F.slot_list_extend ⟨_, e, rfl⟩ F.entry_list_extend (F.args_list_extend_2 _ _)
    (AutoSeq1.list_extend_list_list_0 l its.toArray n b its2.toArray n2 hlong (by rw [List.size_toArray]; omega) (by omega)) ⟨e, e2, ?_⟩
  refine ⟨.non, _, I.lset (its' := its ++ its2) hH e (by simp) (r.append r2) ?_, rfl, q⟩
  rw [List.length_append]
  omega
def rPop : V → List V → Hp → VK → Prop := fun x vs H Q => ∃ l xs y, x = .ref l ∧ vs = [] ∧ H l = some (.lst xs) ∧ xs[xs.length - 1]? = some y ∧ Q y (upd H l (.lst xs.dropLast))
def rPopAt : V → List V → Hp → VK → Prop := fun x vs H Q => ∃ l xs i k y, x = .ref l ∧ vs = [.int i] ∧ H l = some (.lst xs) ∧ -(2 ^ 63) ≤ i ∧ i < 2 ^ 63 ∧ seqIndex? i xs.length = some k ∧ xs[k]? = some y ∧ Q y (upd H l (.lst (xs.eraseIdx k)))
def rReverse : V → List V → Hp → VK → Prop := fun x vs H Q => ∃ l xs, x = .ref l ∧ vs = [] ∧ H l = some (.lst xs) ∧ Q .non (upd H l (.lst xs.reverse))
def rClear : V → List V → Hp → VK → Prop := fun x vs H Q => ∃ l xs, x = .ref l ∧ vs = [] ∧ H l = some (.lst xs) ∧ Q .non (upd H l (.lst []))
def rCat : R2 := fun x y H Q => ∃ l b xs zs, x = .ref l ∧ y = .ref b ∧ H l = some (.lst xs) ∧ H b = some (.lst zs) ∧ xs.length + zs.length ≤ sizeLine ∧ ∀ p, H p = none → Q (.ref p) (upd H p (.lst (xs ++ zs)))
theorem op_cat : OpR X (binaryOp .Add) rCat := by
  intro pins s σ H x y v u Q I rx ry h
  obtain ⟨l, b, xs, zs, rfl, rfl, hH, hB, hz, q⟩ := h
  cases rx
  cases ry
  obtain ⟨z, its, n, r, hl, e⟩ := I.lstM hH
  obtain ⟨z2, its2, n2, r2, hl2, e2⟩ := I.lstM hB
  refine PySem.P.add_list e e2 ?_ (by rw [List.size_toArray, List.size_toArray]; omega)
  have ea : its.toArray ++ its2.toArray = (its ++ its2).toArray := by simp
  rw [ea]
  exact ⟨.ref _, _, I.lnew (t' := s.toks) (r.append r2) (by rw [List.length_append]; omega), rfl, q _ I.fresh⟩
def rRep : R2 := fun x y H Q => ∃ l k xs, x = .ref l ∧ y = .int k ∧ H l = some (.lst xs) ∧ -(2 ^ 63) ≤ k ∧ k < 2 ^ 63 ∧ xs.length * k.toNat ≤ sizeLine ∧
  ∀ p, H p = none → Q (.ref p) (upd H p (.lst (List.replicate k.toNat xs).flatten))
theorem len_rep {α : Type} (xs : List α) (k : Nat) : (List.replicate k xs).flatten.length = k * xs.length := by
  induction k with
  | zero => simp
  | succ k ih => rw [List.replicate_succ, List.flatten_cons, List.length_append, ih, Nat.succ_mul, Nat.add_comm]
theorem op_rep : OpR X (binaryOp .Mult) rRep := by
  intro pins s σ H x y v u Q I rx ry h
  obtain ⟨l, k, xs, rfl, rfl, hH, h1, h2, hz, q⟩ := h
  cases rx
  obtain ⟨t, rfl⟩ := ry
  obtain ⟨z, its, n, r, hl, e⟩ := I.lstM hH
  have hlen : its.toArray.size * k.toNat ≤ sizeLine := by rw [List.size_toArray, ← hl]; exact hz
  have hcap : ¬ its.toArray.size * k.toNat > (2 ^ 63 - 1) / 8 := by
    have : (sizeLine : Nat) ≤ (2 ^ 63 - 1) / 8 := by decide
    omega
  have hfit : ¬ (!Builtin.List.listFitsIndex k) = true := by
    rw [fitsIndex_both h1 h2]
    exact Bool.false_ne_true
  have hlong : ¬ Builtin.List.listTooLong (its.toArray.size * k.toNat) = true := by
    rw [notLongL hlen]
    exact Bool.false_ne_true
  have hnew : List.foldl (fun x1 x2 => x1 ++ x2) #[] (List.replicate (if its.toArray.isEmpty = true then 0 else k.toNat) its.toArray) = (List.replicate k.toNat its).flatten.toArray := by
    have f0 : ∀ m : Nat, List.foldl (fun x1 x2 => x1 ++ x2) #[] (List.replicate m its.toArray) = (List.replicate m its).flatten.toArray := fun m => by
      have := foldl_rep its m []
      rw [List.nil_append] at this
      exact this
    rw [f0]
    cases its with
    | nil => simp
    | cons a r' => rw [if_neg (by simp)]
  refine wpAny_binaryOp_repeat_ref (T := "list") (U := "int") (by decide) ⟨_, e, rfl⟩ (fun s' => typeIs_int s' k t) noFill_list_mul F.fills_int_mul F.slot_int_rmul repeat_list F.slot_int_index.lookup
    (call_meets F.slot_int_rmul (typeIs_int s k t) F.entry_int_rmul (F.args_int_rmul_2 _ _) (int___rmul___int_list k t l its.toArray n)
      ⟨e, rfl, ⟨_, e, rfl⟩, call_meets F.slot_list_mul ⟨_, e, rfl⟩ F.entry_list_mul (F.args_list_mul_2 _ _) (AutoListH.list___mul___list_int_3 l its.toArray n k t hfit hcap hlong) ⟨e, ?_⟩⟩)
  rw [hnew]
  exact ⟨.ref _, _, I.lnew (t' := s.toks) (r.rep k.toNat) (by rw [len_rep, Nat.mul_comm]; exact hz), rfl, q _ I.fresh⟩
end
section
variable {prog : Program} {w : World} {A : Around} {E : Value → Shared → Prop} {s : Shared}
end
section
variable {X : Cx}
end
end L2
namespace Att
open PySem PySem.W PySem.Calls PyProof.Rows
theorem ints_of_wellAll {P : Params} {h : Heap} : ∀ (ns : List Int) (vs : List Value), WellAll P h vs (ns.map WData.int) → IntsAre vs ns := by
  intro ns
  induction ns with
  | nil =>
    intro vs w
    rw [List.map_nil] at w
    cases w
    exact .nil
  | cons n ns ih =>
    intro vs w
    rw [List.map_cons] at w
    cases w with
    | cons a b =>
      cases a
      exact .cons _ _ (ih _ b)
theorem script_of {l : OpenLaw} {n : Nat} (hn : l.most = some n) {P : Params} {h : Heap} {args : List WData} {vals : List Value}
    (hpre : l.row.toRowW.claim.pre args = true) (hwl : WellAll P h vals args) :
    ∃ a vs ns, vals = [Value.ref a] ∧ args = [WData.list (ns.map WData.int)] ∧ h.get? a = some { cls := .type "list", data := .seq vs.toArray } ∧ IntsAre vs ns ∧ ns.length ≤ n := by
  have hsh : WShape.hasAll [] args [.list .int] = true := (pre_splitW hpre).1
  have hc : l.pre.holds [] { args := args } = true := (pre_splitW hpre).2
  obtain ⟨d, r, rfl, h1, h2⟩ := hasAllW_cons hsh
  obtain rfl := hasAllW_nil h2
  obtain ⟨xs, rfl, h3⟩ := hasW_list h1
  obtain ⟨ns, rfl⟩ := items_int h3
  have hlen : ns.length ≤ n := by
    unfold OpenLaw.pre at hc
    have h4 : (WTm.not (.lt (.lit (.int (n : Int))) (.len (.arg 0)))).holds [] { args := [.list (ns.map .int)] } = true := by
      have h4 := (holds_andW hc).1
      rw [hn] at h4
      exact h4
    have h5 := condW_of h4 (w_not (w_lt w_lit (w_len_list (w_arg rfl))))
    rw [List.length_map] at h5
    refine Nat.le_of_not_lt fun q => ?_
    have q' : (n : Int) < ((ns.length : Nat) : Int) := by omega
    first
      | (rw [decide_eq_true q'] at h5; exact absurd h5 (by decide))
      | (simp at h5; omega)
  cases hwl with
  | cons w1 w2 =>
    cases w2
    cases w1 with
    | list ho hall => exact ⟨_, _, ns, rfl, rfl, ho, ints_of_wellAll ns _ hall, hlen⟩
theorem post_true (l : OpenLaw) (args : List WData) : l.row.toRowW.claim.post args (.bool true) args = true :=
  postW_of (r := l.row.toRowW) (X := (true == true))
    (show WShape.has [] (.bool true) .bool = true by first | rfl | decide | simp [WShape.has, WShape.arms, WShape.armsAll])
    (show (WTm.eq .res (.lit (.bool true))).value [] { args := args, res := some (.bool true), after := args } = some (.bool (true == true)) from w_eq_bool (w_res rfl) w_lit) rfl
theorem attach_call {l : OpenLaw} {n : Nat} {q : Program} {loose : List Str} {XP : (Str → Option Value) → Heap → Prop} {YP : World → Heap → Prop} {d : DefRec}
    (hn : l.most = some n) (hdf : d.params.defaults = [])
    (call : ∀ (w : World) (s₀ s₁ : Shared) (mg mb : Str → Option Value) (fa : Addr) (o : Obj) (pm cd doc : Value) (a : Addr) (vs : List Value) (ns : List Int),
      Ground q loose [] XP w s₀ mg mb s₁.heap → YP w s₁.heap →
      s₁.heap.get? fa = some o → o.data = .func (docDef d.name d.params d.body d.scope pm cd doc) → s₁.heap.CodeRec cd d.name → mg d.name = some (.ref fa) →
      s₁.heap.get? a = some { cls := .type "list", data := .seq vs.toArray } → IntsAre vs ns → ns.length ≤ n → s₁.gens = #[] →
      codeAny (model l.prog w) callerA (.call (.ref fa) ⟨[.ref a], []⟩) (fun r s' => r = .ok (.ret (.bool true)) ∧ OldK s₁.heap s'.heap ∧ s'.os = s₁.os ∧ AllBare s'.gens) s₁) :
    WalkO q loose XP YP l.row.toRowW d [] (fun f vs => PySem.call f vs) := by
  intro w s₀ s₁ mg mb G Y fa o pm cd doc dV kV ho hd hcd hD hmg hg args vals as hpre hlay hrd hwl hlo
  obtain rfl : dV = .none := Dflts.none hD hdf
  obtain rfl : kV = .none := Dflts.noKw hD
  obtain ⟨a, vs, ns, rfl, rfl, hobj, hints, hlen⟩ := script_of hn hpre hwl
  refine enter_call (codeAny_mono (call w s₀ s₁ mg mb fa o pm cd doc a vs ns G Y ho (fd_plain hd) hcd hmg hobj hints hlen hg) fun r s' hq => ?_)
  obtain ⟨rfl, h2, h3, h4⟩ := hq
  exact ⟨.inl ⟨.bool true, .bool true, [], rfl, fun _ => rfl, .bool true, post_true l _, fun _ => ⟨List.Pairwise.nil, fun _ hm => (nomatch hm)⟩⟩, h2, h3, h4⟩
section
variable {prog : Program} {w : World} {A : Around} {E : Value → Shared → Prop} {s : Shared} {K : Frag}
def noObjs (h : Heap) : Heap := { h with objs := #[] }
def ledger (h : Heap) (L d : Addr) : List (Addr × Obj) := (List.range h.objs.size).filterMap fun a => if a = L ∨ a = d then none else (h.get? a).map fun o => (a, o)
end
end Att
namespace L2
open PySem PySem.Spec PyProof.Rows
theorem vals_ints : ∀ {vs : List Value} {ns : List Int}, IntsAre vs ns → Vals (ns.map V.int) vs
  | _, _, .nil => .nil
  | _, _, .cons n t h => .cons ⟨t, rfl⟩ (vals_ints h)
def Only (H : Hp) : Prop := ∀ b, H b = none ∨ ∃ o xs, H b = some (.frz o (.lst xs))
theorem law_call {P : Program} {w : World} {K : PySem.W.Frag} {mg mb : Str → Option Value} {CX : CXT} {k : Nat} {fa a : Addr} {fd : FuncData} {x : Str} {sp : Sp} {s₁ : Shared} {vs : List Value} {ns : List Int}
    (KX : K.In s₁.heap) (hns : s₁.heap.Ns mainGlobals mg) (hb : s₁.heap.Ns builtinsNs mb) (hbb : ∀ x : Str, x ≠ "__name__" → mb x = bootBuiltins x) (hlim : s₁.heap.NoLimit) (hg : s₁.gens = #[])
    (ha : s₁.heap.get? a = some { cls := .type "list", data := .seq vs.toArray }) (hi : IntsAre vs ns) (hl : ns.length ≤ sizeLine) (hr : Room k callerA)
    (F : ∀ base : Heap, K.In base → base.Ns mainGlobals mg → FnOk P w K mg base CX k fa fd [x] sp) (hbind : ∀ (s : Shared) (u : Value), BindsTo s fd ⟨[u], []⟩ [(x, u)])
    (hsp : ∀ H : Hp, Only H → SqL K H a (ns.map V.int) → sp [.ref a] H (fun v _ => v = .bl true) fun _ _ _ => False)
    (hCX : ∀ H e s', CX [] H s₁ (fun _ _ _ => False) e s' → False) :
    codeAny (model P w) callerA (.call (.ref fa) ⟨[.ref a], []⟩) (fun r s' => r = .ok (.ret (.bool true)) ∧ OldK s₁.heap s'.heap ∧ s'.os = s₁.os ∧ AllBare s'.gens) s₁ := by
  have rv := vals_ints hi
  have lenV := hi.length
  have core : ∀ H : Hp, Only H → SqL K H a (ns.map V.int) → HOk P w H s₁.heap → (∀ b, H b ≠ none → b = a) → (H a ≠ none → K.lookup a = none) →
      codeAny (model P w) callerA (.call (.ref fa) ⟨[.ref a], []⟩) (fun r s' => r = .ok (.ret (.bool true)) ∧ OldK s₁.heap s'.heap ∧ s'.os = s₁.os ∧ AllBare s'.gens) s₁ := by
    intro H hO hS hok hA hK
    have base_of : ∀ {b : Addr} {o : Obj}, s₁.heap.get? b = some o → H b = none → (hidT s₁.heap H).get? b = some o := fun e n => hidT_get e n
    have noA : ∀ {b : Addr} {o : Obj} {es : Array DictEntry} {ep : Nat}, s₁.heap.get? b = some o → o.data = .dict es ep → H b = none := fun {b o es ep} e d => by
      cases q : H b with
      | none => rfl
      | some u =>
        have e' : b = a := hA b (by rw [q]; simp)
        subst e'
        rw [ha] at e; cases e
        have d' : Data.seq vs.toArray _ = Data.dict es ep := d
        cases d'
    have nsK : ∀ {b : Addr} {m : Str → Option Value}, s₁.heap.Ns b m → (hidT s₁.heap H).Ns b m := fun {b m} ⟨o, es, ep, e, d, r⟩ => ⟨o, es, ep, base_of e (noA e d), d, r⟩
    have hKb : K.In (hidT s₁.heap H) := fun b o e => base_of (KX b o e) (by
      cases q : H b with
      | none => rfl
      | some u =>
        have e' : b = a := hA b (by rw [q]; simp)
        subst e'
        rw [hK (by rw [q]; simp)] at e; cases e)
    have hM : Mod K mg (hidT s₁.heap H) := ⟨hKb, nsK hns, ⟨mb, nsK hb, hbb⟩, let ⟨mc, h1, h2⟩ := hlim; ⟨mc, nsK h1, h2⟩⟩
    have e0 : Env0 P w K mg (hidT s₁.heap H) callerA [] s₁ H := ⟨rfl, hM, fun b o e => of_hidT e, Nat.le_of_eq (hidT_size _ _), trivial, fun b hb => absurd (show b ∈ ([] : List Addr) from hb) (by simp), hok, .of_eq hg⟩
    refine codeAny_mono ((F _ hKb (nsK hns)).run callerA [] s₁ H ⟨[.ref a], []⟩ [.ref a] [.ref a] _ _ hr e0 (hbind s₁ (.ref a)) (.cons rfl .nil) (hsp H hO hS)) fun r s' h => ?_
    cases r with
    | error e => exact (hCX H e s' h).elim
    | ok fl =>
      cases fl with
      | next => exact False.elim h
      | brk => exact False.elim h
      | cont => exact False.elim h
      | ret u =>
        obtain ⟨v, H', os, bare, un, hok', r', q⟩ := h
        have q' : v = .bl true := q
        subst q'
        obtain rfl : u = Value.bool true := r'
        refine ⟨rfl, OldK.of_keep fun b o e => ?_, os, bare⟩
        cases q : H b with
        | none => exact un.keep b o e q (by intro z; exact absurd (show b ∈ ([] : List Addr) from z) (by simp)) (by simp)
        | some u =>
          rcases hO b with z | ⟨ob, xs, z⟩
          · rw [q] at z; cases z
          · have z2 := un.frzs b ob _ z
            obtain ⟨e1, _⟩ := hok b _ z
            obtain ⟨e2, _⟩ := hok' b _ z2
            rw [e] at e1; cases e1
            exact e2
  cases hk : K.lookup a with
  | some o =>
    have e := KX a o hk
    rw [ha] at e
    cases e
    refine core (fun _ => none) (fun _ => .inl rfl) (.inr ⟨_, vs.toArray, _, hk, rfl, rfl, rfl, by rw [List.size_toArray, lenV]; exact hl, by simpa using rv⟩) (fun b u z => by have z' : (none : Option HO) = some u := z; cases z') (fun b z => absurd rfl z) fun z => absurd rfl z
  | none =>
    refine core (fun b => if b = a then some (.frz { cls := .type "list", data := .seq vs.toArray } (.lst (ns.map V.int))) else none) (fun b => ?_) (.inl (.inr ⟨{ cls := .type "list", data := .seq vs.toArray }, if_pos rfl⟩)) (fun b u z => ?_) (fun b z => ?_) fun _ => hk
    · by_cases hb : b = a
      · exact .inr ⟨_, _, if_pos hb⟩
      · exact .inl (if_neg hb)
    · by_cases hb : b = a
      · have z' := (if_pos hb).symm.trans z
        cases z'
        subst hb
        exact ⟨ha, by rw [List.length_map]; exact hl, vs, _, rv, ha⟩
      · have z' := (if_neg hb).symm.trans z
        cases z'
    · by_cases hb : b = a
      · exact hb
      · exact absurd (if_neg hb) z
end L2
namespace L2
open PySem PySem.Spec PyProof.Rows
abbrev KOf {K : PySem.W.Frag} {h : Heap} (_ : K.In h) : PySem.W.Frag := K
theorem walk_of {l : PySem.W.OpenLaw} {n k : Nat} {q : Program} {loose : List Str} {XP : (Str → Option Value) → Heap → Prop} {YP : World → Heap → Prop} {d : DefRec} {K : Params → PySem.W.Frag} {CX : World → CXT} {sp : World → Sp} {x : Str}
    (hn : l.most = some n) (hn2 : n ≤ sizeLine) (hdf : d.params.defaults = []) (hr : Room k callerA)
    (hY : ∀ (w : World) (h : Heap), YP w h → (K w.params).In h)
    (F : ∀ (w : World) (mg : Str → Option Value) (fa : Addr) (h : Heap), (K w.params).In h → h.Ns mainGlobals mg → mg d.name = some (.ref fa) →
      ∃ fd : FuncData, (∀ (s : Shared) (u : Value), BindsTo s fd ⟨[u], []⟩ [(x, u)]) ∧
        ∀ base : Heap, (K w.params).In base → base.Ns mainGlobals mg → FnOk l.prog w (K w.params) mg base (CX w) k fa fd [x] (sp w))
    (hsp : ∀ (w : World) (H : Hp) (a : Addr) (ns : List Int), ns.length ≤ n → Only H → SqL (K w.params) H a (ns.map V.int) → sp w [.ref a] H (fun v _ => v = .bl true) fun _ _ _ => False)
    (hCX : ∀ (w : World) (H : Hp) (s : Shared) (e : Value) (s' : Shared), CX w [] H s (fun _ _ _ => False) e s' → False) :
    PySem.W.WalkO q loose XP YP l.row.toRowW d [] (fun f vs => PySem.call f vs) := by
  refine Att.attach_call hn hdf fun w s₀ s₁ mg mb fa o pm cd doc a vs ns G Y ho hd hcd hmg hobj hints hlen hg => ?_
  have KX := hY w _ Y
  obtain ⟨fd, hb, hF⟩ := F w mg fa _ KX G.T.g hmg
  exact law_call KX G.T.g G.T.b G.T.builtins G.T.nolimit hg hobj hints (Nat.le_trans hlen hn2) hr hF hb (fun H hO hS => hsp w H a ns hlen hO hS) fun H e s' => hCX w H s₁ e s'
end L2
namespace L2
open PySem PySem.Spec PyProof.Rows
def inClass (s : Stmt) (j : Nat) : Stmt := match s with
  | .ClassDef _ _ _ body _ _ _ _ _ _ _ => body.getD j (.Pass ⟨0, 0, 0, 0⟩)
  | _ => .Pass ⟨0, 0, 0, 0⟩
def defArgs (s : Stmt) : Arguments := match s with
  | .FunctionDef _ a _ _ _ _ _ _ _ _ => a
  | _ => { posonlyargs := [], args := [], vararg := none, kwonlyargs := [], kw_defaults := [], kwarg := none, defaults := [] }
def defBody (s : Stmt) : List Stmt := match s with
  | .FunctionDef _ _ b _ _ _ _ _ _ _ => b
  | _ => []
def defScope (s : Stmt) : Scope := match s with
  | .FunctionDef _ _ _ _ _ _ sc _ _ _ => sc
  | _ => { kind := .function, names := [], isGenerator := false, isCoroutine := false }
abbrev CX0 : CXT := fun _ _ _ _ _ _ => False
abbrev E0 : XK := fun _ _ _ => False
theorem pass0 {X : Cx} : Passes CX0 X E0 := fun _ _ _ _ _ _ _ h => h.elim
structure Fun (K : PySem.W.Frag) (x qual : Str) (st : Stmt) (f : Addr) (fd : FuncData) : Prop where
  ex : ∃ (oc : Value) (od : Option Addr) (kV doc pm : Value) (an : Option Addr) (cdv ct : Value) (osl : Array (Option Value)),
    fd = PySem.W.fnOf x qual (defArgs st) (defBody st) (defScope st) .none kV doc pm an cdv ct ∧ K.lookup f = some ⟨oc, od, .func fd, osl⟩ ∧ PySem.W.codeIn K cdv qual = true
  kp : PySem.W.keepIn K (.ref f) = true
section
variable {P : Program} {w : World} {K : PySem.W.Frag} {mg : Str → Option Value} {base : Heap}
theorem Fun.ok {x qual : Str} {st : Stmt} {f : Addr} {fd : FuncData} {N ps : List Str} {k : Nat} {sp : Sp} (F : Fun K x qual st f fd) (S : FnScope N ps (defScope st)) (len : ∀ vs H Q E, sp vs H Q E → vs.length = ps.length)
    (hbody : ∀ (cdv : Value) (A : Around) (outer : List Env) (s : Shared) (H : Hp) (vs : List V) (Q : VK) (E : XK), Room k (A.deeper (envOfC qual (defScope st) s.heap.objs.size f cdv)) → sp vs H Q E →
      ∃ t, PSs (cxOf CX0 P w K mg base N qual (defScope st) f cdv A outer s H E).nox (defBody st) t ∧ t { nx := fun _ H' => Q .non H', rt := Q } (start N vs) H) : FnOk P w K mg base CX0 (k + 1) f fd ps sp := by
  obtain ⟨oc, od, kV, doc, pm, an, cdv, ct, osl, rfl, lk, hcd⟩ := F.ex
  refine fn_of lk hcd S len fun A outer s H vs Q E hr hsp => ?_
  obtain ⟨t, h, q⟩ := hbody cdv A outer s H vs Q E hr hsp
  exact ⟨t, h.nox, q⟩
theorem Fun.binds {x qual : Str} {st : Stmt} {f : Addr} {fd : FuncData} {ps : List Str} (F : Fun K x qual st f fd)
    (h : ∀ (kV doc pm : Value) (an : Option Addr) (cdv ct : Value) (us : List Value), us.length = ps.length → bindArgs (PySem.W.fnOf x qual (defArgs st) (defBody st) (defScope st) .none kV doc pm an cdv ct) ⟨us, []⟩ = pure (ps.zip us)) : Binds K fd ps [] := by
  obtain ⟨oc, od, kV, doc, pm, an, cdv, ct, osl, rfl, lk, hcd⟩ := F.ex
  exact .all (h kV doc pm an cdv ct)
theorem fun_mk {x qual : Str} {st : Stmt} {f : Addr} {oc : Value} {od an : Option Addr} {osl : Array (Option Value)} {kV doc pm cdv ct : Value} (l : K.lookup f = some ⟨oc, od, .func (PySem.W.fnOf x qual (defArgs st) (defBody st) (defScope st) .none kV doc pm an cdv ct), osl⟩)
    (c : PySem.W.codeIn K cdv qual = true) (k : PySem.W.keepIn K (.ref f) = true) : Fun K x qual st f (PySem.W.fnOf x qual (defArgs st) (defBody st) (defScope st) .none kV doc pm an cdv ct) := ⟨⟨oc, od, kV, doc, pm, an, cdv, ct, osl, rfl, l, c⟩, k⟩
end
theorem hu_of {A : Around} {k : Nat} (hr : Room k A) : A.units + 1 < cLine := Nat.lt_of_le_of_lt (Nat.add_le_add_left (by decide : 1 ≤ 64) _) hr.units
section
variable {X : Cx}
theorem pv (i : Nat) {x : Str} {pos : Pos} (hN : X.N[i]? = some x := by rfl) (hv : Vis X.env.scope x := by first | exact Or.inl rfl | exact Or.inr (Or.inl rfl) | exact Or.inr (Or.inr rfl)) (hd : (x == ("__debug__" : Str)) = false := by decide)
    (hcd : (x == ("__classdict__" : Str)) = false := by decide) : PE X (.Name x pos) (tVar i) := pe_var hN hv hd hcd
end
theorem iteF {A B : Prop} (h : B) : if false = true then A else B := by
  rw [if_neg Bool.false_ne_true]
  exact h
theorem iteT {A B : Prop} (h : A) : if true = true then A else B := by
  rw [if_pos rfl]
  exact h
theorem iteNS {c A B : Prop} [Decidable c] (hc : c) (h : B) : if (!decide c) = true then A else B := by
  rw [decide_eq_true hc]
  exact iteF h
def Same (H H' : Hp) : Prop := ∀ b o, H b = some o → H' b = some o
theorem Same.refl (H : Hp) : Same H H := fun _ _ h => h
theorem Same.trans {H H1 H2 : Hp} (a : Same H H1) (b : Same H1 H2) : Same H H2 := fun c o h => b c o (a c o h)
theorem Same.free {H H' : Hp} (e : Same H H') {l : Addr} (h : H' l = Option.none) : H l = Option.none := by
  cases q : H l with
  | none => rfl
  | some o =>
    rw [e l o q] at h
    cases h
theorem Same.seq {K : PySem.W.Frag} {H H' : Hp} {a : Addr} {xs : List V} (e : Same H H') (h : SqL K H a xs) : SqL K H' a xs := by
  rcases h with (h | ⟨o, h⟩) | h
  · exact .inl (.inl (e _ _ h))
  · exact .inl (.inr ⟨o, e _ _ h⟩)
  · exact .inr h
end L2
set_option Elab.async false
set_option linter.all false
set_option maxRecDepth 100000
namespace L2
open PySem PySem.Spec PyProof.Rows
theorem closure_is {scope : Scope} {env : Env} (h : ∀ y ∈ scope.names, y.2 = .free → ∃ c, env.cells.lookup y.1 = some c) :
    ∃ cl, closureFor scope env = pure cl ∧ (∀ x c, cl.lookup x = some c → env.cells.lookup x = some c ∧ (x, NameKind.free) ∈ scope.names) ∧
      ∀ x, (x, NameKind.free) ∈ scope.names → cl.lookup x = env.cells.lookup x := by
  have key : ∀ (l : List (Str × NameKind)) (cs : List (Str × Addr)), (∀ y ∈ l, y.2 = .free → ∃ c, env.cells.lookup y.1 = some c) →
      ∃ cl, (forIn l cs (fun (x : Str × NameKind) (cs : List (Str × Addr)) => do
          if x.2 == .free then
            let c ← cellOf env x.1
            pure (ForInStep.yield ((x.1, c) :: cs))
          else pure (ForInStep.yield cs)) : Sem (List (Str × Addr))) = pure cl ∧
        (∀ x c, cl.lookup x = some c → (env.cells.lookup x = some c ∧ (x, NameKind.free) ∈ l) ∨ cs.lookup x = some c) ∧
        ∀ x, ((x, NameKind.free) ∈ l → cl.lookup x = env.cells.lookup x) ∧ ((cs.lookup x = env.cells.lookup x) → cl.lookup x = env.cells.lookup x) := by
    intro l
    induction l with
    | nil => intro cs _; exact ⟨cs, rfl, fun x c e => .inr e, fun x => ⟨fun z => absurd z (by simp), fun z => z⟩⟩
    | cons y r ih =>
      intro cs hl
      obtain ⟨n, k⟩ := y
      by_cases hk : k = .free
      · subst hk
        obtain ⟨c, hc⟩ := hl (n, .free) List.mem_cons_self rfl
        obtain ⟨cl, e1, e2, e3⟩ := ih ((n, c) :: cs) fun y hy => hl y (List.mem_cons_of_mem _ hy)
        refine ⟨cl, ?_, fun x d e => ?_, fun x => ⟨fun z => ?_, fun z => ?_⟩⟩
        · rw [List.forIn_cons]
          simp only [beq_self_eq_true, if_true, cellOf, hc]
          exact e1
        · rcases e2 x d e with ⟨z1, z2⟩ | z
          · exact .inl ⟨z1, List.mem_cons_of_mem _ z2⟩
          · rw [List.lookup_cons] at z
            by_cases hx : x == n
            · rw [hx] at z
              have hx' : x = n := by simpa using hx
              subst hx'
              refine .inl ⟨?_, List.mem_cons_self⟩
              rw [hc]; exact z
            · have hx' : (x == n) = false := by simpa using hx
              rw [hx'] at z
              exact .inr z
        · rcases List.mem_cons.mp z with z | z
          · injection z with z1 _
            subst z1
            refine (e3 x).2 ?_
            rw [List.lookup_cons, hc]
            simp
          · exact (e3 x).1 z
        · by_cases hx : x = n
          · subst hx
            refine (e3 x).2 ?_
            rw [List.lookup_cons, hc]
            simp
          · refine (e3 x).2 ?_
            rw [List.lookup_cons]
            have hx' : (x == n) = false := by simpa using hx
            rw [hx']
            exact z
      · obtain ⟨cl, e1, e2, e3⟩ := ih cs fun y hy => hl y (List.mem_cons_of_mem _ hy)
        have hb : (k == NameKind.free) = false := by simpa using hk
        refine ⟨cl, ?_, fun x d e => ?_, fun x => ⟨fun z => ?_, (e3 x).2⟩⟩
        · rw [List.forIn_cons]
          simp only [hb, Bool.false_eq_true, if_false]
          exact e1
        · rcases e2 x d e with ⟨z1, z2⟩ | z
          · exact .inl ⟨z1, List.mem_cons_of_mem _ z2⟩
          · exact .inr z
        · rcases List.mem_cons.mp z with z | z
          · injection z with _ z2
            exact absurd z2.symm hk
          · exact (e3 x).1 z
  obtain ⟨cl, e1, e2, e3⟩ := key scope.names [] h
  refine ⟨cl, ?_, fun x c e => ?_, fun x z => (e3 x).1 z⟩
  · unfold closureFor
    have := e1
    simpa using this
  · rcases e2 x c e with z | z
    · exact z
    · simp at z
theorem lookup_relabel {env : Env} (hk : env.scope.kind = .function) : ∀ {names : List (Str × NameKind)} {x : Str} {k : NameKind}, names.lookup x = some k → k ≠ .free →
    (names.map fun (n, k) => if (k == NameKind.free && env.scope.kind == .function && env.kindOf n == some .cell) then (n, NameKind.cell) else (n, k)).lookup x = some k
  | [], _, _, h, _ => by simp at h
  | (n, k') :: r, x, k, h, hf => by
    have ih := @lookup_relabel env hk r x k
    show List.lookup x ((if (k' == NameKind.free && env.scope.kind == .function && env.kindOf n == some .cell) = true then (n, NameKind.cell) else (n, k')) :: _) = _
    cases hx : x == n with
    | true =>
      simp only [List.lookup_cons, hx] at h
      cases h
      have : (k' == NameKind.free) = false := by simpa using hf
      simp [List.lookup_cons, hx, this]
    | false =>
      simp only [List.lookup_cons, hx] at h
      by_cases hc : (k' == NameKind.free && env.scope.kind == .function && env.kindOf n == some .cell) = true
      · rw [if_pos hc]; simp only [List.lookup_cons, hx]; exact ih h hf
      · rw [if_neg hc]; simp only [List.lookup_cons, hx]; exact ih h hf
theorem lookup_relabel_free {env : Env} (hk : env.scope.kind = .function) : ∀ {names : List (Str × NameKind)} {x : Str}, names.lookup x = some .free → env.kindOf x = some .cell →
    (names.map fun (n, k) => if (k == NameKind.free && env.scope.kind == .function && env.kindOf n == some .cell) then (n, NameKind.cell) else (n, k)).lookup x = some .cell
  | [], _, h, _ => by simp at h
  | (n, k') :: r, x, h, hc => by
    have ih := @lookup_relabel_free env hk r x
    show List.lookup x ((if (k' == NameKind.free && env.scope.kind == .function && env.kindOf n == some .cell) = true then (n, NameKind.cell) else (n, k')) :: _) = _
    cases hx : x == n with
    | true =>
      simp only [List.lookup_cons, hx] at h
      cases h
      have hxn : x = n := by simpa using hx
      subst hxn
      simp [List.lookup_cons, hk, hc]
    | false =>
      simp only [List.lookup_cons, hx] at h
      by_cases hd : (k' == NameKind.free && env.scope.kind == .function && env.kindOf n == some .cell) = true
      · rw [if_pos hd]; simp only [List.lookup_cons, hx]; exact ih h hc
      · rw [if_neg hd]; simp only [List.lookup_cons, hx]; exact ih h hc
def cxComp (X : Cx) (Nc : List Str) (scope : Scope) (cl : List (Str × Addr)) (C : Addr) (fp : List Addr) (s : Shared) (H : Hp) : Cx where
  prog := X.prog
  w := X.w
  K := X.K
  mg := X.mg
  base := X.base
  A := X.A
  N := Nc
  s₀ := s
  H₀ := H
  env := compEnvC scope cl C X.env
  outer := X.stack
  stack := X.stack
  ex := fp
  fn := fun _ => false
  calm := X.calm
  pn := []
  xe := fun _ _ => False
def capV (σ : St) (caps : List Nat) : St := caps.map fun j => (σ[j]?).join
structure CompOk (X : Cx) (x : Str) (Nc : List Str) (caps : List Nat) (scope : Scope) : Prop where
  kind : scope.kind = .function
  cell : ∀ y ∈ scope.names, y.2 ≠ .cell
  names : ∀ y ∈ scope.names, y.2 = .local → scope.names.lookup y.1 = some .local
  fr : ∀ y ∈ scope.names, y.2 = .free → X.env.scope.names.lookup y.1 = some .cell ∧ scope.names.lookup y.1 = some .free
  loc : scope.names.lookup x = some .local
  len : Nc.length = caps.length + 1
  hd : Nc[0]? = some x
  nd : Nc.Nodup
  cap : ∀ k j, caps[k]? = some j → ∃ y, Nc[k + 1]? = some y ∧ X.N[j]? = some y ∧ scope.names.lookup y = some .free
theorem compLoop_any {prog : Program} {w : World} {A : Around} {R : Result → Shared → Prop} {s : Shared} {elt target iter : Expr} {ifs : List Expr} {scope : Scope} {pos : Pos} {it acc : Value} {env : Env} (I : Nat → Shared → Prop)
    (turn : ∀ n s, I n s → wpAny (model prog w) A (pyNext it) (fun r s₁ => match r with
      | none => R (.ok .next) s₁
      | some v => wpAny (model prog w) A (letOwnedTupleGo target it v) (fun _ s1' => wpAny (model prog w) A (assign target env v) (fun _ s₂ =>
          wpAny (model prog w) A (forIn ifs true fun c r => if r = true then do let ok ← isTrue c env (eval c env); pure (ForInStep.yield ok) else pure (ForInStep.yield r)) (fun ok s₃ =>
            if ok = true then wpAny (model prog w) A (eval elt env) (fun x s₄ =>
              wpAny (model prog w) A (call (.builtin "list.append") [acc, x]) (fun _ s₅ => ∃ m, m < n ∧ I m s₅) (notedBy (model prog w) A env fun e s' => R (.error e) s') s₄) (notedBy (model prog w) A env fun e s' => R (.error e) s') s₃
            else ∃ m, m < n ∧ I m s₃) (notedBy (model prog w) A env fun e s' => R (.error e) s') s₂) (notedBy (model prog w) A env fun e s' => R (.error e) s') s1') (notedBy (model prog w) A env fun e s' => R (.error e) s') s₁) (notedBy (model prog w) A env fun e s' => R (.error e) s') s)
    (n : Nat) (h : I n s) :
    codeAny (model prog w) A (.compLoop (.ListComp elt [⟨target, iter, ifs, 0⟩] scope pos) 0 it acc env) R s := by
  refine codeAny_loop rfl I (fun n s hI => ?_) n h
  show wpAny _ A ((compTurn (.ListComp elt [⟨target, iter, ifs, 0⟩] scope pos) 0 it acc env).onRaise (fun x => do noteFrame x env; theTreesLotGoes x)) _ _ s
  refine wpAny_noted ?_
  rw [compTurn_list]
  refine wpAny_bind (wpAny_standAt (wpAny_bind (wpAny_mono (turn n s hI) (fun r s₁ h₁ => ?_) fun _ _ h' => h')))
  cases r with
  | none => exact wpAny_pure h₁
  | some v =>
    refine wpAny_bind (wpAny_mono h₁ (fun _ s1' h₁ => ?_) fun _ _ h' => h')
    refine wpAny_bind (wpAny_mono h₁ (fun _ s₂ h₂ => wpAny_bind (wpAny_mono h₂ (fun ok s₃ h₃ => ?_) fun _ _ h' => h')) fun _ _ h' => h')
    cases ok with
    | false => exact wpAny_pure ⟨rfl, h₃⟩
    | true =>
      exact wpAny_bind (wpAny_bind (wpAny_mono h₃ (fun x s₄ h₄ => wpAny_bind (wpAny_mono h₄ (fun _ s₅ h₅ => wpAny_pure (wpAny_pure ⟨rfl, h₅⟩)) fun _ _ h' => h')) fun _ _ h' => h'))
def tNoTest : TT := fun _ H Q => Q true H
inductive PIf (X : Cx) : List Expr → TT → Prop where
  | nil : PIf X [] tNoTest
  | one {c : Expr} {t : TT} (h : PT X c t) : PIf X [c] t
theorem PIf.run {X : Cx} {ifs : List Expr} {t : TT} (h : PIf X ifs t) {pins : List (Addr × Obj)} {s : Shared} {σ : St} {H : Hp} {Q : Bool → Hp → Prop} (I : Inv X pins σ H s) (ht : t σ H Q) :
    wpAny (model X.prog X.w) X.A (forIn ifs true fun c r => if r = true then do let ok ← isTrue c X.env (eval c X.env); pure (ForInStep.yield ok) else pure (ForInStep.yield r)) (TP X pins σ Q) X.xe s := by
  cases h with
  | nil => exact wpAny_tests_nil ⟨H, I, ht⟩
  | one h => exact wpAny_tests_one (h pins s σ H Q I ht)
def tCompW (caps : List Nat) (tc : TT) (te : TE) (J : It) (σ : St) (H : Hp) (Q : VK) : Prop :=
  ∃ W : Nat → Nat → List V → Hp → Prop, (∃ m, W 0 m [] H) ∧ ∀ i m ys H, W i m ys H →
    (J.stop i H ∧ ys.length ≤ sizeLine ∧ ∀ p, H p = none → Q (.ref p) (upd H p (.lst ys))) ∨
    (J.go i H ∧ ys.length < sizeLine ∧ ∀ x H', J.yld i H x H' → tc (some x :: capV σ caps) H' fun b H2 =>
      if b = true then te (some x :: capV σ caps) H2 fun y H3 => ∃ m', m' < m ∧ W (i + 1) m' (ys ++ [y]) H3 else ∃ m', m' < m ∧ W (i + 1) m' ys H2)
def tComp (wi : TI) (caps : List Nat) (tc : TT) (te : TE) : TE := fun σ H Q => wi σ H fun J H1 => tCompW caps tc te J σ H1 Q
section
variable {X : Cx} {pins : List (Addr × Obj)} {σ : St} {H : Hp} {s : Shared}
theorem Un.track {fs ex : List Addr} {H H' : Hp} {h h' : Heap} {a : Addr} {o : HO} (u : Un fs ex H H' h h') (ha : h.objs.size ≤ a) (hn : H' a = none) : Un fs ex H (upd H' a o) h h' where
  keep := u.keep
  slot := u.slot
  free := fun b ob q n hx => by rw [upd_ne (Nat.ne_of_lt (Nat.lt_of_lt_of_le (Heap.lt_size q) ha))]; exact u.free b ob q n hx
  there := u.there
  tups := fun b xs q => by rw [upd_ne (ne_of_none (u.tups b xs q) hn)]; exact u.tups b xs q
  frzs := fun b ob xs q => by rw [upd_ne (ne_of_none (u.frzs b ob xs q) hn)]; exact u.frzs b ob xs q
  tbls := fun b ps q => by
    obtain ⟨m, e⟩ := u.tbls b ps q
    exact ⟨m, by rw [upd_ne (ne_of_none e hn)]; exact e⟩
theorem HOk.track {P : Program} {w : World} {H : Hp} {h : Heap} {a : Addr} {o : HO} (x : HOk P w H h) (hn : H a = none) (new : ObjOk P w (upd H a o) h a o) : HOk P w (upd H a o) h := fun b u e => by
  by_cases hb : b = a
  · subst hb; rw [upd_same] at e; cases e; exact new
  · rw [upd_ne hb] at e
    exact (x b u e).stay (fun c v _ q => q) (fun c q => by rw [upd_ne (ne_of_none q hn)]; exact q) fun c xs q => by rw [upd_ne (ne_of_none q hn)]; exact q
theorem comp_ok {x : Str} {Nc : List Str} {caps : List Nat} {scope : Scope} {cl : List (Str × Addr)} {C : Addr} {fp : List Addr} (I : Inv X pins σ H s) (O : CompOk X x Nc caps scope)
    (hcl : ∀ x c, cl.lookup x = some c → X.env.cells.lookup x = some c ∧ (x, NameKind.free) ∈ scope.names) (hcl2 : ∀ x, (x, NameKind.free) ∈ scope.names → cl.lookup x = X.env.cells.lookup x)
    (hC : s.heap.objs.size ≤ C) (hfp : ∀ b ∈ fp, FpOk X pins H b) (hfo : ∀ b ∈ fp, b < s.heap.objs.size) : (cxComp X Nc scope cl C fp s H).Ok where
  mod := I.ok.mod
  kind := O.kind
  glob := I.ok.glob
  blt := I.ok.blt
  above := hC
  inj := fun a b c e1 e2 => I.ok.inj a b c (hcl a c e1).1 (hcl b c e2).1
  has := fun y hy => by
    have mem : (y, NameKind.free) ∈ scope.names := by
      have hy' : ((relabel scope X.env).names.lookup y = some .cell) ∨ ((relabel scope X.env).names.lookup y = some .free) := hy
      have hm : ∃ k, (y, k) ∈ (relabel scope X.env).names ∧ (k = .cell ∨ k = .free) := by
        rcases hy' with h | h
        · exact ⟨_, PySem.mem_of_lookup h, .inl rfl⟩
        · exact ⟨_, PySem.mem_of_lookup h, .inr rfl⟩
      obtain ⟨k, hm, hk⟩ := hm
      obtain ⟨⟨n, k'⟩, hm', e⟩ := List.mem_map.mp hm
      dsimp only at e
      by_cases hc : (k' == NameKind.free && X.env.scope.kind == .function && X.env.kindOf n == some .cell) = true
      · rw [if_pos hc] at e
        injection e with e1 _
        subst e1
        have : k' = .free := by
          have := (Bool.and_eq_true _ _ ▸ (Bool.and_eq_true _ _ ▸ hc).1).1
          simpa using this
        subst this
        exact hm'
      · rw [if_neg hc] at e
        injection e with e1 e2
        subst e1 e2
        rcases hk with hk | hk
        · subst hk; exact absurd rfl (O.cell _ hm')
        · subst hk; exact hm'
    obtain ⟨c, e⟩ := I.ok.has y (.inl (O.fr _ mem rfl).1)
    exact ⟨c, (hcl2 y mem).trans e⟩
  cab := fun _ _ z => nomatch z
  hd := I.ok.hd
  frames := I.ok.frames
  stk := .inl rfl
  exf := fun b hb => ⟨Nat.ne_of_lt (Nat.lt_of_lt_of_le (hfo b hb) hC), fun y c e => (hfp b hb).2.2.2.2.1 y c (hcl y c e).1⟩
  bs := I.bs
  bsz := Nat.le_trans I.ok.bsz I.sz
  noex := fun b o e hb => by
    rcases (hfp b hb).2.2.2.1 with z | z
    · exact I.ok.noex b o e z
    · exact absurd (Nat.lt_of_lt_of_le (Heap.lt_size e) (Nat.le_trans I.ok.bsz z)) (Nat.lt_irrefl _)
  exfs := fun b hb z => by
    rcases List.mem_cons.mp (I.stkSub b z) with e | e
    · exact (hfp b hb).2.1 e
    · exact (hfp b hb).2.2.1 e
  funs := I.stack
  frf := I.stkFree
end
end L2
set_option Elab.async false
set_option linter.all false
set_option maxRecDepth 100000
namespace L2
open PySem PySem.Spec PyProof.Rows
section
variable {X : Cx} {pins : List (Addr × Obj)} {σ : St} {H : Hp} {s : Shared}
theorem capV_len (σ : St) (caps : List Nat) : (capV σ caps).length = caps.length := by unfold capV; rw [List.length_map]
theorem capV_get {σ : St} {caps : List Nat} {k : Nat} {v : V} (e : (capV σ caps)[k]? = some (some v)) : ∃ j, caps[k]? = some j ∧ σ[j]? = some (some v) := by
  unfold capV at e
  rw [List.getElem?_map] at e
  cases hk : caps[k]? with
  | none => rw [hk] at e; cases e
  | some j =>
    rw [hk] at e
    have e' : (σ[j]?).join = some v := Option.some.inj e
    refine ⟨j, rfl, ?_⟩
    cases hj : σ[j]? with
    | none => rw [hj] at e'; cases e'
    | some o => rw [hj] at e'; rw [show o = some v from e']
theorem Un.but {fs ex : List Addr} {H H' : Hp} {h h1 h2 : Heap} {C : Addr} (u : Un fs ex H H' h h1) (hs : Heap.SameBut C h1 h2) (hC : h.objs.size ≤ C) : Un fs ex H H' h h2 where
  keep := fun b o q n hb hx => (hs.2 b (Nat.ne_of_lt (Nat.lt_of_lt_of_le (Heap.lt_size q) hC))).trans (u.keep b o q n hb hx)
  slot := fun b o q n hb hx => by
    obtain ⟨sl, e⟩ := u.slot b o q n hb hx
    exact ⟨sl, (hs.2 b (Nat.ne_of_lt (Nat.lt_of_lt_of_le (Heap.lt_size q) hC))).trans e⟩
  free := u.free
  there := fun b o q hx => by
    obtain ⟨o', e⟩ := u.there b o q hx
    exact ⟨o', (hs.2 b (Nat.ne_of_lt (Nat.lt_of_lt_of_le (Heap.lt_size q) hC))).trans e⟩
  tups := u.tups
  frzs := u.frzs
  tbls := u.tbls
theorem comp_start {x : Str} {Nc : List Str} {caps : List Nat} {scope : Scope} {cl : List (Str × Addr)} {C : Addr} {fp : List Addr} {h' : Heap} {tk : Nat} {m0 : Str → Option Value} (I : Inv X pins σ H s) (O : CompOk X x Nc caps scope)
    (hcl : ∀ x c, cl.lookup x = some c → X.env.cells.lookup x = some c ∧ (x, NameKind.free) ∈ scope.names) (hcl2 : ∀ x, (x, NameKind.free) ∈ scope.names → cl.lookup x = X.env.cells.lookup x)
    (hC : s.heap.objs.size ≤ C) (hfp : ∀ b ∈ fp, FpOk X pins H b) (hfo : ∀ b ∈ fp, b < s.heap.objs.size)
    (old : ∀ b o, s.heap.get? b = some o → h'.get? b = some o) (hns : h'.Ns C m0) :
    Inv (cxComp X Nc scope cl C fp s H) [] (none :: capV σ caps) H { s with heap := h', toks := tk } where
  ok := comp_ok I O hcl hcl2 hC hfp hfo
  os := rfl
  bare := I.bare
  base := Un.kept old
  loc := by
    refine ⟨m0, hns, fun i y v hN hσ hv => ?_⟩
    cases i with
    | zero => simp at hσ
    | succ k =>
      rw [List.getElem?_cons_succ] at hσ
      obtain ⟨j, hj, hs⟩ := capV_get hσ
      obtain ⟨z, hz1, hz2, hz3⟩ := O.cap k j hj
      have hN' : Nc[k + 1]? = some y := hN
      rw [hz1] at hN'
      cases hN'
      have mem : (y, NameKind.free) ∈ scope.names := PySem.mem_of_lookup hz3
      have hk := (O.fr _ mem rfl).1
      obtain ⟨m, hn, hl⟩ := I.loc
      obtain ⟨u, r, l⟩ := hl j y v hz2 hs (.inr (.inl hk))
      refine ⟨u, r, ?_⟩
      rcases l with ⟨k', _⟩ | ⟨_, c, hc, z⟩
      · have k'' : X.env.scope.names.lookup y = some .local := k'
        rw [hk] at k''; cases k''
      · obtain ⟨o, ho, hd⟩ := z
        exact .inr ⟨.inl (lookup_relabel_free I.ok.kind hz3 hk), c, (hcl2 y mem).trans hc, o, old _ _ ho, hd⟩
  cell := fun y c e => by
    obtain ⟨v, o, ho, hd⟩ := I.cell y c (hcl y c e).1
    exact ⟨v, o, old _ _ ho, hd⟩
  free := I.hok.fresh hC
  freeC := fun y c e => I.freeC y c (hcl y c e).1
  pin := fun p hp => absurd (show p ∈ ([] : List (Addr × Obj)) from hp) (by simp)
  hok := I.hok.kept old
  len := by
    show (none :: capV σ caps).length = Nc.length
    rw [List.length_cons, capV_len, O.len]
abbrev rawL (us : List Value) (n : Nat) : Obj := { cls := .type "list", data := .seq us.toArray n }
theorem comp_fr {X : Cx} {sc0 scope : Scope} (h : X.env.scope = sc0) (hd : ∀ y ∈ scope.names, y.2 = .free → sc0.names.lookup y.1 = some .cell ∧ scope.names.lookup y.1 = some .free) :
    ∀ y ∈ scope.names, y.2 = .free → X.env.scope.names.lookup y.1 = some .cell ∧ scope.names.lookup y.1 = some .free := by
  rw [h]
  exact hd
theorem comp_block {x : Str} {px : Pos} {Nc : List Str} {caps : List Nat} {scope : Scope} {cl : List (Str × Addr)} {iter elt : Expr} {ifs : List Expr} {pos : Pos} {tc : TT} {te : TE} {Q : VK} {it : Addr} {fp : List Addr} {tn : Nat → Heap → Prop} {J : It}
    {RR : Value → Addr → Result → Shared → Prop} {E : Value → Shared → Prop}
    (O : CompOk X x Nc caps scope) (hc : X.calm = true)
    (hcl : ∀ x c, cl.lookup x = some c → X.env.cells.lookup x = some c ∧ (x, NameKind.free) ∈ scope.names) (hcl2 : ∀ x, (x, NameKind.free) ∈ scope.names → cl.lookup x = X.env.cells.lookup x)
    (hte : ∀ C fp s H, PE (cxComp X Nc scope cl C fp s H) elt te) (htc : ∀ C fp s H, PIf (cxComp X Nc scope cl C fp s H) ifs tc)
    (I : Inv X pins σ H s) (T : Turn X.prog X.w X.K (.Name x px) J fp it tn) (st : tn 0 s.heap) (hfp : ∀ b ∈ fp, FpOk X pins H b) (h : tCompW caps tc te J σ H Q)
    (hRR : ∀ (D C : Addr) (s' : Shared) (m : Str → Option Value), s'.heap.Ns C m → (∀ h', Heap.SameBut C s'.heap h' → ∃ H', Inv X pins σ H' { s' with heap := h' } ∧ H' C = none ∧ Q (.ref D) H') →
      s.heap.objs.size ≤ C → RR (.ref D) C (.ok .next) s') :
    wpAny (model X.prog X.w) X.A (newList []) (fun acc s₃ => wpAny (model X.prog X.w) X.A (newFunctionEnv scope X.env.globals cl [] X.env.qual none .none (some X.env)) (fun cenv s₄ =>
      codeAny (model X.prog X.w) X.A (.compStart (.ListComp elt [⟨.Name x px, iter, ifs, 0⟩] scope pos) 0 (.ref it) acc { cenv with scope := relabel scope X.env }) (RR acc cenv.locals) s₄) E s₃) E s := by
  refine wpAny_newObj_type (wpAny_newFunctionEnv O.cell (by intro y hy; simp at hy) (fun h₁ hns₁ hsb₁ => ?_) O.kind)
  dsimp only at hns₁ hsb₁ ⊢
  generalize hH2 : s.heap.push { cls := .type "list", dict := none, data := .seq ([] : List Value).toArray } = H2 at hns₁ hsb₁ ⊢
  have hC : H2.objs.size = s.heap.objs.size + 1 := by rw [← hH2, Heap.size_push]
  have hCle : s.heap.objs.size ≤ H2.objs.size := by rw [hC]; exact Nat.le_succ _
  have hDC : s.heap.objs.size ≠ H2.objs.size := by rw [hC]; exact Nat.ne_of_lt (Nat.lt_succ_self _)
  have below : ∀ b, b < s.heap.objs.size → b ≠ H2.objs.size ∧ b ≠ s.heap.objs.size := fun b hb => ⟨by rw [hC]; exact Nat.ne_of_lt (Nat.lt_succ_of_lt hb), Nat.ne_of_lt hb⟩
  have old : ∀ b o, s.heap.get? b = some o → h₁.get? b = some o := fun b o e => hsb₁.extBut b o (below b (Heap.lt_size e)).1 (Heap.get?_push_of_some _ (hH2 ▸ Heap.get?_push_of_some _ e))
  have hacc : h₁.get? s.heap.objs.size = some (rawL [] 0) := hsb₁.extBut _ _ hDC (Heap.get?_push_of_some _ (hH2 ▸ Heap.get?_push_size _ rfl))
  have hfo : ∀ b ∈ fp, b < s.heap.objs.size := fun b hb => by
    obtain ⟨o, e, _⟩ := T.obj _ _ st b hb
    exact Heap.lt_size e
  have st1 : tn 0 h₁ := T.keep _ _ _ st fun b _ o e => old b o e
  generalize hDD : s.heap.objs.size = D at *
  generalize hCC : H2.objs.size = C at *
  have DleC : D ≤ C := hCle
  let Y : Cx := cxComp X Nc scope cl C fp s H
  have I0 : Inv Y [] (none :: capV σ caps) H { s with heap := h₁, toks := s.toks + ([] : List (Str × Value)).length } := comp_start I O hcl hcl2 (by rw [hDD]; exact hCle) hfp (fun b hb => by rw [hDD]; exact hfo b hb) old hns₁
  have Dfree : H D = none := by rw [← hDD]; exact I.hok.fresh (Nat.le_refl _)
  have DneC : D ≠ C := hDC
  have Dfs : D ∉ Y.fs := fun z => by
    have := I.stack.mem (show D ∈ frs X.stack from z)
    obtain ⟨_, o, e, _⟩ := this
    have := Heap.lt_size e
    rw [hDD] at this
    exact Nat.lt_irrefl _ this
  have Dcell : ∀ y c, Y.env.cells.lookup y = some c → c ≠ D := fun y c e z => by
    obtain ⟨v, q⟩ := I.cell y c (hcl y c e).1
    have := q.lt
    rw [z, hDD] at this
    exact Nat.lt_irrefl _ this
  have Dfp : ∀ b ∈ fp, b ≠ D := fun b hb => Nat.ne_of_lt (hfo b hb)
  have fpY : ∀ {H' : Hp}, (∀ b ∈ fp, H' b = none) → ∀ b ∈ fp, FpOk Y [] H' b := fun hn b hb =>
    ⟨hn b hb, Nat.ne_of_lt (Nat.lt_of_lt_of_le (hfo b hb) DleC), fun z => I0.ok.exfs b hb z, .inl hb, fun y c e => (I0.ok.exf b hb).2 y c e, fun p hp => absurd (show p ∈ ([] : List (Addr × Obj)) from hp) (by simp)⟩
  obtain ⟨W, ⟨m0, w0⟩, turn⟩ := h
  have loop : ∀ s₃ : Shared, s₃ = { s with heap := h₁, toks := s.toks + ([] : List (Str × Value)).length } →
      codeAny (model X.prog X.w) X.A (.compLoop (.ListComp elt [⟨.Name x px, iter, ifs, 0⟩] scope pos) 0 (.ref it) (.ref D) (compEnvC scope cl C X.env)) (RR (.ref D) C) s₃ := by
    rintro s₃ rfl
    refine compLoop_any (fun n s' => ∃ (i : Nat) (o : Option V) (H' : Hp) (ys : List V) (us : List Value) (k : Nat), Inv Y [] (o :: capV σ caps) H' s' ∧ tn i s'.heap ∧ (∀ b ∈ fp, H' b = none) ∧ s'.heap.get? D = some (rawL us k) ∧ H' D = none ∧ Vals ys us ∧ W i n ys H')
      ?_ m0 ⟨0, none, H, [], [], 0, I0, st1, fun b hb => (hfp b hb).1, hacc, Dfree, .nil, w0⟩
    rintro n s3 ⟨i, o3, H3, ys, us, k, I3, st3, fr3, hD3, nD3, rv, w3⟩
    have fpP : ∀ {H' : Hp} {ob : Obj}, (∀ b ∈ fp, H' b = none) → ∀ b ∈ fp, FpOk Y [(D, ob)] H' b := fun hn b hb => by
      obtain ⟨g0, g1, g2, g3, g4, _⟩ := fpY hn b hb
      refine ⟨g0, g1, g2, g3, g4, fun p hp => ?_⟩
      have e : p = (D, _) := List.mem_singleton.mp (show p ∈ [(D, _)] from hp)
      rw [e]
      exact Ne.symm (Dfp b hb)
    have IP : Inv Y [(D, rawL us k)] (o3 :: capV σ caps) H3 s3 := I3.pins_of fun p hp => by
      have e : p = (D, rawL us k) := List.mem_singleton.mp hp
      subst e
      exact ⟨hD3, nD3, DneC, Dfs, fun v z => by cases z⟩
    have pinD : ∀ {σ' : St} {H' : Hp} {s' : Shared} {pl : List (Addr × Obj)}, Inv Y ([(D, rawL us k)] ++ pl) σ' H' s' → s'.heap.get? D = some (rawL us k) ∧ H' D = none := fun I' => by
      have z := I'.pin (D, rawL us k) (List.mem_append_right _ (List.mem_append_left _ List.mem_cons_self))
      exact ⟨z.1, z.2.1⟩
    rcases turn i n ys H3 w3 with ⟨stop, hlen, fin⟩ | ⟨go, hlen, step⟩
    ·
      refine wpAny_mono (T.done Y rfl rfl rfl hc i _ s3 _ H3 (fun _ _ => False) IP (fpP fr3) st3 stop) (fun r s4 hr => ?_) fun _ _ z => z.elim
      obtain ⟨hr, I4⟩ := hr
      subst hr
      obtain ⟨gD, nD⟩ := pinD (pl := []) (by simpa using I4)
      obtain ⟨m, hn, _⟩ := I4.loc
      refine hRR D C s4 m hn (fun h' hs' => ⟨upd H3 D (.lst ys), ?_, (upd_ne (Ne.symm DneC)).trans I4.free, fin D nD⟩) hCle
      have nt : ∀ b ob, H3 b = some ob → b ≠ C := fun b ob e z => by
        have := I4.free
        rw [z] at e
        rw [show H3 C = none from this] at e
        cases e
      have u1 : Un (frs X.stack) fp H H3 s.heap h' := Un.but I4.base hs' (show s.heap.objs.size ≤ C by rw [hDD]; exact hCle)
      have ok1 : HOk X.prog X.w H3 h' := fun b ob e => (I4.hok b ob e).stay (fun c v hc q => (hs'.2 c (by
        rcases hc with z | z
        · rw [z]; exact nt b ob e
        · exact nt c _ z)).trans q) (fun _ q => q) fun _ _ q => q
      have gD' : h'.get? D = some (rawL us k) := (hs'.2 D DneC).trans gD
      exact I.call' (s' := { s4 with heap := h' }) (ch := fp) I4.os (u1.track (Nat.le_of_eq hDD) nD) (ok1.track nD ⟨hlen, us, k, rv, gD'⟩) I4.bare fun b hb => by
        obtain ⟨_, g1, _, g3, g4, g5⟩ := hfp b hb
        exact ⟨g3, g1, g4, g5⟩
    ·
      refine wpAny_mono (T.item Y rfl rfl rfl hc i _ s3 _ H3 (fun _ _ => False) IP (fpP fr3) st3 go) (fun r s4 hr => ?_) fun _ _ z => z.elim
      obtain ⟨u0, hr, h4⟩ := hr
      subst hr
      refine wpAny_mono h4 (fun _ s5 h5 => ?_) fun _ _ z => z.elim
      obtain ⟨x5, H5, I5, r5, y5, st5, fr5⟩ := h5
      have I5' := I5.pinned (fpP fr5) (T.obj _ _ st5)
      have tgt : PG Y (.Name x px) (gName 0) := pg_name (i := 0) O.nd O.hd (.inl (lookup_relabel I.ok.kind O.loc (by intro z; cases z))) (.inr (lookup_relabel I.ok.kind O.loc (by intro z; cases z)))
      refine wpAny_mono (tgt _ s5 _ H5 x5 u0 (fun σ2 H2 => σ2 = some x5 :: capV σ caps ∧ H2 = H5) I5' r5 ⟨rfl, rfl⟩) (fun _ s6 h6 => ?_) fun _ _ z => z.elim
      obtain ⟨_, _, I6, rfl, rfl⟩ := h6
      refine wpAny_mono ((htc C fp s H).run I6 (step x5 _ y5)) (fun b s7 h7 => ?_) fun _ _ z => z.elim
      obtain ⟨H7, I7, q7⟩ := h7
      have keepT : ∀ {σ' : St} {H' : Hp} {s' : Shared}, Inv Y ([(D, rawL us k)] ++ pinsAt fp s5.heap) σ' H' s' → tn (i + 1) s'.heap ∧ ∀ b ∈ fp, H' b = none := fun I' =>
        ⟨T.keep _ _ _ st5 fun b hb o e => (I'.pin (b, o) (List.mem_append_right _ (List.mem_append_right _ (mem_pinsAt hb e)))).1, fun b hb => by
          obtain ⟨o, e, d⟩ := T.obj _ _ st5 b hb
          exact (I'.pin (b, o) (List.mem_append_right _ (List.mem_append_right _ (mem_pinsAt hb e)))).2.1⟩
      cases b with
      | false =>
        rw [if_neg Bool.false_ne_true] at q7
        rw [if_neg Bool.false_ne_true]
        obtain ⟨m', hm, w7⟩ := q7
        obtain ⟨gD, nD⟩ := pinD I7
        obtain ⟨k1, k2⟩ := keepT I7
        exact ⟨m', hm, i + 1, some x5, H7, ys, us, k, I7.pins_of (fun p hp => nomatch hp), k1, k2, gD, nD, rv, w7⟩
      | true =>
        rw [if_pos rfl] at q7
        rw [if_pos rfl]
        refine wpAny_mono (hte C fp s H _ s7 _ H7 _ I7 q7) (fun u8 s8 h8 => ?_) fun _ _ z => z.elim
        obtain ⟨y8, H8, I8, r8, m', hm, w8⟩ := h8
        obtain ⟨gD, nD⟩ := pinD I8
        obtain ⟨k1, k2⟩ := keepT I8
        refine call_meets F.slot_list_append ⟨_, gD, rfl⟩ F.entry_list_append (F.args_list_append_2 _ _) (PySem.list_append D us.toArray k u8 (by rw [List.size_toArray, ← rv.length]; omega)) ⟨gD, ?_⟩
        have q := PySem.IsL.update gD (·.push u8)
        have e1 : us.toArray.push u8 = (us ++ [u8]).toArray := by simp
        rw [e1] at q
        have I8' : Inv Y [] (some x5 :: capV σ caps) H8 s8 := I8.pins_of (fun p hp => nomatch hp)
        have I9 : Inv Y [] (some x5 :: capV σ caps) H8 { s8 with heap := s8.heap.update D (Obj.mapSeq (·.push u8)), toks := s8.toks } :=
          I8'.turned (it := D) (fun b o hb e => (Heap.get?_update_other s8.heap (Obj.mapSeq (·.push u8)) (Ne.symm hb)).trans e) nD DneC (.inr (Nat.le_of_eq hDD)) Dcell (fun p hp => nomatch hp)
        refine ⟨m', hm, i + 1, some x5, H8, ys ++ [y8], us ++ [u8], _, I9, T.keep _ _ _ k1 fun b hb o e => (Heap.get?_update_other s8.heap (Obj.mapSeq (·.push u8)) (Ne.symm (Dfp b hb))).trans e, k2, q, nD, rv.append (.cons r8 .nil), w8⟩
  exact codeAny_compStart_list (loop _ rfl) (T.self X.A 0 _ _ _ st1 (loop _ rfl))
theorem pe_comp {x : Str} {px pos : Pos} {Nc : List Str} {caps : List Nat} {scope : Scope} {iter elt : Expr} {ifs : List Expr} {wi : TI} {tc : TT} {te : TE} (O : CompOk X x Nc caps scope) (hc : X.calm = true) (hi : PI X (.Name x px) iter wi)
    (htc : ∀ cl C fp s H, PIf (cxComp X Nc scope cl C fp s H) ifs tc) (hte : ∀ cl C fp s H, PE (cxComp X Nc scope cl C fp s H) elt te) (hs : ∀ x, foldedSetIterable iter X.env x = pure x := by intro _; rfl) :
    PE X (.ListComp elt [⟨.Name x px, iter, ifs, 0⟩] scope pos) (tComp wi caps tc te) := by
  intro pins s σ H Q I h
  rw [eval_ListComp]
  obtain ⟨cl, e1, e2, e3⟩ := closure_is (scope := scope) (env := X.env) fun y hy hf => I.ok.has y.1 (.inl (O.fr y hy hf).1)
  refine wpAny_comprehension_free (use := none) rfl hs e1 O.kind O.names (thn (hi pins s σ H _ I h) fun v s1 h1 => thn h1 fun itv s2 h2 => ?_)
  obtain ⟨it, fp, tn, J, H2, e, I2, T, st2, f2, w2⟩ := h2
  subst e
  refine comp_block (RR := fun acc C => compPost (model X.prog X.w) X.A X.xe none (EP X pins σ Q) acc C) O hc e2 e3 (hte cl) (htc cl) I2 T st2 f2 w2 ?_
  intro D C s' m hn hq hC
  refine ⟨m, hn, fun h' hs' => ?_⟩
  obtain ⟨H', I', _, q⟩ := hq h' hs'
  exact ⟨.ref D, H', I', rfl, q⟩
theorem ps_setC {i : Nat} {y x : Str} {px py pos spos : Pos} {Nc : List Str} {caps : List Nat} {scope : Scope} {iter elt : Expr} {ifs : List Expr} {wi : TI} {tc : TT} {te : TE} (O : CompOk X x Nc caps scope) (hc : X.calm = true)
    (hN : X.N.Nodup) (hy : X.N[i]? = some y) (hx : X.env.scope.names.lookup y = some .local) (hi : PI X (.Name x px) iter wi)
    (htc : ∀ cl C fp s H, PIf (cxComp X Nc scope cl C fp s H) ifs tc) (hte : ∀ cl C fp s H, PE (cxComp X Nc scope cl C fp s H) elt te)
    (hsw : swapsWith (.ListComp elt [⟨.Name x px, iter, ifs, 0⟩] scope pos) (some (.Name y py)) spos.line X.env = pure true) (hs : ∀ x, foldedSetIterable iter X.env x = pure x := by intro _; rfl) :
    PS X (.Assign [.Name y py] (.ListComp elt [⟨.Name x px, iter, ifs, 0⟩] scope pos) spos) (tAsg (tComp wi caps tc te) (gName i)) := by
  intro pins s σ H Dn I h
  rw [exec_Assign_Name_used _ _ _ _ hsw]
  refine wpAny_bind (wpAny_standAt (wpAny_bind ?_))
  obtain ⟨cl, e1, e2, e3⟩ := closure_is (scope := scope) (env := X.env) fun y hy hf => I.ok.has y.1 (.inl (O.fr y hy hf).1)
  show wpAny _ X.A (do let _ ← comprehension (.ListComp elt [⟨.Name x px, iter, ifs, 0⟩] scope pos) scope X.env _ (newList []) false (eval iter X.env) (some (assign (.Name y py) X.env))) _ _ s
  refine wpAny_bind (wpAny_mono (wpAny_comprehension_free (use := some (assign (.Name y py) X.env)) (Q := fun _ s' => SP X pins Dn .next s') rfl hs e1 O.kind O.names
    (thn (hi pins s σ H _ I h) fun v s1 h1 => thn h1 fun itv s2 h2 => ?_)) (fun _ s' hq => wpAny_pure (wpAny_pure hq)) fun _ _ e => e)
  obtain ⟨it, fp, tn, J, H2, e, I2, T, st2, f2, w2⟩ := h2
  subst e
  refine comp_block (RR := fun acc C => compPost (model X.prog X.w) X.A X.xe (some (assign (.Name y py) X.env)) (fun _ s' => SP X pins Dn .next s') acc C) O hc e2 e3 (hte cl) (htc cl) I2 T st2 f2 w2 ?_
  intro D C s' m hn hq hC
  show wpAny _ X.A (assign (.Name y py) X.env (.ref D)) _ _ _
  obtain ⟨H', I', nC, q⟩ := hq s'.heap (.refl ..)
  have I'' : Inv X pins σ H' s' := I'
  have CL : C ≠ X.env.locals := Nat.ne_of_gt (Nat.lt_of_lt_of_le I2.lt hC)
  have Ccell : ∀ y c, X.env.cells.lookup y = some c → c ≠ C := fun y c e z => by
    obtain ⟨v, q⟩ := I2.cell y c e
    have := Nat.lt_of_lt_of_le q.lt hC
    rw [z] at this
    exact Nat.lt_irrefl _ this
  refine wpAny_assign_Name (store_ok2 I'' hN hy (.inl hx) (show RelV (.ref D) (.ref D) from rfl) (fun s3 I3 hsb => ?_) (.inr hx))
  obtain ⟨a, hsb, ha⟩ := hsb
  have aC : C ≠ a := by
    rcases ha with z | z
    · rw [z]; exact CL
    · exact Ne.symm (Ccell _ _ z)
  refine ⟨m, hn.sameBut hsb aC, fun h4 hs4 => ?_⟩
  refine ⟨_, H', I3.turned (it := C) (t' := s3.toks) (fun b o hb e => (hs4.2 b hb).trans e) nC CL (.inr (Nat.le_trans I2.sz hC)) Ccell (fun p hp z => ?_), q⟩
  · have := Nat.lt_of_lt_of_le (Heap.lt_size (I2.pin p hp).1) hC
    rw [z] at this
    exact Nat.lt_irrefl _ this
end
end L2
set_option Elab.async false
set_option linter.all false
set_option maxRecDepth 100000
namespace L2
open PySem PySem.Spec PyProof.Rows
def Its (x : Str) : It := ⟨fun i _ => i < x.cps.size, fun i H v H' => H' = H ∧ ∃ c, x.cps[i]? = some c ∧ v = .str ⟨#[c]⟩, fun i _ => x.cps.size ≤ i⟩
theorem turn_strA {P : Program} {w : World} {K : PySem.W.Frag} {tg : Expr} (it : Addr) (x : Str) (t : Tok) : Turn P w K tg (Its x) [it] it (fun i h => i ≤ x.cps.size ∧ h.IsStrIter it "str_ascii_iterator" x t i) where
  mem := by simp
  obj := fun i h st b hb => by
    have e : b = it := by simpa using hb
    subst e
    obtain ⟨_, o, e, c, d⟩ := st
    exact ⟨o, e, fun v z => by rw [d] at z; cases z⟩
  keep := fun i h h' st k => by
    obtain ⟨hl, o, e, c, d⟩ := st
    exact ⟨hl, o, k it (by simp) o e, c, d⟩
  item := by
    intro X hP hw hK hc i pins s σ H E I hf st hg
    subst hP hw hK
    obtain ⟨hl, st⟩ := st
    have hg : i < x.cps.size := hg
    obtain ⟨f0, f1, f2, f3, f4, f5⟩ := hf it (by simp)
    have hx : x.cps[i]? = some x.cps[i] := by simp [hg]
    refine wpAny_pyNext_ascii_item st hx fun h' st' sb => ?_
    have I1 : Inv X pins σ H { s with heap := h', toks := s.toks + 1 } := I.turned (fun b o hb e => (sb.2 b hb).trans e) f0 f1 f3 f4 f5
    obtain ⟨o, e, c, d⟩ := id st'
    exact ⟨_, rfl, go_of (s := { s with heap := h', toks := s.toks + 1 }) e c d (by decide) ⟨.str ⟨#[x.cps[i]]⟩, H, I1, ⟨_, rfl⟩, ⟨rfl, _, hx, rfl⟩, ⟨hg, st'⟩, fun b hb => (hf b hb).1⟩⟩
  done := by
    intro X hP hw hK hc i pins s σ H E I hf st hg
    subst hP hw hK
    obtain ⟨hl, st⟩ := st
    have hg : x.cps.size ≤ i := hg
    obtain ⟨f0, f1, f2, f3, f4, f5⟩ := hf it (by simp)
    exact wpAny_pyNext_ascii_end (I.ok.hd hc) st (by simp; omega) fun h' eb => ⟨rfl, I.turned (t' := s.toks) (fun b o hb e => eb b o hb e) f0 f1 f3 f4 f5⟩
  self := fun _ _ _ _ _ st h => wpAny_pyIter_striter_ascii st.2 h
theorem turn_strW {P : Program} {w : World} {K : PySem.W.Frag} {tg : Expr} (it : Addr) (x : Str) (t : Tok) : Turn P w K tg (Its x) [it] it (fun i h => i ≤ x.cps.size ∧ h.IsStrIter it "str_iterator" x t i) where
  mem := by simp
  obj := fun i h st b hb => by
    have e : b = it := by simpa using hb
    subst e
    obtain ⟨_, o, e, c, d⟩ := st
    exact ⟨o, e, fun v z => by rw [d] at z; cases z⟩
  keep := fun i h h' st k => by
    obtain ⟨hl, o, e, c, d⟩ := st
    exact ⟨hl, o, k it (by simp) o e, c, d⟩
  item := by
    intro X hP hw hK hc i pins s σ H E I hf st hg
    subst hP hw hK
    obtain ⟨hl, st⟩ := st
    have hg : i < x.cps.size := hg
    obtain ⟨f0, f1, f2, f3, f4, f5⟩ := hf it (by simp)
    have hx : x.cps[i]? = some x.cps[i] := by simp [hg]
    refine wpAny_pyNext_wide_item st hx fun h' st' sb => ?_
    have I1 : Inv X pins σ H { s with heap := h', toks := s.toks + 1 } := I.turned (fun b o hb e => (sb.2 b hb).trans e) f0 f1 f3 f4 f5
    obtain ⟨o, e, c, d⟩ := id st'
    exact ⟨_, rfl, go_of (s := { s with heap := h', toks := s.toks + 1 }) e c d (by decide) ⟨.str ⟨#[x.cps[i]]⟩, H, I1, ⟨_, rfl⟩, ⟨rfl, _, hx, rfl⟩, ⟨hg, st'⟩, fun b hb => (hf b hb).1⟩⟩
  done := by
    intro X hP hw hK hc i pins s σ H E I hf st hg
    subst hP hw hK
    obtain ⟨hl, st⟩ := st
    have hg : x.cps.size ≤ i := hg
    obtain ⟨f0, f1, f2, f3, f4, f5⟩ := hf it (by simp)
    exact wpAny_pyNext_wide_end (I.ok.hd hc) st (by simp; omega) fun h' eb => ⟨rfl, I.turned (t' := s.toks) (fun b o hb e => eb b o hb e) f0 f1 f3 f4 f5⟩
  self := fun _ _ _ _ _ st h => wpAny_pyIter_striter_wide st.2 h
section
variable {X : Cx} {tg : Expr}
def iStr (tl : TE) : TI := fun σ H R => tl σ H fun x H1 => ∃ z, x = .str z ∧ R (Its z) H1
theorem pi_str {l : Expr} {tl : TE} (hl : PE X l tl) : PI X tg l (iStr tl) := by
  intro pins s σ H R I h
  refine thn (hl pins s σ H _ I h) fun v s1 ⟨x, H1, I1, r1, q1⟩ => ?_
  obtain ⟨z, e, q⟩ := q1
  subst e
  obtain ⟨t, rfl⟩ := r1
  have fpn : ∀ b ∈ [s1.heap.objs.size], FpOk X pins H1 b := fun b hb => by
    have e : b = s1.heap.objs.size := by simpa using hb
    subst e
    exact I1.fpOk (Nat.le_refl _) (I1.hok.fresh (Nat.le_refl _))
  cases ha : z.cps.all (· < 128)
  · refine wpAny_pyIter_wide ha ?_
    exact ⟨s1.heap.objs.size, [s1.heap.objs.size], _, _, H1, rfl, I1.kept (t' := s1.toks) fun b o e => Heap.get?_push_of_some _ e, turn_strW _ z t, ⟨Nat.zero_le _, _, Heap.get?_push_size _ rfl, rfl, rfl⟩, fpn, q⟩
  · refine wpAny_pyIter_ascii ha ?_
    exact ⟨s1.heap.objs.size, [s1.heap.objs.size], _, _, H1, rfl, I1.kept (t' := s1.toks) fun b o e => Heap.get?_push_of_some _ e, turn_strA _ z t, ⟨Nat.zero_le _, _, Heap.get?_push_size _ rfl, rfl, rfl⟩, fpn, q⟩
end
theorem for_str {z : Str} {g : TG} {tb : TS} {D : Ends} {σ : St} {H : Hp} (Pv : Nat → St → Hp → Prop) (h0 : Pv 0 σ H)
    (hs : ∀ i c σ H, z.cps[i]? = some c → Pv i σ H → g (.str ⟨#[c]⟩) σ H fun σ2 H2 => tb { D with nx := Pv (i + 1), ct := Pv (i + 1), bk := D.nx } σ2 H2) (hd : ∀ σ H, Pv z.cps.size σ H → D.nx σ H) :
    ∃ W : Nat → Nat → St → Hp → Prop, (∃ m, W 0 m σ H) ∧ ∀ i m σ H, W i m σ H →
      ((Its z).stop i H ∧ D.nx σ H) ∨ ((Its z).go i H ∧ ∃ N : St → Hp → Prop, (∀ σ' H', N σ' H' → ∃ m', m' < m ∧ W (i + 1) m' σ' H') ∧ ∀ x H', (Its z).yld i H x H' → g x σ H' fun σ2 H2 => tb { D with nx := N, ct := N, bk := D.nx } σ2 H2) := by
  refine ⟨fun i m σ H => m = z.cps.size - i ∧ i ≤ z.cps.size ∧ Pv i σ H, ⟨z.cps.size, by simp, Nat.zero_le _, h0⟩, ?_⟩
  rintro i m σ H ⟨rfl, hi, p⟩
  by_cases hlt : i < z.cps.size
  · refine .inr ⟨hlt, Pv (i + 1), fun σ' H' p' => ⟨z.cps.size - (i + 1), by omega, rfl, hlt, p'⟩, fun x H' y => ?_⟩
    obtain ⟨e, c, hc, rfl⟩ := y
    subst e
    exact hs i c σ _ hc p
  · have e : i = z.cps.size := by omega
    subst e
    exact .inl ⟨Nat.le_refl _, hd σ H p⟩
def CN (n : Nat) (Pv : Nat → List V → Hp → Prop) (i : Nat) (ys : List V) (H : Hp) : Prop := ∃ m', m' < n - i ∧ m' = n - (i + 1) ∧ i + 1 ≤ n ∧ Pv (i + 1) ys H
theorem CN.of {n : Nat} {Pv : Nat → List V → Hp → Prop} {i : Nat} {ys : List V} {H : Hp} (h : i < n) (p : Pv (i + 1) ys H) : CN n Pv i ys H := ⟨n - (i + 1), by omega, rfl, h, p⟩
def CTurn (n : Nat) (Pv : Nat → List V → Hp → Prop) (tc : TT) (te : TE) (σ : St) (i : Nat) (ys : List V) (H : Hp) : Prop :=
  tc σ H fun b H2 => if b = true then te σ H2 fun y H3 => CN n Pv i (ys ++ [y]) H3 else CN n Pv i ys H2
theorem CTurn.no {n : Nat} {Pv : Nat → List V → Hp → Prop} {te : TE} {σ : St} {i : Nat} {ys : List V} {H : Hp} (h : te σ H fun y H3 => CN n Pv i (ys ++ [y]) H3) : CTurn n Pv tNoTest te σ i ys H := by
  unfold CTurn tNoTest
  exact iteT h
theorem comp_list {K : PySem.W.Frag} {a : Addr} {xs : List V} {caps : List Nat} {tc : TT} {te : TE} {σ : St} {H : Hp} {Q : VK} (Pv : Nat → List V → Hp → Prop) (h0 : Pv 0 [] H) (hl : ∀ i ys H, i ≤ xs.length → Pv i ys H → SqL K H a xs ∧ ys.length ≤ i)
    (hz : xs.length ≤ sizeLine) (hs : ∀ i x ys H, i < xs.length → xs[i]? = some x → Pv i ys H → CTurn xs.length Pv tc te (some x :: capV σ caps) i ys H)
    (hd : ∀ ys H p, Pv xs.length ys H → H p = none → Q (.ref p) (upd H p (.lst ys))) : tCompW caps tc te (Itl K a) σ H Q := by
  refine ⟨fun i m ys H => m = xs.length - i ∧ i ≤ xs.length ∧ Pv i ys H, ⟨xs.length, by simp, Nat.zero_le _, h0⟩, ?_⟩
  rintro i m ys H ⟨rfl, hi, p⟩
  obtain ⟨q, hy⟩ := hl i ys H hi p
  by_cases hlt : i < xs.length
  · refine .inr ⟨⟨xs, xs[i], q, by simp [hlt]⟩, by omega, fun x H' y => ?_⟩
    obtain ⟨e, y⟩ := y
    subst e
    exact hs i x ys _ hlt (y xs q) p
  · have e : i = xs.length := by omega
    subst e
    exact .inl ⟨⟨xs, q, Nat.le_refl _⟩, by omega, fun p' hp => hd ys H p' p hp⟩
theorem comp_range {lo : Int} {n : Nat} {caps : List Nat} {tc : TT} {te : TE} {σ : St} {H : Hp} {Q : VK} (Pv : Nat → List V → Hp → Prop) (h0 : Pv 0 [] H) (hl : ∀ i ys H, i ≤ n → Pv i ys H → ys.length ≤ i)
    (hz : n ≤ sizeLine) (hs : ∀ i ys H, i < n → Pv i ys H → CTurn n Pv tc te (some (.int (lo + i)) :: capV σ caps) i ys H)
    (hd : ∀ ys H p, Pv n ys H → H p = none → Q (.ref p) (upd H p (.lst ys))) : tCompW caps tc te (Itr lo n) σ H Q := by
  refine ⟨fun i m ys H => m = n - i ∧ i ≤ n ∧ Pv i ys H, ⟨n, by simp, Nat.zero_le _, h0⟩, ?_⟩
  rintro i m ys H ⟨rfl, hi, p⟩
  have hy := hl i ys H hi p
  by_cases hlt : i < n
  · refine .inr ⟨hlt, by omega, fun x H' y => ?_⟩
    obtain ⟨e, y⟩ := y
    subst e y
    exact hs i ys _ hlt p
  · have e : i = n := by omega
    subst e
    exact .inl ⟨Nat.le_refl _, by omega, fun p' hp => hd ys H p' p hp⟩
theorem strsAre_of {ys : List Str} : ∀ {us : List Value}, Vals (ys.map V.str) us → StrsAre us ys := by
  induction ys with
  | nil => intro us r; rw [List.map_nil] at r; cases r; exact .nil
  | cons n ns ih =>
    intro us r
    rw [List.map_cons] at r
    cases r with
    | cons r1 r2 =>
      obtain ⟨t, e⟩ := r1
      subst e
      exact .cons n t (ih r2)
def rJoin (K : PySem.W.Frag) : V → List V → Hp → VK → Prop := fun x vs H Q => ∃ z a ys, x = .str z ∧ vs = [.ref a] ∧ SqL K H a (ys.map V.str) ∧ (ys.map (·.length)).sum + ys.length * z.length ≤ 16777216 ∧ Q (.str (Txt.join z ys)) H
section
variable {X : Cx}
theorem mt_join : MtR X "str.join" (rJoin X.K) := by
  intro pins s σ H x vs v us Q I rx rv h
  obtain ⟨z, a, ys, rfl, rfl, hq, hz, q⟩ := h
  obtain ⟨t, rfl⟩ := rx
  obtain ⟨u, rfl, ru⟩ := rv.one
  cases ru
  obtain ⟨its, r, pl, hl⟩ := I.list hq
  exact join_list pl.isList (strsAre_of (by simpa using r)) hz fun t' k => ⟨.str _, H, I.tok _, ⟨_, rfl⟩, q⟩
def rIsi (K : PySem.W.Frag) : List V → Hp → VK → Prop := fun vs H Q => ∃ x t b, TyOf K H x t ∧
  ((∃ n, vs = [x, .ty n] ∧ PySem.W.kitOne K t (.type n) = some b) ∨ (∃ a, vs = [x, .ref a] ∧ PySem.W.kitOne K t (.ref a) = some b)) ∧ Q (.bl b) H
def eqL : List V → List V → Bool
  | [], [] => true
  | x :: xs, y :: ys => eqV x y && eqL xs ys
  | _, _ => false
theorem eqV_refl {x : V} (h : flatV x = true) : eqV x x = true := by
  cases x with
  | non => rfl
  | bl b => simp [eqV]
  | int i => simp [eqV]
  | str z => simp [eqV]
  | _ => exact absurd (show false = true from h) Bool.false_ne_true
def rEqL (K : PySem.W.Frag) : R2 := fun x y H Q => ∃ p q xs ys, x = .ref p ∧ y = .ref q ∧ SqL K H p xs ∧ SqL K H q ys ∧ xs.all flatV = true ∧ ys.all flatV = true ∧ Q (.bl (eqL xs ys)) H
end
end L2
namespace L2
open PySem
def tx (l : List Nat) : Str := ⟨l.toArray⟩
theorem tx_len (l : List Nat) : (tx l).length = l.length := by simp [tx, Str.length]
theorem tx_list (l : List Nat) : (tx l).cps.toList = l := by simp [tx]
theorem tx_get (l : List Nat) (i : Nat) : (tx l).cps[i]? = l[i]? := by simp [tx]
theorem tx_app (a b : List Nat) : tx a ++ tx b = tx (a ++ b) := by
  show Str.append (tx a) (tx b) = _
  simp [tx, Str.append]
theorem tx_inj {a b : List Nat} (h : tx a = tx b) : a = b := by
  have := congrArg (fun z : Str => z.cps.toList) h
  simpa [tx] using this
theorem tx_one (c : Nat) : (⟨#[c]⟩ : Str) = tx [c] := rfl
theorem glue_fold : ∀ (ys : List (List Nat)) (acc : Array Nat), (ys.map tx).foldl (fun acc p => acc ++ (tx []).cps ++ p.cps) acc = acc ++ ys.flatten.toArray
  | [], acc => by simp
  | y :: ys, acc => by
    rw [List.map_cons, List.foldl_cons, glue_fold ys]
    simp [tx]
theorem tx_join : ∀ (ys : List (List Nat)), Txt.join (tx []) (ys.map tx) = tx ys.flatten
  | [] => by simp [Txt.join, Builtin.Str.glued, tx, Str.empty]
  | y :: ys => by
    show Str.mk _ = _
    simp only [List.map_cons, List.drop_one, List.tail_cons, List.headD_cons]
    rw [glue_fold]
    simp [tx]
theorem flat1 {α : Type} (f : α → Nat) : ∀ (l : List α), (l.map fun c => [f c]).flatten = l.map f
  | [] => rfl
  | a :: l => by rw [List.map_cons, List.flatten_cons, flat1 f l]; rfl
theorem sum1 {α : Type} (f : α → Nat) : ∀ (l : List α), (((l.map fun c => [f c]).map tx).map (·.length)).sum = l.length
  | [] => rfl
  | a :: l => by
    rw [List.map_cons, List.map_cons, List.map_cons, List.sum_cons, sum1 f l, tx_len, List.length_cons]
    show 1 + l.length = l.length + 1
    omega
end L2
set_option maxRecDepth 100000
set_option linter.all false
namespace PySem
open Sem (wp)
open Builtin Builtin.Str Builtin.Int
namespace RV
end RV
def revS (x : Str) (t : Tok) (i : Int) : Obj := { cls := .type "reversed", data := .fields #[.str x t, rawInt i] }
def Heap.IsRevS (h : Heap) (a : Addr) (x : Str) (t : Tok) (i : Int) : Prop := ∃ o, h.get? a = some o ∧ o.cls = .type "reversed" ∧ o.data = .fields #[.str x t, rawInt i]
section
variable {prog : Program} {w : World} {A : Around} {E : Value → Shared → Prop} {s : Shared}
end
end PySem
set_option Elab.async false
set_option linter.all false
set_option maxRecDepth 100000
namespace L2
open PySem PySem.Spec PyProof.Rows
def revO (p : Addr) (x : Str) : HO := .ext fun h => ∃ t, h.IsRevS p x t ((x.length : Int) - 1)
def anyO (p : Addr) : HO := .ext fun h => ∃ o, h.get? p = some o
section
variable {X : Cx}
end
end L2
set_option Elab.async false
set_option linter.all false
set_option maxRecDepth 100000
namespace L2
open PySem PySem.Spec PyProof.Rows
theorem iteDn {c A B : Prop} [Decidable c] (h : ¬ c) (k : B) : if decide c = true then A else B := by rw [decide_eq_false h]; exact iteF k
theorem iteDp {c A B : Prop} [Decidable c] (h : c) (k : A) : if decide c = true then A else B := by rw [decide_eq_true h]; exact iteT k
theorem iteNp {c A B : Prop} [Decidable c] (h : ¬ c) (k : A) : if (!decide c) = true then A else B := by rw [decide_eq_false h]; exact iteT k
theorem iteB {b : Bool} {A B : Prop} (h1 : b = true → A) (h2 : b = false → B) : if b = true then A else B := by
  cases b with
  | true => exact iteT (h1 rfl)
  | false => exact iteF (h2 rfl)
theorem ite2D {c A B : Prop} [Decidable c] (h1 : c → A) (h2 : ¬ c → B) : if decide c = true then A else B := by
  by_cases h : c
  · exact iteDp h (h1 h)
  · exact iteDn h (h2 h)
theorem Same.upd {H : Hp} {p : Addr} {o : HO} (h : H p = none) : Same H (L2.upd H p o) := fun b o' e => by rw [upd_ne (ne_of_none e h)]; exact e
theorem Same.new {H H1 : Hp} {p : Addr} {o : HO} (e : Same H H1) (h : H1 p = none) : Same H (L2.upd H1 p o) := e.trans (.upd h)
theorem Same.over {H H1 : Hp} {p : Addr} {o : HO} (e : Same H H1) (h : H p = none) : Same H (L2.upd H1 p o) := fun b o' q => by rw [upd_ne (ne_of_none q h)]; exact e b o' q
theorem bt_len : bootBuiltins "len" = some (.builtin "len") := by decide +kernel
theorem bt_isinstance : bootBuiltins "isinstance" = some (.builtin "isinstance") := by decide +kernel
theorem bt_sum : bootBuiltins "sum" = some (.builtin "sum") := by decide +kernel
theorem bt_sorted : bootBuiltins "sorted" = some (.builtin "sorted") := by decide +kernel
theorem bt_list : bootBuiltins "list" = some (.type "list") := by decide +kernel
theorem bt_int : bootBuiltins "int" = some (.type "int") := by decide +kernel
theorem bt_reversed : bootBuiltins "reversed" = some (.type "reversed") := by decide +kernel
theorem bt_enumerate : bootBuiltins "enumerate" = some (.type "enumerate") := by decide +kernel
theorem bt_zip : bootBuiltins "zip" = some (.type "zip") := by decide +kernel
theorem bt_range : bootBuiltins "range" = some (.type "range") := by decide +kernel
structure Df (K : PySem.W.Frag) (mg : Str → Option Value) (x : Str) (st : Stmt) (ps : List Str) (f : Addr) (fd : FuncData) : Prop where
  F : Fun K x x st f fd
  m : mg x = some (.ref f)
  b : Binds K fd ps []
def vS (cl : List (List Nat)) : List V := cl.map fun t => V.str (tx t)
def vI (ns : List Int) : List V := ns.map V.int
theorem vS_len (cl : List (List Nat)) : (vS cl).length = cl.length := by unfold vS; rw [List.length_map]
theorem vI_len (ns : List Int) : (vI ns).length = ns.length := by unfold vI; rw [List.length_map]
theorem vS_get {cl : List (List Nat)} {i : Nat} {t : List Nat} (h : cl[i]? = some t) : (vS cl)[i]? = some (.str (tx t)) := by unfold vS; rw [List.getElem?_map, h]; rfl
theorem vI_get {ns : List Int} {i : Nat} {n : Int} (h : ns[i]? = some n) : (vI ns)[i]? = some (.int n) := by unfold vI; rw [List.getElem?_map, h]; rfl
theorem vS_got {cl : List (List Nat)} {i : Nat} {v : V} (h : (vS cl)[i]? = some v) : ∃ t, cl[i]? = some t ∧ v = .str (tx t) := by
  unfold vS at h
  rw [List.getElem?_map] at h
  cases e : cl[i]? with
  | none => rw [e] at h; cases h
  | some t => rw [e] at h; exact ⟨t, rfl, (Option.some.inj h).symm⟩
theorem vI_got {ns : List Int} {i : Nat} {v : V} (h : (vI ns)[i]? = some v) : ∃ t, ns[i]? = some t ∧ v = .int t := by
  unfold vI at h
  rw [List.getElem?_map] at h
  cases e : ns[i]? with
  | none => rw [e] at h; cases h
  | some t => rw [e] at h; exact ⟨t, rfl, (Option.some.inj h).symm⟩
theorem vI_flat (ns : List Int) : (vI ns).all flatV = true := by unfold vI; rw [List.all_map]; exact List.all_eq_true.mpr fun _ _ => rfl
theorem vS_map (cl : List (List Nat)) : vS cl = (cl.map tx).map V.str := by unfold vS; rw [List.map_map]; rfl
theorem vI_set (ns : List Int) (j : Nat) (n : Int) : (vI ns).set j (.int n) = vI (ns.set j n) := by unfold vI; rw [List.map_set]
theorem vI_app (ns : List Int) (n : Int) : vI ns ++ [.int n] = vI (ns ++ [n]) := by unfold vI; rw [List.map_append]; rfl
theorem vS_app (cl : List (List Nat)) (t : List Nat) : vS cl ++ [.str (tx t)] = vS (cl ++ [t]) := by unfold vS; rw [List.map_append]; rfl
theorem atI_of {α : Type} {xs : List α} {i : Int} {v : α} (h0 : 0 ≤ i) (h : xs[i.toNat]? = some v) : atI xs i = some v := by
  have e : i = (i.toNat : Int) := by omega
  rw [e]
  exact atI_nat h
theorem ixN_of {n : Nat} {i : Int} (h0 : 0 ≤ i) (h : i < n) : ixN n i = some i.toNat := by unfold ixN; rw [if_pos h0, if_pos h]
end L2
set_option Elab.async false
set_option linter.all false
set_option maxRecDepth 100000
namespace L2
open PySem PySem.Spec PyProof.Rows
section
variable {X : Cx} {K : PySem.W.Frag} {tg : Expr}
theorem ix_listK (hK : X.K = K := by rfl) : IxR X (rIxL K) := by subst hK; exact ix_list
theorem ix_tupK (hK : X.K = K := by rfl) : IxR X (rIxT K) := by subst hK; exact ix_tup
theorem op_in_seqK (hK : X.K = K := by rfl) : OpR X (compareOp .In) (rIn K false) := by subst hK; exact op_in_seq
theorem op_notIn_seqK (hK : X.K = K := by rfl) : OpR X (compareOp .NotIn) (rIn K true) := by subst hK; exact op_notIn_seq
theorem call_len_seqK (hK : X.K = K := by rfl) : CallR X (.builtin "len") (fun xs H Q => ∃ p ys, xs = [.ref p] ∧ (SqL K H p ys ∨ SqT K H p ys) ∧ Q (.int ys.length) H) := by subst hK; exact call_len_seq
theorem call_list_ofK (hK : X.K = K := by rfl) : CallR X (.type "list") (fun xs H Q => ∃ p ys, xs = [.ref p] ∧ (SqL K H p ys ∨ SqT K H p ys) ∧ ∀ l, H l = none → Q (.ref l) (upd H l (.lst ys))) := by subst hK; exact call_list_of
theorem mt_joinK (hK : X.K = K := by rfl) : MtR X "str.join" (rJoin K) := by subst hK; exact mt_join
theorem sl_listK (hK : X.K = K := by rfl) : SlR X (rSlL K) := by subst hK; exact sl_list
theorem pi_listK {l : Expr} {tl : TE} (hl : PE X l tl) (hK : X.K = K := by rfl) : PI X tg l (iList K tl) := by subst hK; exact pi_list hl
theorem pt_truthK {a : Expr} {ta : TE} (ha : PE X a ta) (he : ∀ whole, isTrue a X.env whole = (do let v ← whole; standAt a.pos; holding [v] (truthy v))) (hK : X.K = K := by rfl) :
    PT X a (fun σ H Q => ta σ H fun x H' => ∃ k, TruV K x H' k ∧ Q k H') := by subst hK; exact pt_truth ha he
variable {o e : Expr} {es : List Expr} {to : TE} {t : TA} {name : Str} {apos cpos : Pos} {T id : String} {r : V → List V → Hp → VK → Prop}
theorem pe_bmK (pa : PlainAttrs T) (slot : Slot T name id) (hty : typeOf (.builtin id) = pure (.type "method_descriptor")) (hm : MtR X id r) (ho : PE X o to) (ha : PA X (e :: es) t)
    (hbase : attributeBase o name X.env (eval o X.env) = eval o X.env := by rfl)
    (hfew : ((backTo cpos (starEach (e :: es) X.env)).all (fun x => !x.1) && (backToKw cpos (keywordEach [] X.env)).all (fun x => x.1.isSome)
      && decide ((e :: es).length + ([] : List Keyword).length + (if ([] : List Keyword).isEmpty then 0 else 1) < 30)) = true := by rfl)
    (hline : (apos.endLine == cpos.line) = true := by rfl) (hs : starEach (e :: es) X.env = (false, eval e X.env) :: starEach es X.env := by rfl) (hplain : (backTo cpos (starEach es X.env)).any (·.1) = false := by rfl) (hK : X.K = K := by rfl) :
    PE X (.Call (.Attribute o name apos) (e :: es) [] cpos) (tBM K T r to t) := by
  subst hK
  exact pe_bm pa slot hty hm ho ha hbase hfew hline hs hplain
end
end L2
set_option Elab.async false
set_option linter.all false
set_option maxRecDepth 100000
namespace L2
open PySem PySem.Spec PyProof.Rows
abbrev exO (C t : Addr) (tb : Value) : Obj := { cls := .ref C, data := .fields #[.ref t, tb, .none, .none, .bool false, .none] }
structure Fx (B : Heap) (l : List Env) (e C t : Addr) (fl : Value) (h : Heap) : Prop where
  st : B.StaysIn h
  ne : B.get? e = none
  fr : h.FunFrames B l
  ob : ∃ (T : Addr) (oT : Obj) (ts : Array Value), h.get? e = some (exO C t (.ref T)) ∧ B.get? T = none ∧ T ≠ e ∧ h.get? T = some oT ∧ oT.data = .fields ts ∧ ts[3]? = some fl
theorem Fx.outer {B : Heap} {env : Env} {l : List Env} {e C t : Addr} {fl : Value} {h : Heap} (x : Fx B (env :: l) e C t fl h) : Fx B l e C t fl h := ⟨x.st, x.ne, x.fr.2.2, x.ob⟩
section
variable {M : Model} {A : Around} {E : Value → Shared → Prop} {s : Shared} {B : Heap} {env : Env} {l : List Env} {e C t L : Addr}
theorem fx_land {fl : Value} {Q : Unit → Shared → Prop} (x : Fx B l e C t fl s.heap) (k : ∀ h', Fx B l e C t .none h' → s.heap.UpToSlots h' → Q () { s with heap := h' }) : wpAny M A (setFlight (.ref e) none) Q E s := by
  obtain ⟨st, ne, fr, T, oT, ts, hE, hBT, hTe, hT, hdT, h3⟩ := x
  have h3s : 3 < ts.size := (Array.getElem?_eq_some_iff.mp h3).1
  unfold setFlight
  refine wpAny_bind (wpAny_field hE rfl (x := .ref T) rfl ?_)
  rw [if_pos (show (Value.ref T != Value.none) = true by simp)]
  refine wpAny_setField hT hdT h3s (k _ ?_ ?_)
  all_goals
    have oth : ∀ b, b ≠ T → (s.heap.update T (Obj.mapFields (·.setIfInBounds 3 ((none : Option Addr).elim Value.none fun f => rawInt f)))).get? b = s.heap.get? b := fun b hb => Heap.get?_update_other _ _ (Ne.symm hb)
    have nrec : ∀ b o, s.heap.get? b = some o → (∀ vs, o.data ≠ .fields vs) → b ≠ T := fun b o hb hn q => by
      rw [q, hT] at hb
      cases hb
      exact hn ts hdT
  · refine ⟨fun b o hb => (oth b fun q => by rw [q, hBT] at hb; cases hb).trans (st b o hb), ne, fr.of_keeps fun b o hb hn => ⟨o, (oth b (nrec b o hb hn)).trans hb, rfl⟩, T, _, _, (oth e (Ne.symm hTe)).trans hE, hBT, hTe,
      Heap.get?_update_self _ hT (Obj.isFreed_of_fields (Obj.data_mapFields hdT _)), Obj.data_mapFields hdT _, ?_⟩
    simp [h3s]
  · exact fun b o hb hn => ⟨o.slots, (oth b (nrec b o hb hn)).trans hb⟩
theorem fx_enter {tb : Value} {had : Bool} {Q : Unit → Shared → Prop} (hfr : A.frames = some (env :: l)) (hf : env.frame = some L) (st : B.StaysIn s.heap) (ne : B.get? e = none) (fr : s.heap.FunFrames B (env :: l))
    (hE : s.heap.get? e = some (exO C t tb)) (k : ∀ h', Fx B (env :: l) e C t (rawInt L) h' → s.heap.UpToSlots h' → Q () { s with heap := h' }) :
    wpAny M A (do let a ← frameOf env; let pl ← entryPlaceOf L had; let b ← EntryCells.newEntry tb a .none (rawInt L) .none pl; setField (.ref e) 1 b) Q E s := by
  have eF : e ∉ (env :: l).filterMap (·.frame) := fun hm => by
    obtain ⟨_, o, ho, hn⟩ := fr.mem hm
    rw [hE] at ho
    cases ho
    exact hn _ rfl
  refine wpAny_bind (wpAny_frameOf_fun hfr fr hf fun h1 so => wpAny_bind (wpAny_entryPlaceOf fun pl hpl => ?_))
  unfold EntryCells.newEntry newFields
  refine wpAny_bind (wpAny_newObj_type ?_ (hpl.sizeOk5 _ _ _ _ _))
  have E1 : h1.get? e = some (exO C t tb) := (so.2.1 e eF).trans hE
  have st1 : B.StaysIn h1 := fun b o hb => (so.2.1 b fun hm => by rw [(fr.mem hm).1] at hb; cases hb).trans (st b o hb)
  have TE : h1.objs.size ≠ e := Nat.ne_of_gt (Heap.lt_size E1)
  generalize hN : ({ cls := .type "traceback", dict := none, data := .fields ([tb, .ref L, .none, rawInt L, .none] ++ (if pl.isEmpty then List.replicate 6 Value.none else pl)).toArray } : Obj) = nT
  have E2 : (h1.push nT).get? e = some (exO C t tb) := Heap.get?_push_of_some nT E1
  refine wpAny_setField (s := { s with heap := h1.push nT }) E2 rfl (by show 1 < 6; decide) (k _ ?_ ?_)
  all_goals
    have kp : ∀ b o, b ≠ e → h1.get? b = some o → ((h1.push nT).update e (Obj.mapFields (·.setIfInBounds 1 (Value.ref h1.objs.size)))).get? b = some o := fun b o hb q =>
      (Heap.get?_update_other _ _ (Ne.symm hb)).trans (Heap.get?_push_of_some nT q)
    have nrec : ∀ b o, s.heap.get? b = some o → (∀ vs, o.data ≠ .fields vs) → b ≠ e := fun b o hb hn q => by
      rw [q, hE] at hb
      cases hb
      exact hn _ rfl
  · have freed : nT.isFreed = false := by rw [← hN]; rfl
    refine ⟨fun b o hb => kp b o (fun q => by rw [q, ne] at hb; cases hb) (st1 b o hb), ne, fr.of_keeps fun b o hb hn => ?_, h1.objs.size, nT, _, Heap.get?_update_self _ E2 rfl, st1.fresh, TE,
      (Heap.get?_update_other _ _ (Ne.symm TE)).trans (Heap.get?_push_size h1 freed), by rw [← hN], by simp⟩
    obtain ⟨sl, q⟩ := so.2.2 b o hb
    exact ⟨_, kp b _ (nrec b o hb hn) q, rfl⟩
  · intro b o hb hn
    obtain ⟨sl, q⟩ := so.2.2 b o hb
    exact ⟨sl, kp b _ (nrec b o hb hn) q⟩
theorem fx_note0 {Q : Unit → Shared → Prop} (hfr : A.frames = some (env :: l)) (hf : env.frame = some L) (st : B.StaysIn s.heap) (ne : B.get? e = none) (fr : s.heap.FunFrames B (env :: l))
    (hE : s.heap.get? e = some (exO C t .none)) (k : ∀ h', Fx B (env :: l) e C t (rawInt L) h' → s.heap.UpToSlots h' → Q () { s with heap := h' }) : wpAny M A (noteFrame (.ref e) env) Q E s := by
  unfold noteFrame
  simp only [hf]
  refine wpAny_bind (wpAny_field hE rfl (x := .none) rfl ?_)
  rw [if_neg (by decide)]
  exact fx_enter hfr hf st ne fr hE k
theorem fx_note {Q : Unit → Shared → Prop} (hfr : A.frames = some (env :: l)) (hf : env.frame = some L) (x : Fx B (env :: l) e C t .none s.heap)
    (k : ∀ h', Fx B (env :: l) e C t (rawInt L) h' → s.heap.UpToSlots h' → Q () { s with heap := h' }) : wpAny M A (noteFrame (.ref e) env) Q E s := by
  obtain ⟨st, ne, fr, T, oT, ts, hE, hBT, hTe, hT, hdT, h3⟩ := x
  unfold noteFrame
  simp only [hf]
  refine wpAny_bind (wpAny_field hE rfl (x := .ref T) rfl ?_)
  rw [if_pos (show (Value.ref T != Value.none) = true by simp)]
  refine wpAny_bind (wpAny_field hT hdT h3 ?_)
  rw [if_neg (show ¬ ((Value.none == rawInt L) = true) by simp [rawInt])]
  refine wpAny_bind (wpAny_setField hT hdT (Array.getElem?_eq_some_iff.mp h3).1 ?_)
  have oth : ∀ b, b ≠ T → (s.heap.update T (Obj.mapFields (·.setIfInBounds 3 Value.none))).get? b = s.heap.get? b := fun b hb => Heap.get?_update_other _ _ (Ne.symm hb)
  have nrec : ∀ b o, s.heap.get? b = some o → (∀ vs, o.data ≠ .fields vs) → b ≠ T := fun b o hb hn q => by
    rw [q, hT] at hb
    cases hb
    exact hn ts hdT
  exact fx_enter (s := { s with heap := s.heap.update T (Obj.mapFields (·.setIfInBounds 3 Value.none)) }) hfr hf (fun b o hb => (oth b fun q => by rw [q, hBT] at hb; cases hb).trans (st b o hb)) ne
    (fr.of_keeps fun b o hb hn => ⟨o, (oth b (nrec b o hb hn)).trans hb, rfl⟩) ((oth e (Ne.symm hTe)).trans hE)
    fun h' y u => k h' y fun b o hb hn => u b o ((oth b (nrec b o hb hn)).trans hb) hn
end
end L2
set_option Elab.async false
set_option linter.all false
set_option maxRecDepth 100000
namespace L2
open PySem PySem.Spec PyProof.Rows
section
variable {M : Model} {A : Around} {E : Value → Shared → Prop} {s : Shared} {B : Heap} {env : Env} {l : List Env} {e C t L : Addr}
theorem fx_flight {fl : Value} {f : Option Addr} {Q : Unit → Shared → Prop} (x : Fx B l e C t fl s.heap) (k : ∀ h', Fx B l e C t (f.elim Value.none fun f => rawInt f) h' → s.heap.UpToSlots h' → Q () { s with heap := h' }) : wpAny M A (setFlight (.ref e) f) Q E s := by
  obtain ⟨st, ne, fr, T, oT, ts, hE, hBT, hTe, hT, hdT, h3⟩ := x
  have h3s : 3 < ts.size := (Array.getElem?_eq_some_iff.mp h3).1
  unfold setFlight
  refine wpAny_bind (wpAny_field hE rfl (x := .ref T) rfl ?_)
  rw [if_pos (show (Value.ref T != Value.none) = true by simp)]
  refine wpAny_setField hT hdT h3s (k _ ?_ ?_)
  all_goals
    have oth : ∀ b, b ≠ T → (s.heap.update T (Obj.mapFields (·.setIfInBounds 3 (f.elim Value.none fun f => rawInt f)))).get? b = s.heap.get? b := fun b hb => Heap.get?_update_other _ _ (Ne.symm hb)
    have nrec : ∀ b o, s.heap.get? b = some o → (∀ vs, o.data ≠ .fields vs) → b ≠ T := fun b o hb hn q => by
      rw [q, hT] at hb
      cases hb
      exact hn ts hdT
  · refine ⟨fun b o hb => (oth b fun q => by rw [q, hBT] at hb; cases hb).trans (st b o hb), ne, fr.of_keeps fun b o hb hn => ⟨o, (oth b (nrec b o hb hn)).trans hb, rfl⟩, T, _, _, (oth e (Ne.symm hTe)).trans hE, hBT, hTe,
      Heap.get?_update_self _ hT (Obj.isFreed_of_fields (Obj.data_mapFields hdT _)), Obj.data_mapFields hdT _, ?_⟩
    simp [h3s]
  · exact fun b o hb hn => ⟨o.slots, (oth b (nrec b o hb hn)).trans hb⟩
theorem fx_noteN {Q : Unit → Shared → Prop} (hf : env.frame = some L) (x : Fx B l e C t (rawInt L) s.heap) (k : Q () s) : wpAny M A (noteFrame (.ref e) env) Q E s := by
  obtain ⟨st, ne, fr, T, oT, ts, hE, hBT, hTe, hT, hdT, h3⟩ := x
  unfold noteFrame
  simp only [hf]
  refine wpAny_bind (wpAny_field hE rfl (x := .ref T) rfl ?_)
  rw [if_pos (show (Value.ref T != Value.none) = true by simp)]
  refine wpAny_bind (wpAny_field hT hdT h3 ?_)
  rw [if_pos (show ((rawInt L == rawInt L) = true) by simp)]
  exact wpAny_pure k
end
structure Bk (P : Program) (w : World) (outer : List Env) (H : Hp) (h : Heap) (H' : Hp) (B h' : Heap) : Prop where
  ok : HOk P w H' B
  keep : ∀ b o, h.get? b = some o → H b = none → b ∉ frs outer → B.get? b = some o
  slot : ∀ b o, h.get? b = some o → b ∈ frs outer → ∃ sl, h'.get? b = some { o with slots := sl }
  free : ∀ b o, h.get? b = some o → H b = none → H' b = none
  there : ∀ b o, h.get? b = some o → b ∉ frs outer → ∃ o', B.get? b = some o'
  tups : ∀ b xs, H b = some (.tup xs) → H' b = some (.tup xs)
  frzs : ∀ b o u, H b = some (.frz o u) → H' b = some (.frz o u)
  tbls : ∀ b ps, H b = some (.tbl ps) → ∃ more, H' b = some (.tbl (ps ++ more))
theorem Bk.slots {P : Program} {w : World} {outer : List Env} {H H' : Hp} {h B h1 h2 : Heap} (k : Bk P w outer H h H' B h1) (fr : h1.FunFrames B outer) (u : h1.UpToSlots h2) : Bk P w outer H h H' B h2 :=
  ⟨k.ok, k.keep, fun b o q hb => by
    obtain ⟨sl, e⟩ := k.slot b o q hb
    obtain ⟨_, o2, e2, n2⟩ := fr.mem hb
    rw [e] at e2
    cases e2
    obtain ⟨sl2, e3⟩ := u b _ e n2
    exact ⟨sl2, e3⟩, k.free, k.there, k.tups, k.frzs, k.tbls⟩
def CX1 (P : Program) (w : World) : CXT := fun outer H s E e s' => ∃ ea C t H' B, e = .ref ea ∧ Fx B outer ea C t .none s'.heap ∧ s'.os = s.os ∧ AllBare s'.gens ∧ Bk P w outer H s.heap H' B s'.heap ∧ E (.ref C) none H'
inductive Fly (B : Heap) (l : List Env) (L ea C t : Addr) (h : Heap) : Prop where
  | new (st : B.StaysIn h) (ne : B.get? ea = none) (fr : h.FunFrames B l) (ob : h.get? ea = some (exO C t .none))
  | came (x : Fx B l ea C t .none h)
  | seen (x : Fx B l ea C t (rawInt L) h)
theorem Fly.fr {B : Heap} {l : List Env} {L ea C t : Addr} {h : Heap} (x : Fly B l L ea C t h) : h.FunFrames B l := by
  cases x with
  | new st ne fr ob => exact fr
  | came x => exact x.fr
  | seen x => exact x.fr
def FlX (X : Cx) (E : XK) : Value → Shared → Prop := fun e s' => ∃ ea C t H' B, e = .ref ea ∧ Fly B X.stack X.env.locals ea C t s'.heap ∧ s'.os = X.s₀.os ∧ AllBare s'.gens ∧ Bk X.prog X.w X.outer X.H₀ X.s₀.heap H' B s'.heap ∧ E (.ref C) none H'
structure Body (X : Cx) : Prop where
  stack : X.stack = X.env :: X.outer
  frame : X.env.frame = some X.env.locals
  ex : X.ex = []
section
variable {X : Cx} {pins : List (Addr × Obj)} {σ : St} {H : Hp} {s s' : Shared} {E : XK} {e : Value}
theorem Inv.frsN (I : Inv X pins σ H s) {b : Addr} {o : Obj} (q : X.s₀.heap.get? b = some o) (hb : b ∉ X.fs) : b ∉ frs X.stack := fun hm => by
  rcases List.mem_cons.mp (I.stkSub b hm) with z | z
  · rw [z] at q
    exact absurd (Nat.lt_of_lt_of_le (Heap.lt_size q) I.ok.above) (Nat.lt_irrefl _)
  · exact hb z
theorem passX (hB : Body X) (I : Inv X pins σ H s) (c : CX1 X.prog X.w X.stack H s E e s') : FlX X E e s' := by
  obtain ⟨ea, C, t, H', B, rfl, fx, os, bare, bk, q⟩ := c
  have nx : ∀ b : Addr, b ∉ X.ex := fun b z => by rw [hB.ex] at z; exact nomatch z
  have fsS : ∀ b, b ∈ X.fs → b ∈ frs X.stack := fun b hb => by
    rw [hB.stack]; unfold frs; rw [List.filterMap_cons, hB.frame]; exact List.mem_cons_of_mem _ hb
  refine ⟨ea, C, t, H', B, rfl, .came fx, os.trans I.os, bare, ⟨bk.ok, fun b o e n hb => ?_, fun b o e hb => ?_, fun b o e n => ?_, fun b o e hb => ?_, fun b xs e => bk.tups b xs (I.base.tups b xs e), fun b o u e => bk.frzs b o u (I.base.frzs b o u e), fun b ps e => ?_⟩, q⟩
  · exact bk.keep b o (I.base.keep b o e n hb (nx b)) (I.base.free b o e n (nx b)) (I.frsN e hb)
  · obtain ⟨sl, e1⟩ := I.base.slot b o e (I.ok.frf b hb) hb (nx b)
    obtain ⟨sl2, e2⟩ := bk.slot b _ e1 (fsS b hb)
    exact ⟨sl2, e2⟩
  · obtain ⟨o', e1⟩ := I.base.there b o e (nx b)
    exact bk.free b o' e1 (I.base.free b o e n (nx b))
  · obtain ⟨o', e1⟩ := I.base.there b o e (nx b)
    exact bk.there b o' e1 (I.frsN e hb)
  · obtain ⟨m1, e1⟩ := I.base.tbls b ps e
    obtain ⟨m2, e2⟩ := bk.tbls b _ e1
    exact ⟨m1 ++ m2, by rw [e2, Array.append_assoc]⟩
theorem madeX {h' : Heap} {ea C : Addr} {vs : List Value} (hB : Body X) (I : Inv X pins σ H s) (hx : Heap.MadeExcOf s.heap h' ea (.ref C) vs) (q : E (.ref C) none H) : FlX X E (.ref ea) { s with heap := h' } := by
  obtain ⟨t, ht, _, _⟩ := hx.there
  have nx : ∀ b : Addr, b ∉ X.ex := fun b z => by rw [hB.ex] at z; exact nomatch z
  have nfr : ∀ b u, H b = some u → b ∉ frs X.stack := fun b u e hm => by rw [I.stkFree b hm] at e; cases e
  refine ⟨ea, C, t, H, PySem.W.hideAll s.heap (frs X.stack), rfl, .new (fun b o e => hx.keeps b o (PySem.W.of_hideAll _ e)) ?_ ?_ ht, I.os, I.bare, ⟨fun b u e => ?_, fun b o e n hb => ?_, fun b o e hb => ?_, fun b o e n => I.base.free b o e n (nx b), fun b o e hb => ?_, I.base.tups, I.base.frzs, I.base.tbls⟩, q⟩
  · cases z : (PySem.W.hideAll s.heap (frs X.stack)).get? ea with
    | none => rfl
    | some o =>
      have := PySem.W.of_hideAll _ z
      rw [hx.new] at this
      cases this
  · exact (PySem.W.funFrames_hide I.stack fun env he a ha => List.mem_filterMap.mpr ⟨env, he, ha⟩).of_keeps fun b o hb _ => ⟨o, hx.keeps b o hb, rfl⟩
  · refine (I.hok b u e).stay (fun c v hc z => PySem.W.hideAll_get _ z ?_) (fun _ z => z) fun _ _ z => z
    rcases hc with z | z
    · rw [z]; exact nfr b u e
    · exact nfr c _ z
  · exact PySem.W.hideAll_get _ (I.base.keep b o e n hb (nx b)) (I.frsN e hb)
  · obtain ⟨sl, e1⟩ := I.base.slot b o e (I.ok.frf b hb) hb (nx b)
    exact ⟨sl, hx.keeps _ _ e1⟩
  · obtain ⟨o', e1⟩ := I.base.there b o e (nx b)
    exact ⟨o', PySem.W.hideAll_get _ e1 (I.frsN e hb)⟩
theorem noteX {M : Model} {Q : Unit → Shared → Prop} {E' : Value → Shared → Prop} {B : Heap} {ea C t : Addr} (hB : Body X) (hfr : X.A.frames = some X.stack) (x : Fly B X.stack X.env.locals ea C t s.heap)
    (k : ∀ h', Fx B X.stack ea C t (rawInt X.env.locals) h' → s.heap.UpToSlots h' → Q () { s with heap := h' }) : wpAny M X.A (noteFrame (.ref ea) X.env) Q E' s := by
  rw [hB.stack] at x hfr k
  cases x with
  | new st ne fr ob => exact fx_note0 hfr hB.frame st ne fr ob k
  | came x => exact fx_note hfr hB.frame x k
  | seen x => exact fx_noteN hB.frame x (k s.heap x (.refl _))
theorem frs_sub (hB : Body X) {B h : Heap} (x : h.FunFrames B X.stack) : h.FunFrames B X.outer := by
  rw [hB.stack] at x
  exact x.2.2
theorem leaveX {M : Model} {E' : Value → Shared → Prop} (hB : Body X) (hfr : X.A.frames = some X.stack) (c : FlX X E e s) : wpAny M X.A (leaving X.env e) (fun _ s'' => CX1 X.prog X.w X.outer X.H₀ X.s₀ E e s'') E' s := by
  obtain ⟨ea, C, t, H', B, rfl, fx, os, bare, bk, q⟩ := c
  unfold leaving
  refine wpAny_bind (noteX hB hfr fx fun h1 x1 u1 => fx_land (s := { s with heap := h1 }) x1 fun h2 x2 u2 => ?_)
  have x3 := x2
  rw [hB.stack] at x3
  exact ⟨ea, C, t, H', B, rfl, x3.outer, os, bare, bk.slots (frs_sub hB fx.fr) (u1.trans u2), q⟩
theorem ownX (hB : Body X) (hfr : X.A.frames = some X.stack) : PassesOwn (model X.prog X.w) X.A X.env (FlX X E) := by
  rintro e s ⟨ea, C, t, H', B, rfl, fx, os, bare, bk, q⟩
  unfold notedBy
  refine noteX hB hfr fx fun h1 x1 u1 => ?_
  obtain ⟨T, oT, ts, hE, _⟩ := x1.ob
  unfold cameBackBy
  refine wpAny_bind (wpAny_field (s := { s with heap := h1 }) hE rfl (x := .ref T) rfl ?_)
  rw [if_neg (by simp)]
  refine fx_flight (s := { s with heap := h1 }) (f := X.env.frame) x1 fun h2 x2 u2 => ?_
  rw [hB.frame] at x2
  exact ⟨ea, C, t, H', B, rfl, .seen x2, os, bare, bk.slots (frs_sub hB fx.fr) (u1.trans u2), q⟩
end
end L2
set_option Elab.async false
set_option linter.all false
set_option maxRecDepth 100000
namespace L2
open PySem PySem.Spec PyProof.Rows
def mroK (K : PySem.W.Frag) (C : Addr) : List Value := match K.lookup C with
  | some ⟨_, _, .cls cd, _⟩ => cd.mro
  | _ => []
theorem exc_obj {K : PySem.W.Frag} {h : Heap} {C : Addr} {bmB : List Value} {nid : String} (X : K.In h) (q : PySem.W.excIn K C bmB nid = true) :
    ∃ bm N nm qn bs hdct sn sub ab col dd k0 k1 k2 k3 k5 mN, mroK K C = .ref C :: bm ∧ h.get? C = some (excClassObj nm qn C N bs bm hdct sn sub ab col dd k0 k1 k2 k3 k5 nid) ∧ h.Ns N mN ∧ mN "__init__" = none ∧ OwnTail h bmB bm := by
  unfold PySem.W.excIn at q
  split at q
  next dd cd sl ho =>
    split at q
    next C' bm k0 k1 k2 k3 n k5 hm hs =>
      have hM : mroK K C = cd.mro := by unfold mroK; rw [ho]
      simp only [Bool.and_eq_true, beq_iff_eq, Bool.not_eq_true'] at q
      obtain ⟨⟨⟨⟨⟨q1, q2⟩, hdel⟩, ht⟩, hok⟩, hni⟩ := q
      subst q1 q2
      have hsl : sl = #[k0, k1, k2, k3, some (.builtin n), k5] := by rw [← hs]
      rw [hm] at hM
      cases cd
      dsimp only at hm hdel hok hni
      subst hm hdel hsl
      exact ⟨bm, _, _, _, _, _, _, _, _, _, dd, k0, k1, k2, k3, k5, _, hM, X _ _ ho, .of_isNs (PySem.W.isNs_of_in X hok), PySem.W.nsMap_none_of_in X hok hni, PySem.W.tail_of_in X ht⟩
    next => cases q
  next => cases q
def tRaise (C : Addr) (E : XK) (t : TA) : TS := fun _ σ H => t σ H fun vs H1 => vs.length ≤ sizeLine ∧ E (.ref C) none H1
section
variable {X : Cx} {x : Str} {C : Addr} {bmB bmN : List Value} {B Bn nid nid' iid iid' : String} {E : XK} {e : Expr} {es : List Expr} {t : TA} {np cpos pos : Pos}
theorem ps_raise (hB : Body X) (hc : X.calm = true) (hw : ∀ e s', FlX X E e s' → X.xe e s') (Fn : ExcBaseFacts Bn nid iid bmN) (hn : bmB.contains (.type Bn) = true) (FB : ExcBaseFacts B nid' iid' bmB) (q : PySem.W.excIn X.K C bmB nid = true) (hg : Gl X x) (hm : X.mg x = some (.ref C)) (ha : PA X.nox (e :: es) t)
    (hd : (x == ("__debug__" : Str)) = false := by decide) (he : starEach (e :: es) X.env = (false, eval e X.env) :: starEach es X.env := by rfl) (hpl : (backTo cpos (starEach es X.env)).any (·.1) = false := by rfl) :
    PS X (.Raise (some (.Call (.Name x np) (e :: es) [] cpos)) none pos) (tRaise C E t) := by
  intro pins s σ H D I h
  obtain ⟨bm, N, nm, qn, bs, hdct, sn, sub, ab, col, dd, k0, k1, k2, k3, k5, mN, _, hC, hN, hni, T⟩ := exc_obj I.ok.mod.kin q
  refine wpAny_Raise_call_subU (N := N) (C := C) (k5 := k5) (k3 := k3) (k2 := k2) (k1 := k1) (k0 := k0) (dd := dd) (col := col) (ab := ab) (sub := sub) (sn := sn) (hdct := hdct) (bs := bs) (q := qn) (nm := nm) (newId := nid) Fn hn FB (mN := mN) (T.hasType FB.hasBase) (I.ok.hd hc) (by rw [he]; show (false || (backTo cpos (starEach es X.env)).any (·.1)) = false; rw [hpl]; rfl) hni (ld_glob I hg hm ⟨rfl, ?_⟩ hd)
  have h1 := ha cpos pins s σ H _ (I.wish _) h
  rw [he] at h1 ⊢
  refine Calls.evalArgs_plain (wpAny_mono h1 (fun us s2 z => ?_) fun _ _ z => z.elim)
  obtain ⟨vs, H1, I1, r, hl, hE⟩ := z
  have I2 : Inv X pins σ H1 s2 := I1.unwish
  exact ⟨rfl, by rw [← r.length]; exact hl, I2.bk _ _ hC, hN.keeps I2.bk, T.keeps I2.bk, fun h' ea hx => hw _ _ (madeX hB I2 hx hE)⟩
end
abbrev cx1 (P : Program) (w : World) (K : PySem.W.Frag) (mg : Str → Option Value) (base : Heap) (N : List Str) (qual : Str) (scope : Scope) (f : Addr) (cd : Value) (A : Around) (outer : List Env) (s : Shared) (H : Hp) (E : XK) : Cx :=
  (cxOf (CX1 P w) P w K mg base N qual scope f cd A outer s H E).wish (FlX (cxOf (CX1 P w) P w K mg base N qual scope f cd A outer s H E) E)
section
variable {P : Program} {w : World} {K : PySem.W.Frag} {mg : Str → Option Value} {base : Heap}
theorem body1 {N : List Str} {qual : Str} {scope : Scope} {f : Addr} {cd : Value} {A : Around} {outer : List Env} {s : Shared} {H : Hp} {E : XK} : Body (cx1 P w K mg base N qual scope f cd A outer s H E) := ⟨rfl, rfl, rfl⟩
theorem Fun.okX {x qual : Str} {st : Stmt} {f : Addr} {fd : FuncData} {N ps : List Str} {k : Nat} {sp : Sp} (F : Fun K x qual st f fd) (S : FnScope N ps (defScope st)) (len : ∀ vs H Q E, sp vs H Q E → vs.length = ps.length)
    (hbody : ∀ (cdv : Value) (A : Around) (outer : List Env) (s : Shared) (H : Hp) (vs : List V) (Q : VK) (E : XK), Room k (A.deeper (envOfC qual (defScope st) s.heap.objs.size f cdv)) → sp vs H Q E →
      ∃ t, PSs (cx1 P w K mg base N qual (defScope st) f cdv A outer s H E) (defBody st) t ∧ t { nx := fun _ H' => Q .non H', rt := Q } (start N vs) H) : FnOk P w K mg base (CX1 P w) (k + 1) f fd ps sp := by
  obtain ⟨oc, od, kV, doc, pm, an, cdv, ct, osl, rfl, lk, hcd⟩ := F.ex
  refine fn_of lk hcd S len fun A outer s H vs Q E hr hsp => ?_
  obtain ⟨t, h, q⟩ := hbody cdv A outer s H vs Q E hr hsp
  refine ⟨t, fun pins s1 σ H1 D I h1 => ?_, q⟩
  exact wpAny_mono (h pins s1 σ H1 D (I.wish _) h1) (fun _ _ z => z.unwish) fun e s' z => leaveX (X := cxOf (CX1 P w) P w K mg base N qual (defScope st) f cdv A outer s H E) ⟨rfl, rfl, rfl⟩ I.ok.frames z
theorem pass1 {N : List Str} {qual : Str} {scope : Scope} {f : Addr} {cd : Value} {A : Around} {outer : List Env} {s : Shared} {H : Hp} {E : XK} :
    Passes (CX1 P w) (cx1 P w K mg base N qual scope f cd A outer s H E) E := fun _ _ _ _ _ _ I c => passX ⟨rfl, rfl, rfl⟩ I.unwish c
end
theorem PS.nox {X : Cx} {st : Stmt} {t : TS} (h : PS X.nox st t) : PS X st t := fun pins s σ H D I hw =>
  wpAny_mono (h pins s σ H D (I.wish _) hw) (fun _ _ q => q.unwish) fun _ _ z => False.elim z
def PEX (X : Cx) (e : Expr) (t : XK → TE) : Prop := ∀ (pins : List (Addr × Obj)) (s : Shared) (σ : St) (H : Hp) (Q : VK) (E : XK), Inv X pins σ H s → t E σ H Q →
  wpAny (model X.prog X.w) X.A (eval e X.env) (EP X pins σ Q) (fun ex s' => ∃ H1 s1, Inv X pins σ H1 s1 ∧ CX1 X.prog X.w X.stack H1 s1 E ex s') s
section
variable {X : Cx} {k : Nat} {f C : Addr} {fd : FuncData} {ps : List Str} {sp : Sp} {dvs : List V} {ds : List Value} {x m : Str} {p pos apos : Pos} {e o : Expr} {es : List Expr} {ta : TE} {t : TA}
theorem run_fnX {pins : List (Addr × Obj)} {σ : St} {H : Hp} {s : Shared} {Q : VK} {E : XK} {us : List Value} {vs : List V} (F : FnOk X.prog X.w X.K X.mg X.base (CX1 X.prog X.w) k f fd ps sp) (hr : Room k X.A) (hb : Binds X.K fd ps ds) (hd : Vals dvs ds)
    (I : Inv X pins σ H s) (r : Vals vs us) (h : sp (vs ++ dvs) H Q E) : wpAny (model X.prog X.w) X.A (call (.ref f) us) (EP X pins σ Q) (fun ex s' => ∃ H1 s1, Inv X pins σ H1 s1 ∧ CX1 X.prog X.w X.stack H1 s1 E ex s') s := by
  have r2 : Vals (vs ++ dvs) (us ++ ds) := r.append hd
  have hl : (us ++ ds).length = ps.length := (r2.length.symm).trans (F.len _ _ _ _ h)
  refine wpAny_call (codeAny_mono (F.run X.A X.stack s H ⟨us, []⟩ (us ++ ds) (vs ++ dvs) Q E hr I.env0 (hb s us I.kIn hl) r2 h) fun rs s' hq => ?_)
  match rs, hq with
  | .error e, hq => exact ⟨H, s, I, hq⟩
  | .ok (.ret u), hq => exact I.after hq
  | .ok .next, hq => exact False.elim hq
  | .ok .brk, hq => exact False.elim hq
  | .ok .cont, hq => exact False.elim hq
theorem pex_call (F : FnOk X.prog X.w X.K X.mg X.base (CX1 X.prog X.w) k f fd ps sp) (hr : Room k X.A) (hg : Gl X x) (hm : X.mg x = some (.ref f)) (hk : PySem.W.keepIn X.K (.ref f) = true) (hb : Binds X.K fd ps ds) (hd : Vals dvs ds)
    (ha : PA X.nox (e :: es) t) (hdb : (x == ("__debug__" : Str)) = false := by decide) (he : starEach (e :: es) X.env = (false, eval e X.env) :: starEach es X.env := by rfl) (hpl : (backTo pos (starEach es X.env)).any (·.1) = false := by rfl) :
    PEX X (.Call (.Name x p) (e :: es) [] pos) fun E => tCall sp dvs E t := by
  intro pins s σ H Q E I h
  refine wpAny_Call_Name_kw (ld_glob I hg hm ?_ hdb)
  refine PySem.W.callWith_K (h₀ := X.base) I.ok.mod.kin hk (wpAny_mono (ha pos pins s σ H _ (I.wish _) h) (fun us s1 ⟨vs, H1, I1, r, q⟩ => ⟨I1.kIn, ?_⟩) fun _ _ z => z.elim) he hpl
  exact run_fnX F hr hb hd (I1.unwish) r q
end
end L2
set_option Elab.async false
set_option linter.all false
set_option maxRecDepth 100000
namespace L2
open PySem PySem.Spec PyProof.Rows
def exH (C a : Addr) : HO := .ext fun h => ∃ t tb, h.get? a = some (exO C t tb)
theorem ObjOk.get {P : Program} {w : World} {H : Hp} {h : Heap} {a : Addr} {o : HO} (x : ObjOk P w H h a o) : ∃ u, h.get? a = some u := by
  induction o with
  | lst xs => obtain ⟨_, _, _, _, e⟩ := x; exact ⟨_, e⟩
  | tup xs => obtain ⟨_, _, _, _, e, _⟩ := x; exact ⟨_, e⟩
  | dK kvs => obtain ⟨_, _, _, _, _, _, _, e, _⟩ := x; exact ⟨_, e⟩
  | dT kvs => obtain ⟨_, _, _, _, _, _, _, e, _⟩ := x; exact ⟨_, e⟩
  | set S n => obtain ⟨_, _, _, _, e, _⟩ := x; exact ⟨_, e⟩
  | ins C dx fs => obtain ⟨_, _, _, e, _⟩ := x; exact ⟨_, e⟩
  | own y => obtain ⟨_, e⟩ := x; exact ⟨_, e⟩
  | xd fs => obtain ⟨_, ⟨_, _, _, e, _⟩, _⟩ := x; exact ⟨_, e⟩
  | rng lo hi => obtain ⟨_, _, _, e⟩ := x; exact ⟨_, e⟩
  | frz ob u ih => obtain ⟨e, _⟩ := x; exact ⟨_, e⟩
  | tbl ps => exact ⟨_, x⟩
  | met f y => exact ⟨_, x⟩
  | ext φ => exact x.2.1
section
variable {X : Cx} {pins : List (Addr × Obj)} {σ : St} {H H' : Hp} {s s' : Shared} {B h2 : Heap} {ea C t : Addr} {fl : Value}
theorem Bk.none {P : Program} {w : World} {outer : List Env} {h h' : Heap} (k : Bk P w outer H h H' B h') (ne : B.get? ea = Option.none) : H' ea = Option.none := by
  cases q : H' ea with
  | none => rfl
  | some o =>
    obtain ⟨u, e⟩ := (k.ok ea o q).get
    rw [ne] at e
    cases e
theorem caughtI (I : Inv X pins σ H s) (os : s'.os = s.os) (bare : AllBare s'.gens) (bk : Bk X.prog X.w X.stack H s.heap H' B h2) (fx : Fx B X.stack ea C t fl h2) :
    Inv X pins σ (upd H' ea (exH C ea)) { s' with heap := h2 } := by
  have hn := bk.none fx.ne
  obtain ⟨T, oT, ts, hE, _⟩ := fx.ob
  have ne : ∀ b o, s.heap.get? b = some o → b ≠ ea := fun b o e z => by
    by_cases hb : b ∈ frs X.stack
    · obtain ⟨_, o2, e2, n2⟩ := fx.fr.mem hb
      rw [z, hE] at e2
      cases e2
      exact n2 _ rfl
    · obtain ⟨o', e1⟩ := bk.there b o e hb
      rw [z, fx.ne] at e1
      cases e1
  have nt : ∀ b u, H' b = some u → b ≠ ea := fun b u e z => by
    rw [z, hn] at e
    cases e
  obtain ⟨hh, g, d, tk, os'⟩ := s'
  obtain rfl : os' = s.os := os
  refine I.call (s := s) (h' := h2) (g' := g) (d' := d) (t' := tk) (ch := []) ⟨fun b o e n hb _ => fx.st _ _ (bk.keep b o e n hb), fun b o e n hb _ => bk.slot b o e hb, fun b o e n _ => ?_, fun b o e _ => ?_, fun b xs e => ?_, fun b o u e => ?_, fun b ps e => ?_⟩ (fun b u e => ?_) bare (fun b z => nomatch z)
  · rw [upd_ne (ne b o e)]
    exact bk.free b o e n
  · by_cases hb : b ∈ frs X.stack
    · obtain ⟨sl, e1⟩ := bk.slot b o e hb
      exact ⟨_, e1⟩
    · obtain ⟨o', e1⟩ := bk.there b o e hb
      exact ⟨o', fx.st _ _ e1⟩
  · have e1 := bk.tups b xs e
    rw [upd_ne (nt _ _ e1)]
    exact e1
  · have e1 := bk.frzs b o u e
    rw [upd_ne (nt _ _ e1)]
    exact e1
  · obtain ⟨m1, e1⟩ := bk.tbls b ps e
    exact ⟨m1, by rw [upd_ne (nt _ _ e1)]; exact e1⟩
  · by_cases hb : b = ea
    · subst hb
      rw [upd_same] at e
      cases e
      exact ⟨⟨t, _, hE⟩, ⟨_, hE⟩, fun h1 h3 ⟨t', tb', q⟩ k => ⟨t', tb', k _ q⟩⟩
    · rw [upd_ne hb] at e
      refine (bk.ok b u e).stay (fun c v _ q => fx.st _ _ q) (fun c q => ?_) fun c xs q => ?_
      · rw [upd_ne (nt _ _ q)]; exact q
      · rw [upd_ne (nt _ _ q)]; exact q
abbrev Cx.hdl (X : Cx) (e : Addr) : Cx := { X with A := X.A.mark (some (.ref e)), calm := false, xe := fun _ _ => False }
theorem Inv.hdl (I : Inv X pins σ H s) (e : Addr) : Inv (X.hdl e) pins σ H s :=
  ⟨⟨I.ok.mod, I.ok.kind, I.ok.glob, I.ok.blt, I.ok.above, I.ok.inj, I.ok.has, I.ok.cab, (fun z => nomatch z), I.ok.frames, I.ok.stk, I.ok.exf, I.ok.bs, I.ok.bsz, I.ok.noex, I.ok.exfs, I.ok.funs, I.ok.frf⟩, I.os, I.bare, I.base, I.loc, I.cell, I.free, I.freeC, I.pin, I.hok, I.len⟩
theorem Inv.unhdl {e : Addr} (hd : X.calm = true → X.A.handled = none) (I : Inv (X.hdl e) pins σ H s) : Inv X pins σ H s :=
  ⟨⟨I.ok.mod, I.ok.kind, I.ok.glob, I.ok.blt, I.ok.above, I.ok.inj, I.ok.has, I.ok.cab, hd, I.ok.frames, I.ok.stk, I.ok.exf, I.ok.bs, I.ok.bsz, I.ok.noex, I.ok.exfs, I.ok.funs, I.ok.frf⟩, I.os, I.bare, I.base, I.loc, I.cell, I.free, I.freeC, I.pin, I.hok, I.len⟩
theorem Inv.forget {n : Str} {j : Nat} {m : Str → Option Value} {v : Option Value} {tk : Nat} {h' : Heap} (I : Inv X pins σ H s) (hN : X.N.Nodup) (hj : X.N[j]? = some n) (hn : s.heap.Ns X.env.locals m)
    (hm : ∀ (i : Nat) (x : Str) (v : V), X.N[i]? = some x → σ[i]? = some (some v) → Vis X.env.scope x → ∃ u, RelV v u ∧ Look X.env s.heap m x u) (hn' : h'.Ns X.env.locals (fun x => if x = n then v else m x)) (hs : Heap.SameBut X.env.locals s.heap h') :
    Inv X pins (σ.set j none) H { s with heap := h', toks := tk } := by
  obtain ⟨oL, _, _, hoL, _⟩ := id hn
  have neL : ∀ b o, X.s₀.heap.get? b = some o → b ≠ X.env.locals := fun b o e => Nat.ne_of_lt (Nat.lt_of_lt_of_le (Heap.lt_size e) I.ok.above)
  refine ⟨I.ok, I.os, I.bare, ⟨fun b o e n hb hx => ?_, fun b o e n hb hx => ?_, I.base.free, fun b o e hx => ?_, I.base.tups, I.base.frzs, I.base.tbls⟩, ⟨_, hn', fun i y w e1 e2 e3 => ?_⟩, fun y c e => ?_, I.free, I.freeC, fun p hp => ?_, fun b u e => ?_, by rw [List.length_set]; exact I.len⟩
  · exact (hs.2 b (neL b o e)).trans (I.base.keep b o e n hb hx)
  · obtain ⟨sl, e1⟩ := I.base.slot b o e n hb hx
    exact ⟨sl, (hs.2 b (neL b o e)).trans e1⟩
  · obtain ⟨o', e1⟩ := I.base.there b o e hx
    exact ⟨o', (hs.2 b (neL b o e)).trans e1⟩
  · by_cases hij : i = j
    · subst hij
      rw [List.getElem?_set] at e2
      split at e2
      · split at e2 <;> cases e2
      · exact absurd rfl ‹_›
    · rw [List.getElem?_set_ne (Ne.symm hij)] at e2
      obtain ⟨u, r, l⟩ := hm i y w e1 e2 e3
      refine ⟨u, r, ?_⟩
      rcases l with ⟨k, z⟩ | ⟨k, c, z, y'⟩
      · have : y ≠ n := fun q => hij (nodup_ix hN e1 (q ▸ hj))
        exact .inl ⟨k, by simp [this, z]⟩
      · exact .inr ⟨k, c, z, y'.sameBut hs (I.cne y c z)⟩
  · obtain ⟨v', z⟩ := I.cell y c e
    exact ⟨v', z.sameBut hs (I.cne y c e)⟩
  · obtain ⟨e, n1, n2, nf, d⟩ := I.pin p hp
    exact ⟨(hs.2 p.1 n2).trans e, n1, n2, nf, d⟩
  · refine (I.hok b u e).stay (fun c w' hc q => (hs.2 c ?_).trans q) (fun _ q => q) fun _ _ q => q
    rintro rfl
    rcases hc with z | z
    · rw [← z, I.free] at e; cases e
    · rw [I.free] at z; cases z
end
end L2
set_option Elab.async false
set_option linter.all false
set_option maxRecDepth 100000
namespace L2
open PySem PySem.Spec PyProof.Rows
section
variable {M : Model} {A : Around} {E : Value → Shared → Prop} {h : Heap} {g : Array GenState} {d : Drawn} {t : Nat} {os : OsState}
theorem exc_matches {K : PySem.W.Frag} {C D e : Addr} {bC bD : List Value} {nC nD : String} {oe : Obj} {Q : Bool → Shared → Prop} (X : K.In h) (qC : PySem.W.excIn K C bC nC = true) (qD : PySem.W.excIn K D bD nD = true)
    (hb : bD.contains (.type "BaseException") = true) (he : h.get? e = some oe) (hc : oe.cls = .ref C) (hq : Q ((mroK K C).contains (.ref D)) ⟨h, g, d, t, os⟩) : wpAny M A (excMatches (.ref e) (.ref D)) Q E ⟨h, g, d, t, os⟩ := by
  obtain ⟨bm1, _, _, _, _, _, _, _, _, _, _, _, _, _, _, _, _, e1, hC, _, _, T1⟩ := exc_obj X qC
  obtain ⟨bm2, _, _, _, _, _, _, _, _, _, _, _, _, _, _, _, _, _, hD, _, _, T2⟩ := exc_obj X qD
  have hcB : (Value.ref D :: bm2).contains (.type "BaseException") = true := by rw [List.contains_cons, T2.hasType hb, Bool.or_true]
  have f := tc_notTuple
  rw [e1] at hq
  unfold excMatches
  repeat (first | (with_reducible refine wpAny_loadPart_at he ?_; rw [hc]) | with_reducible refine wpAny_loadPart_at hD ?_ | (with_reducible refine wpAny_isSubtype_exc hD ?_; rw [hcB]) | with_reducible refine wpAny_isSubtype_exc hC ?_ | wp_step)
  all_goals (revert hq; cases (Value.ref C :: bm1).contains (Value.ref D) <;> intro hq)
  all_goals (repeat (first | exact hq | wp_step))
end
abbrev WX (X : Cx) (pins : List (Addr × Obj)) (σ : St) (E : XK) : Value → Shared → Prop := fun ex s' => ∃ H1 s1, Inv X pins σ H1 s1 ∧ CX1 X.prog X.w X.stack H1 s1 E ex s'
def PSX (X : Cx) (st : Stmt) (t : XK → TS) : Prop := ∀ (pins : List (Addr × Obj)) (s : Shared) (σ : St) (H : Hp) (D : Ends) (E : XK), Inv X pins σ H s → t E D σ H → wpAny (model X.prog X.w) X.A (exec st X.env) (SP X pins D) (WX X pins σ E) s
def PSXs (X : Cx) (st : List Stmt) (t : XK → TS) : Prop := ∀ (pins : List (Addr × Obj)) (s : Shared) (σ : St) (H : Hp) (D : Ends) (E : XK), Inv X pins σ H s → t E D σ H → wpAny (model X.prog X.w) X.A (execs st X.env) (SP X pins D) (WX X pins σ E) s
section
variable {X : Cx} {e : Expr} {t u : XK → TS} {te : XK → TE} {pos : Pos} {st : Stmt}
theorem psxs_one (h : PSX X st t) : PSXs X [st] t := by
  intro pins s σ H D E I h1
  refine wpAny_execs_cons (thn (h pins s σ H D E I h1) fun f s1 q => ?_)
  match f, q with
  | .next, q => exact wpAny_execs_nil q
  | .brk, q => exact q
  | .cont, q => exact q
  | .ret u, q => exact q
theorem psx_expr (he : PEX X e te) (hs : swapsWith e none pos.line X.env = pure false := by rfl) : PSX X (.Expr e pos) fun E => tDrop (te E) := by
  intro pins s σ H D E I h
  exact wpAny_Expr_any (thn (he pins s σ H _ E I h) fun v s1 ⟨x, H1, I1, r1, q1⟩ => ⟨σ, H1, I1, q1⟩) I.quiet hs
abbrev Ends.un (D : Ends) (j : Nat) : Ends := { nx := fun σ H => D.nx (σ.set j none) H, rt := D.rt, bk := fun σ H => D.bk (σ.set j none) H, ct := fun σ H => D.ct (σ.set j none) H }
def Sub (K : PySem.W.Frag) (C D : Addr) : Prop := (∃ bm nid, PySem.W.excIn K C bm nid = true) ∧ (mroK K C).contains (.ref D) = true
def tTry (K : PySem.W.Frag) (Ch : Addr) (j : Nat) (t : XK → TS) (ts : TS) : TS := fun D σ H => t (fun c _ H' => ∃ C, c = .ref C ∧ Sub K C Ch ∧ ∀ ea, H' ea = none → ts (D.un j) (σ.set j (some (.ref ea))) (upd H' ea (exH C ea))) D σ H
theorem ps_try {body suite : List Stmt} {b₀ : Stmt} {ts : TS} {n x : Str} {j : Nat} {Ch : Addr} {bmB : List Value} {nid : String} {np hpos : Pos} (hB : Body X) (hc : X.calm = true) (hb : PSXs X body t) (hN : X.N.Nodup) (hj : X.N[j]? = some n)
    (hn : X.env.scope.names.lookup n = some .local) (hg : Gl X x) (hm : X.mg x = some (.ref Ch)) (hq : PySem.W.excIn X.K Ch bmB nid = true) (hbs : bmB.contains (.type "BaseException") = true) (hs : ∀ ea, PSs (X.hdl ea) (b₀ :: suite) ts)
    (hd : (x == ("__debug__" : Str)) = false := by decide) :
    PS X (.Try body [.ExceptHandler (some (.Name x np)) (some n) (b₀ :: suite) hpos] [] [] pos) (tTry X.K Ch j t ts) := by
  intro pins s σ H D I h
  refine wpAny_Try_except (wpAny_mono (hb pins s σ H D _ I h) (fun f s1 q => ?_) fun ex s1 z => ?_)
  · match f, q with
    | .next, q => exact wpAny_execs_nil q
    | .brk, q => exact q
    | .cont, q => exact q
    | .ret u, q => exact q
  · obtain ⟨H1, s0, I0, ea, C, t0, H', B, rfl, fx, os, bare, bk, C', eC, ⟨⟨bC, nC, qC⟩, sub⟩, ht⟩ := z
    obtain rfl : C = C' := by cases eC; rfl
    refine noteX hB I.ok.frames (.came fx) fun h1 x1 u1 => fx_land (s := { s1 with heap := h1 }) x1 fun h2 x2 u2 => ?_
    have bk2 := (bk.slots fx.fr u1).slots x1.fr u2
    have I2 : Inv X pins σ (upd H' ea (exH C ea)) { s1 with heap := h2 } := caughtI I0 os bare bk2 x2
    refine wpAny_handleBy_cons (codeAny_handlers_test (ld_glob (X := X.hdl ea) (I2.hdl ea) hg hm ?_ hd)) (by intro q; cases q)
    obtain ⟨T, oT, tt, hE, _⟩ := x2.ob
    refine exc_matches I2.kIn qC hq hbs hE rfl ?_
    rw [sub]
    refine codeAny_handlers_suite_as ?_
    refine fx_land (s := { s1 with heap := h2 }) x2 fun h3 x3 u3 => ?_
    have I3 : Inv X pins σ (upd H' ea (exH C ea)) { s1 with heap := h3 } := caughtI I0 os bare (bk2.slots x2.fr u3) x3
    refine store_ok (X := X.hdl ea) (I3.hdl ea) hN hj (.inl hn) (v := .ref ea) rfl (fun s4 I4 => ?_) (.inr hn)
    refine wpAny_mono (hs ea pins s4 _ _ _ I4 (ht ea (bk.none fx.ne))) (fun f s5 q => ?_) fun _ _ z => z.elim
    have go : ∀ {σ' : St} {H5 : Hp} {Q : Unit → Shared → Prop}, Inv (X.hdl ea) pins σ' H5 s5 → (∀ s6, Inv X pins (σ'.set j none) H5 s6 → Q () s6) → wpAny (model X.prog X.w) X.A (do bindName X.env n .none; unbindBehindTheSuite X.env n hpos) Q X.xe s5 := fun {σ' H5 Q} J k => by
      have J' : Inv X pins σ' H5 s5 := J.unhdl I.ok.hd
      obtain ⟨m, hns, hl⟩ := id J'.loc
      refine wpAny_nameGoes_keeps hn hns (by rw [I.ok.kind]; rfl) fun h6 v hn6 hs6 => k _ ?_
      exact J'.forget hN hj hns hl hn6 hs6
    match f, q with
    | .next, ⟨σ', H5, J, q⟩ => exact go J fun s6 J6 => ⟨_, H5, J6, q⟩
    | .brk, ⟨σ', H5, J, q⟩ => exact go J fun s6 J6 => ⟨_, H5, J6, q⟩
    | .cont, ⟨σ', H5, J, q⟩ => exact go J fun s6 J6 => ⟨_, H5, J6, q⟩
    | .ret u, ⟨v, σ', H5, J, r, q⟩ => exact go J fun s6 J6 => ⟨v, _, H5, J6, r, q⟩
end
end L2
set_option Elab.async false
set_option linter.all false
set_option maxRecDepth 100000
namespace L2
open PySem PySem.Spec PyProof.Rows
structure ExC (K : PySem.W.Frag) (C : Addr) : Prop where
  ga : PySem.W.findIn K (.ref C) "__getattribute__" = some (some (.builtin "BaseException.__getattribute__"))
  gt : PySem.W.findIn K (.ref C) "__getattr__" = some none
  cl : PySem.W.findIn K (.ref C) "__class__" = some (some (.builtin "object.__class__"))
  gc : PySem.W.specialIn K (.builtin "object.__class__") "__get__" = some (some (.builtin "getset_descriptor.__get__"))
  tk : PySem.W.takesIn K (.builtin "object.__class__") = some true
  ob : PySem.W.mroIn K C (.type "object") = some true
  be : PySem.W.mroIn K C (.type "BaseException") = some true
  is : (PySem.W.clsIn K C).isSome = true
theorem canon_bga : (Manifest.canonical "BaseException.__getattribute__" != "object.__getattribute__") = false := by decide +kernel
section
variable {prog : Program} {w : World} {A : Around} {E : Value → Shared → Prop} {s : Shared} {K : PySem.W.Frag} {x C t : Addr} {tb : Value}
theorem ex_inst {h : Heap} (hx : h.get? x = some (exO C t tb)) : PySem.W.InstAt h x (exO C t tb) C none := ⟨hx, rfl, rfl, True.intro⟩
theorem ex_meth {m : Str} {f : Addr} {pl : Sem Bool} {Q : Value × List Value → Shared → Prop} (X : K.In s.heap) (hx : s.heap.get? x = some (exO C t tb)) (c : ExC K C) (hf : PySem.W.findIn K (.ref C) m = some (some (.ref f)))
    (ht : PySem.W.isFn K (.ref f) = true) (h : Q (.ref f, [.ref x]) s) : wpAny (model prog w) A (getMethod (.ref x) m pl) Q E s := by
  have I := ex_inst hx
  have hty : PySem.W.typeIn K (.ref f) = some (.type "function") := beq_iff_eq.mp ht
  unfold getMethod specialOf
  refine wpAny_bind (wpAny_bind (I.type.here ((PySem.W.looks_findIn X c.ga).here ?_)))
  dsimp only
  rw [canon_bga, if_neg Bool.false_ne_true]
  refine wpAny_bind (wpAny_bind (I.type.here ((PySem.W.looks_findIn X c.gt).here ?_)))
  refine wpAny_bind (wpAny_bind (I.type.here ((PySem.W.looks_findIn X hf).here (wpAny_bind ((PySem.W.looks_typeIn X hty).here ?_)))))
  rw [if_neg (by decide +kernel)]
  refine wpAny_bind (wpAny_loadPart hx ?_)
  exact wpAny_bind (wpAny_rule (wpAny_pure h))
theorem ex_class {Q : Option Value → Shared → Prop} (X : K.In s.heap) (hx : s.heap.get? x = some (exO C t tb)) (c : ExC K C) (h : Q (some (.ref C)) { s with toks := s.toks + 1 }) : wpAny (model prog w) A (getAttr? (.ref x) "__class__") Q E s := by
  have I := ex_inst hx
  obtain ⟨hh, g, d, tk, os⟩ := s
  have L0 : PySem.W.Looks (model prog w) hh (typeOf (.ref x)) (.ref C) := I.type
  have L1 := PySem.W.looks_findIn (M := model prog w) X c.ga
  have L2 := PySem.W.looks_findIn (M := model prog w) X c.gt
  have hfo : PySem.W.findObj K C none "__class__" = some (.bind (.builtin "getset_descriptor.__get__") (.builtin "object.__class__")) := by
    obtain ⟨cd, hc⟩ := Option.isSome_iff_exists.mp c.is
    unfold PySem.W.findObj
    rw [hc, Option.bind_some, c.cl, Option.bind_some]
    simp [c.gc, c.tk]
  have L3 := PySem.W.looks_find (M := model prog w) X I hfo
  have L4 : PySem.W.Looks (model prog w) hh (isInstance (.ref x) (.type "BaseException")) true := L0.andThen (PySem.W.looks_mroIn X c.be)
  have f3 := F.excAttr_ValueError.ga.bind (.ref x)
  unfold getAttr? getAttrBy? getAttrBy
  refine wpAny_bind (wpAny_mkText (wpAny_bind (wpAny_attempt (wpAny_holding (wpAny_bind (L0.at (wpAny_bind (L1.at ?_))))))))
  show wpAny _ _ (getAttrByItsOwn _ _ _ _ _ _) _ _ _
  unfold getAttrByItsOwn hookBefore
  rw [if_pos (show onTheHeap (Value.ref C) = true from rfl)]
  refine wpAny_bind (L2.at (wpAny_bind (wpAny_attempt (wpAny_holding ?_))))
  unfold callGetattribute
  rw [if_neg (show ¬ ((false && onTheHeap (Value.builtin "BaseException.__getattribute__")) = true) by simp)]
  unfold boundAndCalled
  rw [f3]
  refine wpAny_bind (wpAny_pure (wpAny_call (codeAny_call_builtin F.excAttr_ValueError.ga.plain F.entry_bexc_ga ?_)))
  have hk : builtinKind "BaseException.__getattribute__" = some .slot := by decide +kernel
  have hsp : splitId "BaseException.__getattribute__" = some ("BaseException", "__getattribute__") := by decide +kernel
  have ha := F.args_bexc_ga (.ref x) (.str "__class__" tk)
  simp only [checkBuiltinCall, hk, hsp]
  refine wpAny_bind (L4.at ?_)
  repeat (first | (with_reducible refine wpAny_bind (L0.at (wpAny_bind (L3.at ?_)))) | wp_step)
  refine PySem.W.class_get (s := ⟨hh, g, d, tk + 1, os⟩) (ox := exO C t tb) (od := none) X I c.ob ?_
  exact wpAny_pure (PySem.W.handed_on rfl (wpAny_pure h))
theorem kitx_exc (c : ExC K C) : PySem.W.KitX K (.ref x) (.ref C) (fun h => ∃ t tb, h.get? x = some (exO C t tb)) where
  ty := fun M h _ ⟨t, tb, e⟩ => (ex_inst e).type
  it := fun M h X _ => by
    obtain ⟨cd, hc⟩ := Option.isSome_iff_exists.mp c.is
    unfold PySem.W.clsIn at hc
    split at hc
    next ho =>
      intro A' Q' E' s' k q
      unfold isType loadHead
      exact wpAny_bind (wpAny_loadPart (k _ _ (X _ _ ho)) (wpAny_pure q))
    next => cases hc
  ne := fun h tp dd its n sl X htp => by
    obtain ⟨cd, hc⟩ := Option.isSome_iff_exists.mp c.is
    refine Bool.eq_false_iff.mpr fun q => ?_
    have e : C = tp := Value.ref.inj (beq_iff_eq.mp q)
    subst e
    unfold PySem.W.clsIn at hc
    split at hc
    next ho => cases (X _ _ ho).symm.trans htp
    next => cases hc
  ca := fun X ⟨t, tb, e⟩ k => ex_class X e c k
end
def rIsX (K : PySem.W.Frag) : List V → Hp → VK → Prop := fun vs H Q => ∃ a C b, H a = some (exH C a) ∧ ExC K C ∧
  ((∃ n, vs = [.ref a, .ty n] ∧ PySem.W.kitOne K (.ref C) (.type n) = some b) ∨ (∃ D, vs = [.ref a, .ref D] ∧ PySem.W.kitOne K (.ref C) (.ref D) = some b)) ∧ Q (.bl b) H
section
variable {X : Cx} {K : PySem.W.Frag}
theorem ex_at {pins : List (Addr × Obj)} {σ : St} {H : Hp} {s : Shared} {a C : Addr} (I : Inv X pins σ H s) (e : H a = some (exH C a)) : ∃ t tb, s.heap.get? a = some (exO C t tb) := (I.hok a _ e).1
theorem call_isx (hK : X.K = K := by rfl) : CallR X (.builtin "isinstance") (rIsX K) := by
  subst hK
  intro pins s σ H xs us Q I rv h
  obtain ⟨a, C, b, ea, c, hv, q⟩ := h
  rcases hv with ⟨n, rfl, e⟩ | ⟨D, rfl, e⟩
  · obtain ⟨u1, u2, rfl, r1, r2⟩ := rv.two
    cases r1
    cases r2
    exact PySem.W.kia_one (kitx_exc c) I.kIn (ex_at I ea) e (fun z => nomatch z) fun tk => ⟨.bl b, H, I.tok _, rfl, q⟩
  · obtain ⟨u1, u2, rfl, r1, r2⟩ := rv.two
    cases r1
    cases r2
    exact PySem.W.kia_one (kitx_exc c) I.kIn (ex_at I ea) e (fun z => nomatch z) fun tk => ⟨.bl b, H, I.tok _, rfl, q⟩
variable {CX : CXT} {k : Nat} {ps : List Str} {sp : Addr → Sp} {E : XK} {m : Str} {pos apos : Pos} {o : Expr} {ta : TE}
def tMethX (K : PySem.W.Frag) (m : Str) (sp : Addr → Sp) (E : XK) (ta : TE) : TE := fun σ H Q => ta σ H fun x H1 => ∃ a C, x = .ref a ∧ H1 a = some (exH C a) ∧ sp C [x] H1 Q E
end
end L2
set_option Elab.async false
set_option linter.all false
set_option maxRecDepth 100000
namespace L2
open PySem PySem.Spec PyProof.Rows
abbrev vE : List Value := [.type "ValueError", .type "Exception", .type "BaseException", .type "object"]
abbrev vN : String := "ValueError.__new__"
structure Exn (K : PySem.W.Frag) (C : Addr) : Prop where
  q : PySem.W.excIn K C vE vN = true
  c : ExC K C
  ty : PySem.W.typeIn K (.ref C) = some (.type "type")
  ve : PySem.W.mroIn K C (.type "ValueError") = some true
theorem exn_mk {K : PySem.W.Frag} {C : Addr} (q : PySem.W.excIn K C vE vN = true) (ga : PySem.W.findIn K (.ref C) "__getattribute__" = some (some (.builtin "BaseException.__getattribute__"))) (gt : PySem.W.findIn K (.ref C) "__getattr__" = some none)
    (cl : PySem.W.findIn K (.ref C) "__class__" = some (some (.builtin "object.__class__"))) (gc : PySem.W.specialIn K (.builtin "object.__class__") "__get__" = some (some (.builtin "getset_descriptor.__get__"))) (tk : PySem.W.takesIn K (.builtin "object.__class__") = some true)
    (ob : PySem.W.mroIn K C (.type "object") = some true) (be : PySem.W.mroIn K C (.type "BaseException") = some true) (is : PySem.W.isClsIn K C = true) (ty : PySem.W.typeIn K (.ref C) = some (.type "type")) (ve : PySem.W.mroIn K C (.type "ValueError") = some true) : Exn K C :=
  ⟨q, ⟨ga, gt, cl, gc, tk, ob, be, is⟩, ty, ve⟩
theorem has_base : vE.contains (.type "BaseException") = true := by decide
theorem has_ve : vE.contains (.type "ValueError") = true := by decide
theorem Exn.sub {K : PySem.W.Frag} {C D : Addr} (x : Exn K C) (r : PySem.W.mroIn K C (.ref D) = some true) : Sub K C D := by
  refine ⟨⟨_, _, x.q⟩, ?_⟩
  obtain ⟨cd, h1, h2⟩ := Option.bind_eq_some_iff.mp r
  unfold PySem.W.clsIn at h1
  unfold mroK
  split at h1
  next c d cd' sl ho =>
    cases h1
    rw [ho]
    split at h2
    · cases h2
    · exact Option.some.inj h2
  next => cases h1
theorem kit_ref {K : PySem.W.Frag} {C D : Addr} {b : Bool} (hC : PySem.W.mroIn K C (.ref C) = some true) (x : Exn K D) (r : PySem.W.mroIn K C (.ref D) = some b) : PySem.W.kitOne K (.ref C) (.ref D) = some b := by
  unfold PySem.W.kitOne
  by_cases q : (Value.ref C == Value.ref D) = true
  · rw [if_pos q]
    have e : C = D := Value.ref.inj (beq_iff_eq.mp q)
    subst e
    rw [hC] at r
    exact r
  · rw [if_neg q]
    unfold PySem.W.kitCls
    have h : ((PySem.W.clsIn K D).isSome && PySem.W.typeIn K (.ref D) == some (.type "type")) = true := by rw [x.c.is, x.ty]; rfl
    show (if _ then _ else _) = _
    rw [if_pos h]
    exact r
theorem kit_ve {K : PySem.W.Frag} {C : Addr} (x : Exn K C) : PySem.W.kitOne K (.ref C) (.type "ValueError") = some true := by
  unfold PySem.W.kitOne
  rw [if_neg (by simp)]
  unfold PySem.W.kitCls
  show (if _ then _ else _) = _
  rw [if_pos (by decide +kernel)]
  exact x.ve
section
variable {X : Cx} {CX : CXT} {k : Nat} {C f : Addr} {fd : FuncData} {ps : List Str} {sp : Sp} {E : XK} {m : Str} {pos apos : Pos} {o : Expr} {ta : TE}
def tMethE (C : Addr) (sp : Sp) (E : XK) (ta : TE) : TE := fun σ H Q => ta σ H fun x H1 => ∃ a, x = .ref a ∧ H1 a = some (exH C a) ∧ sp [x] H1 Q E
theorem pe_methE {pl : Sem Bool} (he : PE X o ta) (c : ExC X.K C) (hm : Meth X.K C m f) (F : FnOk X.prog X.w X.K X.mg X.base CX k f fd ps sp) (hr : Room k X.A) (hb : Binds X.K fd ps []) (hx : Passes CX X E)
    (ht : eval (.Call (.Attribute o m apos) [] [] pos) X.env = (do
      let ov ← eval o X.env
      standAt apos.atName
      let (f, first) ← holding [ov] (getMethod ov m pl)
      callWith pos f first (backTo pos (starEach [] X.env)) (backToKw pos (keywordEach [] X.env))) := by rfl) :
    PE X (.Call (.Attribute o m apos) [] [] pos) (tMethE C sp E ta) := by
  intro pins s σ H Q I h
  refine PySem.W.methodCall_KW (pl := pl) (thn (he pins s σ H _ I h) fun u s1 ⟨x, H1, I1, rx, a, ex, ea, q⟩ => ?_) ht
  subst ex
  obtain rfl : u = Value.ref a := rx
  obtain ⟨t, tb, e1⟩ := ex_at I1 ea
  refine ex_meth I1.kIn e1 c hm.at_ hm.fn ?_
  exact PySem.W.callWith_K0 (first := [.ref a]) I1.kIn hm.kp (run_fn (us := [.ref a]) (vs := [.ref a]) (dvs := []) F hr hb .nil hx I1 (.cons rfl .nil) q)
end
def clsBody (s : Stmt) : List Stmt := match s with
  | .ClassDef _ _ _ b _ _ _ _ _ _ _ => b
  | _ => []
structure Mf (K : PySem.W.Frag) (x q : Str) (st : Stmt) (ps : List Str) (C f : Addr) (fd : FuncData) : Prop where
  F : Fun K x q st f fd
  m : Meth K C x f
  b : Binds K fd ps []
theorem bt_ValueError : bootBuiltins "ValueError" = some (.type "ValueError") := by decide +kernel
end L2
set_option Elab.async false
set_option linter.all false
set_option maxRecDepth 100000
namespace L2
open PySem PySem.Spec PyProof.Rows
open Builtin Builtin.Str
def cutT (u : List Nat) (lo hi : Option Int) : List Nat := (u.drop (HT.sIx u.length 0 lo)).take (HT.sIx u.length u.length hi - HT.sIx u.length 0 lo)
theorem rng_eq (a b : Nat) : sliceRange (a : Int) (b : Int) 1 = (List.range (b - a)).map fun k => a + k := by
  unfold sliceRange
  simp only [show (1 : Int) > 0 by decide, if_true]
  by_cases h : (a : Int) < (b : Int)
  · rw [if_pos h, Int.ediv_one, show (b : Int) - (a : Int) + 1 - 1 = ((b - a : Nat) : Int) by omega, Int.toNat_natCast]
    exact List.map_congr_left fun k _ => by omega
  · rw [if_neg h, show b - a = 0 by omega]
    rfl
theorem clip_some (n d : Nat) (i : Int) : max 0 (min (if i < 0 then i + (n : Int) else i) (n : Int)) = (HT.sIx n d (some i) : Int) := by
  show _ = (((if i < 0 then (i + (n : Int)).toNat else min i.toNat n) : Nat) : Int)
  by_cases h : i < 0
  · rw [if_pos h, if_pos h]; omega
  · rw [if_neg h, if_neg h]; omega
theorem idx_eq (n : Nat) (lo hi : Option Int) : strSliceIndices lo hi 1 n = (List.range (HT.sIx n n hi - HT.sIx n 0 lo)).map fun k => HT.sIx n 0 lo + k := by
  rw [← rng_eq]
  cases lo with
  | none =>
    cases hi with
    | none => rfl
    | some j => rw [← clip_some]; rfl
  | some i =>
    cases hi with
    | none => rw [← clip_some n 0 i]; rfl
    | some j => rw [← clip_some n 0 i, ← clip_some n n j]; rfl
theorem tx_slice (u : List Nat) (lo hi : Option Int) : Txt.slice (tx u) lo hi = tx (cutT u lo hi) := by
  unfold Txt.slice cutT
  rw [tx_len, idx_eq]
  have hle : HT.sIx u.length u.length hi ≤ u.length := HT.sIx_le _ _ (Nat.le_refl _) _
  have key : ∀ (a k : Nat), a + k ≤ u.length → ((List.range k).map fun j => a + j).filterMap (fun i => (tx u).cps[i]?) = (u.drop a).take k := by
    intro a k
    induction k with
    | zero => intro _; simp
    | succ k ih =>
      intro h
      rw [List.range_succ, List.map_append, List.filterMap_append, ih (by omega)]
      have : a + k < u.length := by omega
      simp only [List.map_cons, List.map_nil, List.filterMap_cons, List.filterMap_nil, tx_get, List.getElem?_eq_getElem this]
      rw [List.take_succ, List.getElem?_drop, List.getElem?_eq_getElem this]
      rfl
  split
  next h =>
    simp only [List.length_map, List.length_range, Bool.and_eq_true, beq_iff_eq] at h
    have h2 := h.2
    have : HT.sIx u.length 0 lo = 0 ∨ u.length = 0 := by omega
    rcases this with e | e
    · rw [e, List.drop_zero, List.take_of_length_le (by omega)]
    · rw [List.eq_nil_of_length_eq_zero e]; simp
  next h =>
    by_cases hlt : HT.sIx u.length 0 lo ≤ HT.sIx u.length u.length hi
    · show (Str.mk _) = _
      rw [key _ _ (by omega)]
      rfl
    · have e : HT.sIx u.length u.length hi - HT.sIx u.length 0 lo = 0 := by omega
      rw [e]
      simp [tx]
section
variable {X : Cx}
theorem sl_str : SlR X (fun x lo hi H Q => ∃ u : List Nat, x = .str (tx u) ∧ u.length ≤ sizeLine ∧ Q (.str (tx (cutT u lo hi))) H) := by
  intro pins s σ H x v vl vu lo hi sl Q I rx hs pl pu h
  obtain ⟨u, rfl, hz, q⟩ := h
  obtain ⟨t, rfl⟩ := rx
  rw [← tx_slice] at q
  refine ⟨"str", _, F.slot_str_getitem.lookup, typeIs_str _ _ _, ?_⟩
  have hsz : (tx u).length ≤ sizeLine := by rw [tx_len]; exact hz
  obtain ⟨os, hos, hcs, hds⟩ := id hs
  have fin : ∀ (l u' : Option (Int × Tok)), s.heap.IsSlice sl l u' none → Q (.str (Txt.slice (tx u) (l.map (·.1)) (u'.map (·.1)))) H → wpAny (model X.prog X.w) X.A (getItem (.str (tx u) t) (.ref sl)) (EP X pins σ Q) X.xe s := fun l u' z q' =>
    wpAny_getItem_str_slice z rfl (post_val_or_str ⟨Nat.le_trans (Txt.slice_le (tx u) _ _) hsz, fun t' k => ⟨.str _, H, I.tok _, ⟨t', rfl⟩, q'⟩⟩)
  cases pl with
  | none => cases pu with
    | none => exact fin none none ⟨os, hos, hcs, hds⟩ q
    | int j tj => exact fin none (some (j, tj)) ⟨os, hos, hcs, hds⟩ q
  | int i ti => cases pu with
    | none => exact fin (some (i, ti)) none ⟨os, hos, hcs, hds⟩ q
    | int j tj => exact fin (some (i, ti)) (some (j, tj)) ⟨os, hos, hcs, hds⟩ q
end
end L2
set_option Elab.async false
set_option linter.all false
set_option maxRecDepth 100000
namespace L2
open PySem PySem.Spec PyProof.Rows
theorem vals_ptw : ∀ (xs : List V) (us : List Value), xs.length = us.length → (∀ (i : Nat) x u, xs[i]? = some x → us[i]? = some u → RelV x u) → Vals xs us
  | [], [], _, _ => .nil
  | [], _ :: _, h, _ => by simp at h
  | _ :: _, [], h, _ => by simp at h
  | x :: xs, u :: us, h, p => .cons (p 0 x u rfl rfl) (vals_ptw xs us (by simpa using h) fun i y v e1 e2 => p (i + 1) y v e1 e2)
def rngO (p : Addr) (a b c : Int) : HO := .ext fun h => ∃ t u v, IsRange h p a b c t u v
def rngL (a c : Int) (n : Nat) : List Int := (List.range n).map fun (i : Nat) => a + (i : Int) * c
section
variable {X : Cx} {K : PySem.W.Frag}
theorem laid_rng {pins : List (Addr × Obj)} {σ : St} {H : Hp} {s : Shared} {a b c : Int} {t u v : Tok} {Q : VK} {tk : Nat} (I : Inv X pins σ H s) (q : ∀ p, H p = none → Q (.ref p) (upd H p (rngO p a b c))) :
    EP X pins σ Q (.ref s.heap.objs.size) { s with heap := s.heap.push { cls := .type "range", data := .fields #[.int a t, .int b u, .int c v] }, toks := tk } := by
  have hg : (s.heap.push { cls := .type "range", data := .fields #[.int a t, .int b u, .int c v] }).get? s.heap.objs.size = some { cls := .type "range", data := .fields #[.int a t, .int b u, .int c v] } := Heap.get?_push_size _ rfl
  refine ⟨.ref s.heap.objs.size, _, I.laid (o := rngO s.heap.objs.size a b c) (fun b o e => Heap.get?_push_of_some _ e) (Nat.le_refl _) ?_, rfl, q _ (I.hok.fresh (Nat.le_refl _))⟩
  exact ⟨⟨t, u, v, hg⟩, ⟨_, hg⟩, fun h1 h2 y k => by
    obtain ⟨t', u', v', y⟩ := y
    exact ⟨t', u', v', k _ y⟩⟩
theorem call_rng2 : CallR X (.type "range") (fun xs H Q => ∃ a b, xs = [.int a, .int b] ∧ ∀ p, H p = none → Q (.ref p) (upd H p (rngO p a b 1))) := by
  intro pins s σ H xs us Q I rv h
  obtain ⟨a, b, rfl, q⟩ := h
  obtain ⟨u1, u2, rfl, r1, r2⟩ := rv.two
  obtain ⟨t, rfl⟩ := r1
  obtain ⟨t', rfl⟩ := r2
  exact call_range_2 (laid_rng I q)
theorem call_sumI (hK : X.K = K := by rfl) (hc : X.calm = true := by rfl) : CallR X (.builtin "sum") (fun xs H Q => ∃ a ns, xs = [.ref a] ∧ SqL K H a (vI ns) ∧ Q (.int ns.sum) H) := by
  subst hK
  intro pins s σ H xs us Q I rv h
  obtain ⟨a, ns, rfl, hq, q⟩ := h
  obtain ⟨u, rfl, ru⟩ := rv.one
  cases ru
  obtain ⟨its, r, pl, hl⟩ := I.list hq
  have hi : IntsAre its ns := intsAre_of r
  obtain ⟨xs, hx⟩ := hi.allInts.items
  have hL : s.heap.IsList a (intItems xs) := by rw [← hx]; exact pl.isList
  refine sum_intListG (I.ok.hd hc) hL fun h' tk t' hk => ?_
  have e1 : xs.toList.map (·.1) = ns := by
    have z : numsOf its.toArray.toList = ns := hi.numsOf
    rw [hx, nums_intItems] at z
    exact z
  rw [show preSum (numAt xs) xs.size = ns.sum by rw [preSum_eq, List.take_of_length_le (by simp), e1]]
  exact ⟨.int ns.sum, H, I.kept hk, ⟨t', rfl⟩, q⟩
end
end L2
set_option Elab.async false
set_option linter.all false
set_option maxRecDepth 100000
namespace L2
open PySem PySem.Spec PyProof.Rows
section
variable {X : Cx} {tg : Expr}
def iRng2L (ta : TA) : TI := fun σ H R => ta σ H fun vs H1 => ∃ i j : Int, vs = [.int i, .int j] ∧ R (Itr i (j - i).toNat) H1
end
section
variable {X : Cx}
theorem rep_fold (l : List Nat) : ∀ (k : Nat) (acc : List Nat), List.foldl (fun x1 x2 => x1 ++ x2) acc.toArray (List.replicate k l.toArray) = (acc ++ (List.replicate k l).flatten).toArray
  | 0, acc => by simp
  | k + 1, acc => by
    have e : acc.toArray ++ l.toArray = (acc ++ l).toArray := by simp
    have e2 : (acc ++ l) ++ (List.replicate k l).flatten = acc ++ (List.replicate (k + 1) l).flatten := by
      rw [List.replicate_succ, List.flatten_cons, List.append_assoc]
    rw [← e2, ← rep_fold l k (acc ++ l), ← e, List.replicate_succ, List.foldl_cons]
def rRepS : R2 := fun x y H Q => ∃ u n, x = .str (tx u) ∧ y = .int n ∧ 0 ≤ n ∧ n ≤ 1000000 ∧ u.length * n.toNat ≤ sizeLine ∧ Q (.str (tx (List.replicate n.toNat u).flatten)) H
theorem op_repS : OpR X (binaryOp .Mult) rRepS := by
  intro pins s σ H x y v z Q I rx ry h
  obtain ⟨u, n, rfl, rfl, h0, h1, h2, q⟩ := h
  obtain ⟨t, rfl⟩ := rx
  obtain ⟨t', rfl⟩ := ry
  have hsz : sizeLine = 16777216 := sizeLine_eq
  have hlen : (tx u).length = u.length := tx_len u
  refine P.mul_str ?_ (fun c1 c2 => ?_) (fun c1 c2 => ?_) ?_
  · rw [decide_eq_false (by omega), decide_eq_false (by omega)]
    rfl
  · rw [hlen]
    have hn : 0 < n := by omega
    have hm : (u.length : Int) * n ≤ 16777216 := by
      have e : n = (n.toNat : Int) := by omega
      rw [e, ← Int.natCast_mul]
      omega
    have : (u.length : Int) ≤ (2 ^ 63 - 1) / n := (Int.le_ediv_iff_mul_le hn).mpr (by omega)
    omega
  · rw [hlen]
    exact decide_eq_false (by omega)
  · split
    · next c =>
      have e : n = 0 := by omega
      rw [e] at q
      exact ⟨by decide, .str (tx []), H, I.tok _, ⟨_, rfl⟩, q⟩
    · split
      · next c =>
        have e : tx (List.replicate n.toNat u).flatten = tx u := by
          simp only [Bool.or_eq_true, beq_iff_eq] at c
          rcases c with c | c
          · rw [c]; simp
          · rw [hlen] at c
            rw [List.eq_nil_of_length_eq_zero c]
            simp
        rw [e] at q
        exact ⟨.str (tx u), H, I, ⟨_, rfl⟩, q⟩
      · have hf : (⟨(List.replicate n.toNat (tx u).cps).foldl (· ++ ·) #[]⟩ : Str) = tx (List.replicate n.toNat u).flatten := by
          have := rep_fold u n.toNat []
          simp only [List.nil_append] at this
          exact congrArg Str.mk this
        rw [hf]
        refine ⟨?_, .str (tx (List.replicate n.toNat u).flatten), H, I.tok _, ⟨_, rfl⟩, q⟩
        rw [tx_len, len_rep, Nat.mul_comm]
        exact h2
theorem occ_run (x : Str) (c limit : Nat) : ∀ (k i : Nat) (acc : Array Nat) (free : Nat), free ≤ i → acc.size + k ≤ limit →
    (forIn (List.range' i k) (acc, free) (StrLaws.occBody x ⟨#[c]⟩ x.length limit)).run.fst.size = acc.size + ((x.cps.toList.drop i).take k).count c
  | 0, i, acc, free, _, _ => by simp
  | k + 1, i, acc, free, hf, hl => by
    rw [List.range'_succ, List.forIn_cons]
    by_cases hc : x.cps.toList[i]? = some c
    · have h1 := (StrLaws.subAt_one x c i).mpr hc
      have e : StrLaws.occBody x ⟨#[c]⟩ x.length limit i (acc, free) = pure (ForInStep.yield (acc.push i, i + (⟨#[c]⟩ : Str).length)) := by
        unfold StrLaws.occBody
        rw [if_pos ⟨⟨⟨by show acc.size < limit; omega, hf⟩, h1.1⟩, h1.2⟩]
      rw [e]
      have ih := occ_run x c limit k (i + 1) (acc.push i) (i + (⟨#[c]⟩ : Str).length) (Nat.le_refl _) (by rw [Array.size_push]; omega)
      have hd : x.cps.toList.drop i = c :: x.cps.toList.drop (i + 1) := by
        obtain ⟨hlt, he⟩ := List.getElem?_eq_some_iff.mp hc
        rw [List.drop_eq_getElem_cons hlt, he]
      rw [hd, List.take_succ_cons, List.count_cons_self]
      rw [Array.size_push] at ih
      refine Eq.trans ih ?_
      omega
    · have h1 : ¬ (i + (⟨#[c]⟩ : Str).length ≤ x.length ∧ Builtin.Str.subAt x ⟨#[c]⟩ i = true) := fun z => hc ((StrLaws.subAt_one x c i).mp z)
      have e : StrLaws.occBody x ⟨#[c]⟩ x.length limit i (acc, free) = pure (ForInStep.yield (acc, free)) := by
        unfold StrLaws.occBody
        rw [if_neg fun z => h1 ⟨z.1.2, z.2⟩]
      rw [e]
      have ih := occ_run x c limit k (i + 1) acc free (by omega) (by omega)
      refine Eq.trans ih ?_
      congr 1
      by_cases hlt : i < x.cps.toList.length
      · rw [List.drop_eq_getElem_cons hlt, List.take_succ_cons, List.count_cons_of_ne]
        intro z
        exact hc (by rw [List.getElem?_eq_getElem hlt]; exact congrArg some z)
      · rw [List.drop_eq_nil_of_le (by omega), List.drop_eq_nil_of_le (by omega)]
        simp
theorem count_one (l : List Nat) (c : Nat) : (Builtin.Str.occurrences (tx l) ⟨#[c]⟩ 0 (tx l).length ((tx l).length + 1)).length = l.count c := by
  rw [StrLaws.occ_eq]
  have := occ_run (tx l) c ((tx l).length + 1) ((tx l).length + 1 - 0) 0 #[] 0 (Nat.le_refl _) (by simp)
  rw [Array.length_toList, this, tx_list, tx_len]
  simp [List.take_of_length_le]
def rCount : V → List V → Hp → VK → Prop := fun x vs H Q => ∃ u c, x = .str (tx u) ∧ vs = [.str ⟨#[c]⟩] ∧ Q (.int (u.count c : Nat)) H
theorem mt_count : MtR X "str.count" rCount := by
  intro pins s σ H x vs v us Q I rx rv h
  obtain ⟨u, c, rfl, rfl, q⟩ := h
  obtain ⟨t, rfl⟩ := rx
  obtain ⟨u', rfl, ru⟩ := rv.one
  obtain ⟨t', rfl⟩ := ru
  refine call_gives F.slot_str_count (typeIs_str s _ t) F.entry_str_count (F.args_str_count_2 _ _) (gives_str_count _ _ t t') ?_
  rw [count_one]
  exact ⟨.int _, H, I.tok _, ⟨_, rfl⟩, q⟩
end
end L2
set_option Elab.async false
set_option linter.all false
set_option maxRecDepth 100000
namespace L2
open PySem PySem.Spec PyProof.Rows
section
variable {X : Cx} {K : PySem.W.Frag}
def rIsXT (K : PySem.W.Frag) : List V → Hp → VK → Prop := fun vs H Q => ∃ (a C p : Addr) (Ds : List Addr) (b : Bool), vs = [.ref a, .ref p] ∧ H a = some (exH C a) ∧ ExC K C ∧ H p = some (.tup (Ds.map V.ref)) ∧ PySem.W.kitAny K (.ref C) (Ds.map Value.ref) = some b ∧ Q (.bl b) H
end
end L2
set_option Elab.async false
set_option linter.all false
set_option maxRecDepth 100000
namespace L2
open PySem PySem.Spec PyProof.Rows
section
variable {X : Cx} {K : PySem.W.Frag}
def rNeL (K : PySem.W.Frag) : R2 := fun x y H Q => ∃ p q xs ys, x = .ref p ∧ y = .ref q ∧ SqL K H p xs ∧ SqL K H q ys ∧ xs.all flatV = true ∧ ys.all flatV = true ∧ Q (.bl (!eqL xs ys)) H
end
end L2
set_option Elab.async false
set_option linter.all false
set_option maxRecDepth 100000
namespace L2
open PySem PySem.Spec PyProof.Rows
def SamL (K : PySem.W.Frag) (H : Hp) (p q : Addr) : Prop := ∃ as bs : List Addr, SqL K H p (as.map V.ref) ∧ SqL K H q (bs.map V.ref) ∧ as.length = bs.length ∧
  ∀ (i : Nat) (a b : Addr), as[i]? = some a → bs[i]? = some b → ∃ xs : List V, xs.all flatV = true ∧ SqL K H a xs ∧ SqL K H b xs
section
variable {X : Cx} {K : PySem.W.Frag}
def rNeLL (K : PySem.W.Frag) : R2 := fun x y H Q => ∃ p q, x = .ref p ∧ y = .ref q ∧ SamL K H p q ∧ Q (.bl false) H
def rEqLL (K : PySem.W.Frag) : R2 := fun x y H Q => ∃ p q, x = .ref p ∧ y = .ref q ∧ SamL K H p q ∧ Q (.bl true) H
theorem inV_vI (z : Int) : ∀ ks : List Int, inV (.int z) (vI ks) = decide (z ∈ ks)
  | [] => by simp [inV, vI]
  | k :: ks => by
    have ih := inV_vI z ks
    unfold inV vI at ih ⊢
    rw [List.map_cons, List.any_cons, ih]
    by_cases h : k = z
    · subst h
      have : eqV (V.int k) (V.int k) = true := eqV_refl rfl
      rw [this]
      simp
    · have : eqV (V.int k) (V.int z) = false := by simp [eqV, h]
      rw [this, Bool.false_or]
      exact decide_eq_decide.mpr (by simp [Ne.symm h])
end
end L2
set_option Elab.async false
set_option linter.all false
set_option maxRecDepth 100000
namespace L2
open PySem PySem.Spec PyProof.Rows
section
variable {X : Cx} {t : XK → TS} {pos : Pos}
def tTryN (K : PySem.W.Frag) (Ch : Addr) (t : XK → TS) (ts : TS) : TS := fun D σ H => t (fun c _ H' => ∃ C, c = .ref C ∧ Sub K C Ch ∧ ∀ ea, H' ea = none → ts D σ (upd H' ea (exH C ea))) D σ H
end
end L2
set_option Elab.async false
set_option linter.all false
set_option maxRecDepth 100000
namespace L2
open PySem PySem.Spec PyProof.Rows
theorem Inv.turnedL {X : Cx} {pins : List (Addr × Obj)} {σ : St} {H : Hp} {s : Shared} {h' : Heap} {t' : Nat} {its : List Addr} (I : Inv X pins σ H s)
    (k : ∀ b o, b ∉ its → s.heap.get? b = some o → h'.get? b = some o) (hf : ∀ b ∈ its, FpOk X pins H b) : Inv X pins σ H { s with heap := h', toks := t' } := by
  have nit : ∀ b u, H b = some u → b ∉ its := fun b u e z => by
    have := (hf b z).1
    rw [this] at e
    cases e
  have nL : X.env.locals ∉ its := fun z => (hf _ z).2.1 rfl
  refine I.step (g' := s.gens) (d' := s.drawn) (ch := its) (fun b hb => ?_) (fun b o _ _ hc e _ => k b o hc e) (fun b o _ _ hc e _ => ⟨o.slots, k b o hc e⟩) (fun _ _ _ _ n => n)
    (fun b o hc e => ⟨o, k b o hc e⟩) (fun _ _ e => e) (fun _ _ _ e => e) (fun b ps e => ⟨#[], by rw [e]; simp⟩) (fun m hm => ?_) (fun b u e => ?_) I.bare
  · obtain ⟨_, h2, _, h4, h5, h6⟩ := hf b hb
    exact ⟨h4, h2, h5, h6⟩
  · obtain ⟨o, es, ep, ho, r⟩ := hm
    exact ⟨o, es, ep, k _ o nL ho, r⟩
  · refine (I.hok b u e).stay (fun c v hc q => k c v ?_ q) (fun _ q => q) fun _ _ q => q
    rcases hc with z | z
    · rw [z]; exact nit b u e
    · exact nit c _ z
def Itz (K : PySem.W.Frag) (a b : Addr) : It where
  go := fun i H => ∃ xs ys x y, SqL K H a xs ∧ SqL K H b ys ∧ xs[i]? = some x ∧ ys[i]? = some y
  yld := fun i H x H' => ∃ T, x = .ref T ∧ H T = none ∧ ∀ xs ys u v, SqL K H a xs → SqL K H b ys → xs[i]? = some u → ys[i]? = some v → H' = upd H T (.tup [u, v])
  stop := fun i H => ∃ xs ys, SqL K H a xs ∧ SqL K H b ys ∧ (xs.length ≤ i ∨ ys.length ≤ i)
def ZipSt (z TI TO i1 i2 a b : Addr) (i : Nat) (h : Heap) : Prop := IsZip h z TI TO .none ∧ IsPair h TI (.ref i1) (.ref i2) ∧ (∃ p q, IsPair h TO p q) ∧ h.IsListIter i1 a i ∧ h.IsListIter i2 b i
theorem turn_zip {P : Program} {w : World} {K : PySem.W.Frag} {es : List Expr} {kx : Nat} {tp : Pos} {z TI TO i1 i2 a b : Addr} (D : ZipApart z TI TO i1 i2 a b) :
    Turn P w K (.Tuple es kx tp) (Itz K a b) [z, TI, TO, i1, i2] z (ZipSt z TI TO i1 i2 a b) where
  mem := by simp
  obj := fun i h st c hc => by
    obtain ⟨s1, s2, ⟨p, q, s3⟩, s4, s5⟩ := st
    simp only [List.mem_cons, List.not_mem_nil, or_false] at hc
    rcases hc with e | e | e | e | e
    · subst e; exact ⟨_, s1, fun v z => by cases (show Data.fields _ = Data.cell v from z)⟩
    · subst e; exact ⟨_, s2, fun v z => by cases (show Data.seq _ _ = Data.cell v from z)⟩
    · subst e; exact ⟨_, s3, fun v z => by cases (show Data.seq _ _ = Data.cell v from z)⟩
    · subst e; obtain ⟨o, e, _, d⟩ := s4; exact ⟨o, e, fun v z => by rw [d] at z; cases z⟩
    · subst e; obtain ⟨o, e, _, d⟩ := s5; exact ⟨o, e, fun v z => by rw [d] at z; cases z⟩
  keep := fun i h h' st k => by
    obtain ⟨s1, s2, ⟨p, q, s3⟩, s4, s5⟩ := st
    exact ⟨k _ (by simp) _ s1, k _ (by simp) _ s2, ⟨p, q, k _ (by simp) _ s3⟩, s4.at fun o e => k _ (by simp) o e, s5.at fun o e => k _ (by simp) o e⟩
  item := by
    intro X hP hw hK hc i pins s σ H E I hf st hg
    subst hP hw hK
    obtain ⟨xs, ys, x, y, hq1, hq2, hx, hy⟩ := hg
    obtain ⟨its1, rv1, p1, _⟩ := I.list hq1
    obtain ⟨its2, rv2, p2, _⟩ := I.list hq2
    obtain ⟨u, hu, ru⟩ := rv1.get hx
    obtain ⟨v, hv, rw'⟩ := rv2.get hy
    obtain ⟨s1, s2, ⟨p, q, s3⟩, s4, s5⟩ := st
    refine wpAny_pyNext_zip_item D s1 s2 s3 s4 s5 p1.isList p2.isList (x := u) (y := v) (by simpa using hu) (by simpa using hv) fun h1 z1 t1 j1 j2 hT hsz kk => ?_
    refine ⟨_, rfl, wpAny_letOwnedTupleGo_zip z1 fun h2 z2 sb => ?_⟩
    have zl : z < s.heap.objs.size := Heap.lt_size s1
    have TIl : TI < s.heap.objs.size := Heap.lt_size s2
    have TOl : TO < s.heap.objs.size := Heap.lt_size s3
    have i1l : i1 < s.heap.objs.size := by obtain ⟨_, e, _⟩ := s4; exact Heap.lt_size e
    have i2l : i2 < s.heap.objs.size := by obtain ⟨_, e, _⟩ := s5; exact Heap.lt_size e
    have up : ∀ c o, c ≠ z → h1.get? c = some o → h2.get? c = some o := fun c o c1 e => (sb.2 c c1).trans e
    have hTn : H s.heap.objs.size = none := I.hok.fresh (Nat.le_refl _)
    have I1 : Inv X pins σ (upd H s.heap.objs.size (.tup [x, y])) { s with heap := s.heap.push { cls := .type "tuple", data := .seq #[u, v] }, toks := s.toks } :=
      I.laid (fun c o e => Heap.get?_push_of_some _ e) (Nat.le_refl _) ⟨by show 2 ≤ sizeLine; decide, [u, v], .cons ru (.cons rw' .nil), ⟨_, Heap.get?_push_size _ rfl, rfl, _, rfl⟩⟩
    have fp2 : ∀ c ∈ [z, TI, TO, i1, i2], FpOk X pins (upd H s.heap.objs.size (.tup [x, y])) c := fun c hc => by
      obtain ⟨f0, f⟩ := hf c hc
      refine ⟨?_, f⟩
      have lt : c < s.heap.objs.size := by
        simp only [List.mem_cons, List.not_mem_nil, or_false] at hc
        rcases hc with e | e | e | e | e <;> subst e <;> assumption
      rw [upd_ne (Nat.ne_of_lt lt)]
      exact f0
    have I2 : Inv X pins σ (upd H s.heap.objs.size (.tup [x, y])) { s with heap := h2 } := by
      refine Inv.turnedL (s := { s with heap := s.heap.push { cls := .type "tuple", data := .seq #[u, v] }, toks := s.toks }) (h' := h2) (t' := s.toks) (its := [z, TI, TO, i1, i2]) I1 (fun c o hc e => ?_) fp2
      simp only [List.mem_cons, List.not_mem_nil, or_false, not_or] at hc
      refine up c o hc.1 ?_
      by_cases hcs : c = s.heap.objs.size
      · subst hcs
        have e' : (s.heap.push { cls := .type "tuple", data := .seq #[u, v] }).get? s.heap.objs.size = some { cls := .type "tuple", data := .seq #[u, v] } := Heap.get?_push_size _ rfl
        rw [e'] at e
        cases e
        exact hT
      · have e' : s.heap.get? c = some o := by
          rw [← e]
          exact (Heap.get?_push_ne _ _ _ hcs).symm
        exact kk c o hc.1 hc.2.2.1 hc.2.2.2.1 hc.2.2.2.2 e'
    refine ⟨.ref s.heap.objs.size, _, I2, rfl, ⟨s.heap.objs.size, rfl, hTn, fun xs' ys' u' v' a1 a2 a3 a4 => ?_⟩, ⟨z2, up _ _ D.TIz (kk _ _ D.TIz D.TITO D.TIi1 D.TIi2 s2), ⟨u, v, up _ _ D.TOz t1⟩, j1.at fun o e => up _ o D.i1z e, j2.at fun o e => up _ o D.i2z e⟩, fun c hc => (fp2 c hc).1⟩
    rw [I.list_inj a1 hq1, hx] at a3
    rw [I.list_inj a2 hq2, hy] at a4
    cases a3
    cases a4
    rfl
  done := by
    intro X hP hw hK hc i pins s σ H E I hf st hg
    subst hP hw hK
    obtain ⟨xs, ys, hq1, hq2, hend⟩ := hg
    obtain ⟨its1, rv1, p1, _⟩ := I.list hq1
    obtain ⟨its2, rv2, p2, _⟩ := I.list hq2
    have l1 := rv1.length
    have l2 := rv2.length
    obtain ⟨s1, s2, ⟨p, q, s3⟩, s4, s5⟩ := st
    refine wpAny_pyNext_zip_end (I.ok.hd hc) D s1 s2 s3 s4 s5 p1.isList p2.isList ?_ fun h' kk => ⟨rfl, I.turnedL (t' := s.toks) (its := [z, TI, TO, i1, i2]) (fun c o hc e => ?_) hf⟩
    · rcases hend with e | e
      · exact .inl (by simp; omega)
      · exact .inr (by simp; omega)
    · simp only [List.mem_cons, List.not_mem_nil, or_false, not_or] at hc
      exact kk c o hc.1 hc.2.2.1 hc.2.2.2.1 hc.2.2.2.2 e
  self := fun _ _ _ _ _ st h => wpAny_pyIter_zip st.1 h
section
variable {X : Cx} {es : List Expr} {kx : Nat} {tp : Pos}
def iZip (K : PySem.W.Frag) (ta : TA) : TI := fun σ H R => ta σ H fun vs H1 => ∃ a b, vs = [.ref a, .ref b] ∧ (∃ xs, SqL K H1 a xs) ∧ (∃ ys, SqL K H1 b ys) ∧ R (Itz K a b) H1
theorem pi_zip {K : PySem.W.Frag} {a b : Expr} {ta : TA} {p pos : Pos} (hg : Gl X "zip") (hm : X.mg "zip" = none) (ha : PA X [a, b] ta) (hK : X.K = K := by rfl) (hs : starEach [a, b] X.env = [(false, eval a X.env), (false, eval b X.env)] := by rfl) (hs2 : starEach [b] X.env = [(false, eval b X.env)] := by rfl) :
    PI X (.Tuple es kx tp) (.Call (.Name "zip" p) [a, b] [] pos) (iZip K ta) := by
  subst hK
  intro pins s σ H R I h
  refine Call_ (ld_blt I hg hm bt_zip (PyProof.Rows.callWith_type1 (thn (ha pos pins s σ H _ I h) fun us s1 ⟨vs, H1, I1, r1, q1⟩ => ?_) (by rw [hs, hs2]) (by rw [hs2]; rfl)))
  obtain ⟨a, b, e, ⟨xs, hq1⟩, ⟨ys, hq2⟩, q⟩ := q1
  subst e
  cases r1 with
  | cons r rr =>
    cases rr with
    | cons r' rr =>
      cases rr
      cases r
      cases r'
      obtain ⟨its1, rv1, p1, _⟩ := I1.list hq1
      obtain ⟨its2, rv2, p2, _⟩ := I1.list hq2
      obtain ⟨o1, e1, _⟩ := id p1.isList
      obtain ⟨o2, e2, _⟩ := id p2.isList
      refine call_zip_2 p1.isList p2.isList fun h' hz hTI hTO j1 j2 hsz kk => wpAny_pyIter_zip hz ?_
      refine ⟨_, [s1.heap.objs.size + 4, s1.heap.objs.size + 2, s1.heap.objs.size + 3, s1.heap.objs.size, s1.heap.objs.size + 1], _, _, H1, rfl, I1.kept (t' := s1.toks) kk, turn_zip (zipApart_new (Heap.lt_size e1) (Heap.lt_size e2)),
        ⟨hz, hTI, ⟨_, _, hTO⟩, j1, j2⟩, fun c hc => ?_, q⟩
      have le : s1.heap.objs.size ≤ c := by
        simp only [List.mem_cons, List.not_mem_nil, or_false] at hc
        rcases hc with e | e | e | e | e <;> subst e <;> omega
      exact I1.fpOk le (I1.hok.fresh le)
theorem for_zip {K : PySem.W.Frag} {a b : Addr} {xs ys : List V} {g : TG} {tb : TS} {D : Ends} {σ : St} {H : Hp} {n : Nat} (hn : n = min xs.length ys.length) (Pv : Nat → St → Hp → Prop) (h0 : Pv 0 σ H) (hl : ∀ i σ H, Pv i σ H → SqL K H a xs ∧ SqL K H b ys)
    (hs : ∀ i x y σ H T, xs[i]? = some x → ys[i]? = some y → Pv i σ H → H T = none → g (.ref T) σ (upd H T (.tup [x, y])) fun σ2 H2 => tb { D with nx := Pv (i + 1), ct := Pv (i + 1), bk := D.nx } σ2 H2) (hd : ∀ σ H, Pv n σ H → D.nx σ H) :
    ∃ W : Nat → Nat → St → Hp → Prop, (∃ m, W 0 m σ H) ∧ ∀ i m σ H, W i m σ H →
      ((Itz K a b).stop i H ∧ D.nx σ H) ∨ ((Itz K a b).go i H ∧ ∃ N : St → Hp → Prop, (∀ σ' H', N σ' H' → ∃ m', m' < m ∧ W (i + 1) m' σ' H') ∧ ∀ x H', (Itz K a b).yld i H x H' → g x σ H' fun σ2 H2 => tb { D with nx := N, ct := N, bk := D.nx } σ2 H2) := by
  refine ⟨fun i m σ H => m = n - i ∧ i ≤ n ∧ Pv i σ H, ⟨n, by simp, Nat.zero_le _, h0⟩, ?_⟩
  rintro i m σ H ⟨rfl, hi, p⟩
  obtain ⟨q1, q2⟩ := hl i σ H p
  by_cases hlt : i < n
  · have x1 : i < xs.length := by omega
    have y1 : i < ys.length := by omega
    refine .inr ⟨⟨xs, ys, xs[i], ys[i], q1, q2, List.getElem?_eq_getElem x1, List.getElem?_eq_getElem y1⟩, Pv (i + 1), fun σ' H' p' => ⟨n - (i + 1), by omega, rfl, hlt, p'⟩, fun x H' y => ?_⟩
    obtain ⟨T, rfl, hT, y⟩ := y
    have e := y xs ys _ _ q1 q2 (List.getElem?_eq_getElem x1) (List.getElem?_eq_getElem y1)
    subst e
    exact hs i _ _ σ H T (List.getElem?_eq_getElem x1) (List.getElem?_eq_getElem y1) p hT
  · have e : i = n := by omega
    subst e
    exact .inl ⟨⟨xs, ys, q1, q2, by omega⟩, hd σ H p⟩
end
end L2
set_option Elab.async false
set_option linter.all false
set_option maxRecDepth 100000
namespace L2
open PySem PySem.Spec PyProof.Rows
def rInT (K : PySem.W.Frag) : R2 := fun x y H Q => ∃ (p q : Addr) (as : List Addr) (ks : List Int), x = .ref p ∧ y = .ref q ∧ SqL K H q (as.map V.ref) ∧ SqT K H p (vI ks) ∧
  (∀ a ∈ as, ∃ js : List Int, SqT K H a (vI js)) ∧ (∃ a ∈ as, SqT K H a (vI ks)) ∧ Q (.bl true) H
section
variable {X : Cx} {K : PySem.W.Frag}
end
end L2
set_option Elab.async false
set_option linter.all false
set_option maxRecDepth 100000
namespace L2
open PySem PySem.Spec PyProof.Rows
section
variable {prog : Program} {w : World} {A : Around} {E : Value → Shared → Prop} {s : Shared}
structure Apart2 (z TI TO i1 i2 : Addr) : Prop where
  TIz : TI ≠ z
  TOz : TO ≠ z
  i1z : i1 ≠ z
  i2z : i2 ≠ z
  TITO : TI ≠ TO
  TIi1 : TI ≠ i1
  TIi2 : TI ≠ i2
  TOi1 : TO ≠ i1
  TOi2 : TO ≠ i2
  i12 : i1 ≠ i2
abbrev strIt (x : Str) (t : Tok) : Obj := { cls := .type (strIterType x), data := .fields #[.str x t, .int 0 0] }
abbrev lstIt (l : Addr) : Obj := { cls := .type "list_iterator", data := .fields #[.ref l, .int 0 0] }
abbrev zHeap (h : Heap) (o1 o2 : Obj) : Heap := ((((h.push o1).push o2).push { cls := .type "tuple", data := .seq #[.ref h.objs.size, .ref (h.push o1).objs.size] }).push { cls := .type "tuple", data := .seq #[.none, .none] }).push
  { cls := .type "zip", data := .fields #[.none, .bool false, .bool false, .ref ((h.push o1).push o2).objs.size, .ref (((h.push o1).push o2).push { cls := .type "tuple", data := .seq #[.ref h.objs.size, .ref (h.push o1).objs.size] }).objs.size] }
abbrev zAddr (h : Heap) (o1 o2 : Obj) : Addr := ((((h.push o1).push o2).push { cls := .type "tuple", data := .seq #[.ref h.objs.size, .ref (h.push o1).objs.size] }).push { cls := .type "tuple", data := .seq #[.none, .none] }).objs.size
end
end L2
set_option Elab.async false
set_option linter.all false
set_option maxRecDepth 100000
namespace L2
open PySem PySem.Spec PyProof.Rows
inductive Src where
  | l (a : Addr)
  | s (z : Str)
def srcV : Src → V
  | .l a => .ref a
  | .s z => .str z
def srcOk (K : PySem.W.Frag) (H : Hp) : Src → Prop
  | .l a => ∃ xs, SqL K H a xs
  | .s _ => True
def srcAt (K : PySem.W.Frag) (H : Hp) : Src → Nat → V → Prop
  | .l a, i, v => ∃ xs, SqL K H a xs ∧ xs[i]? = some v
  | .s z, i, v => ∃ c, z.cps[i]? = some c ∧ v = .str ⟨#[c]⟩
def srcEnd (K : PySem.W.Frag) (H : Hp) : Src → Nat → Prop
  | .l a, i => ∃ xs, SqL K H a xs ∧ xs.length = i
  | .s z, i => z.cps.size = i
def srcSt (it : Addr) (t : Tok) : Src → Nat → Heap → Prop
  | .l a, i, h => h.IsListIter it a i
  | .s z, i, h => h.IsStrIter it (strIterType z) z t i
def srcFp (it : Addr) : Src → List Addr
  | .l a => [it, a]
  | .s _ => [it]
def srcIt (t : Tok) : Src → Obj
  | .l a => lstIt a
  | .s z => strIt z t
def Itz2 (K : PySem.W.Frag) (S1 S2 : Src) : It where
  go := fun i H => (∃ u, srcAt K H S1 i u) ∧ ∃ v, srcAt K H S2 i v
  yld := fun i H x H' => ∃ T, x = .ref T ∧ H T = none ∧ ∀ u v, srcAt K H S1 i u → srcAt K H S2 i v → H' = upd H T (.tup [u, v])
  stop := fun i H => srcOk K H S1 ∧ srcOk K H S2 ∧ (srcEnd K H S1 i ∨ ((∃ u, srcAt K H S1 i u) ∧ srcEnd K H S2 i))
def Zip2St (z TI TO i1 i2 : Addr) (t1 t2 : Tok) (S1 S2 : Src) (i : Nat) (h : Heap) : Prop := IsZip h z TI TO .none ∧ IsPair h TI (.ref i1) (.ref i2) ∧ (∃ p q, IsPair h TO p q) ∧ srcSt i1 t1 S1 i h ∧ srcSt i2 t2 S2 i h
theorem lne {a n : Nat} (h : a < n) (k : Nat) : @Ne Addr a (n + k) := fun z => by have z : a = n + k := z; omega
section
variable {X : Cx} {es : List Expr} {kx : Nat} {tp : Pos}
def zOk : Src → Src → Prop
  | .s _, .l _ => False
  | _, _ => True
def iZip2 (K : PySem.W.Frag) (ta : TA) : TI := fun σ H R => ta σ H fun vs H1 => ∃ S1 S2, vs = [srcV S1, srcV S2] ∧ zOk S1 S2 ∧ srcOk K H1 S1 ∧ srcOk K H1 S2 ∧ R (Itz2 K S1 S2) H1
end
end L2
set_option Elab.async false
set_option linter.all false
set_option maxRecDepth 100000
namespace L2
open PySem PySem.Spec PyProof.Rows
theorem lri_nolen : typeLookup (.type "list_reverseiterator") "__len__" = pure none := by
  rw [typeLookup_type, builtinLookup_eq_fast]; kernel_rfl
theorem lri_hint : typeLookup (.type "list_reverseiterator") "__length_hint__" = pure (some (.builtin "list_reverseiterator.__length_hint__")) := by
  rw [typeLookup_type, builtinLookup_eq_fast]; kernel_rfl
section
variable {prog : Program} {w : World} {A : Around} {E : Value → Shared → Prop} {s : Shared} {R : Result → Shared → Prop} {it : Addr} {fp wr : List Addr} {G : Array GenState → Array GenState → Prop} {n : Nat} {P : Nat → Value → Prop} {St : Nat → Shared → Prop}
theorem extend_lri (V : WalksS prog w A.in1 it fp wr G n P St) (ty : ∀ i s, St i s → s.TypeIs (.ref it) "list_reverseiterator") (M : Addr) (res : Value) (c : Nat) (st0 : St 0 s) (nf : M ∉ fp) (mi : it ∈ fp) (hM : s.heap.get? M = some { cls := .type "list", data := .seq #[] c })
    (fin : ∀ s' acc c', Moved (M :: wr) G s s' → s'.heap.get? M = some { cls := .type "list", dict := none, data := .seq acc c', slots := #[] } → ItemsOf P acc n → R (.ok (.ret res)) s') (hn : n ≤ sizeLine) :
    wpAny (model prog w) A.in1 (Builtin.List.listExtendWith (.ref M) (.ref it) res)
      (fun f s' => match f with | .done d => R (.ok d) s' | .again k => k.quiet = true ∧ codeAny (model prog w) A k R s') (fun e s' => R (.error e) s') s := by
  have ne : M ≠ it := fun e => nf (e ▸ mi)
  have q1 : Builtin.List.listSameRef (.ref M) (.ref it) = false := by simp [Builtin.List.listSameRef, ne]
  unfold Builtin.List.listExtendWith
  refine wpAny_bind (wpAny_typeOf (ty 0 _ st0) ?_)
  rw [if_neg (by rw [q1]; decide)]
  refine wpAny_bind (V.self 0 _ _ _ st0 ?_); refine wpAny_bind (wpAny_holding ?_)
  unfold Builtin.List.listLengthHint
  refine wpAny_bind (wpAny_specialOf (ty 0 _ st0) lri_nolen ?_)
  show wpAny _ A.in1 (specialOf (Value.ref it) (Str.ofString "__length_hint__") >>= _) _ _ _
  refine wpAny_bind (wpAny_specialOf (ty 0 _ st0) lri_hint ?_)
  generalize hid : ("list_reverseiterator.__length_hint__" : String) = name
  wp_delta
  rw [show splitId name = some ("list_reverseiterator", "__length_hint__") from by subst hid; decide +kernel]
  subst hid
  refine wpAny_bind (wpAny_isInstance (b := true) (ty 0 _ st0) (by rw [isSubtype_type]; kernel_rfl) ?_); refine wpAny_pure ?_
  rw [if_neg (by decide)]
  refine wpAny_pure ⟨plainId_quiet F.plain_extend_loop _, codeAny_extend_loopS V hn _ nf _ n 0 _ _ _ rfl (Nat.zero_le _) st0 hM (ItemsOf.nil P) fun s' acc c' mv hM' ha => ?_⟩
  exact fin s' acc c' mv hM' ha
theorem init_lri (V : WalksS prog w A.in1 it fp wr G n P St) (ty : ∀ i s, St i s → s.TypeIs (.ref it) "list_reverseiterator") (M : Addr) (st0 : St 0 s) (nf : M ∉ fp) (mi : it ∈ fp) (hM : s.heap.get? M = some { cls := .type "list", data := .seq #[] })
    (fin : ∀ s' acc c', Moved (M :: wr) G s s' → s'.heap.get? M = some { cls := .type "list", dict := none, data := .seq acc c', slots := #[] } → ItemsOf P acc n → R (.ok (.ret .none)) s') (hn : n ≤ sizeLine) :
    wpAny (model prog w) A.in1 (Builtin.«list.__init__» ⟨[.ref M, .ref it], []⟩)
      (fun f s' => match f with | .done d => R (.ok d) s' | .again k => k.quiet = true ∧ codeAny (model prog w) A k R s') (fun e s' => R (.error e) s') s := by
  show wpAny _ A.in1 (do let old ← Builtin.List.listItems (.ref M); Builtin.List.listUpdate (.ref M) (fun _ => #[]); letGo old.toList.reverse; Builtin.List.listExtendWith (.ref M) (.ref it) .none) _ _ s
  refine wpAny_bind ?_; unfold Builtin.List.listItems
  refine wpAny_bind (wpAny_seqItems hM rfl (wpAny_pure ?_))
  show wpAny _ A.in1 (updateSeq M (fun _ => #[]) >>= fun _ => letGo (#[] : Array Value).toList.reverse >>= fun _ => Builtin.List.listExtendWith (.ref M) (.ref it) .none) _ _ s
  refine wpAny_bind (wpAny_updateSeq hM rfl ?_)
  have hM2 := Heap.get?_update_self (Obj.mapSeq (fun _ => (#[] : Array Value))) hM rfl
  have off : ∀ b o, b ≠ M → s.heap.get? b = some o → (s.heap.update M (Obj.mapSeq (fun _ => (#[] : Array Value)))).get? b = some o := fun b o nb e => (Heap.get?_update_other _ _ (Ne.symm nb)).trans e
  refine wpAny_bind (wpAny_letGo ?_)
  refine extend_lri V ty M .none _ (V.frame 0 s _ s.toks st0 (Nat.le_refl _) fun b hb o e => off b o (fun z => nf (z ▸ hb)) e) nf mi hM2 (fun s' acc c' mv hM' ha => ?_) hn
  exact fin s' acc c' (Moved.trans V.gtrans ((Moved.refl V.grefl).then_heap (Nat.le_refl _) fun b o hb e => off b o (fun z => hb (z ▸ List.mem_cons_self)) e) mv) hM' ha
theorem list_lri {Q : Value → Shared → Prop} (V : WalksS prog w A.in1.in1 it fp wr G n P St) (ty : ∀ i s, St i s → s.TypeIs (.ref it) "list_reverseiterator") (st0 : St 0 s) (below : ∀ b ∈ fp, b < s.heap.objs.size) (mi : it ∈ fp)
    (fin : ∀ s' acc c', Moved (s.heap.objs.size :: wr) G { s with heap := s.heap.push { cls := .type "list", data := .seq #[] } } s' →
      s'.heap.get? s.heap.objs.size = some { cls := .type "list", dict := none, data := .seq acc c', slots := #[] } → ItemsOf P acc n → Q (.ref s.heap.objs.size) s') (hn : n ≤ sizeLine) :
    wpAny (model prog w) A (call (.type "list") [.ref it]) Q E s := by
  have nf : s.heap.objs.size ∉ fp := fun z => Nat.lt_irrefl _ (below _ z)
  refine callType_codes (Q₁ := fun ob s1 => ob = .ref s.heap.objs.size ∧ s1 = { s with heap := s.heap.push { cls := .type "list", data := .seq #[] } }) F.called_list (F.typeCall_list_1 _) F.entry_list_init (code_list_new _ ⟨rfl, rfl⟩) fun ob s1 h1 => ?_
  obtain ⟨rfl, rfl⟩ := h1
  have hM : (s.heap.push { cls := .type "list", data := .seq #[] }).get? s.heap.objs.size = some { cls := .type "list", data := .seq #[] } := Heap.get?_push_size _ rfl
  refine ⟨⟨_, hM, rfl⟩, F.args_list_init_2 _ _, init_lri V ty _ (V.frame 0 s _ s.toks st0 (Nat.le_refl _) fun b _ o e => Heap.get?_push_of_some _ e) nf mi hM (fun s' acc c' mv hM' ha => ?_) hn⟩
  exact ⟨rfl, fin s' acc c' mv hM' ha⟩
end
section
variable {X : Cx} {K : PySem.W.Frag} {p1 p2 pos1 pos2 : Pos} {e : Expr} {te : TE}
def tListRev (K : PySem.W.Frag) (te : TE) : TE := fun σ H Q => te σ H fun x H1 => ∃ a ys, x = .ref a ∧ SqL K H1 a ys ∧ ys.length ≤ 1000 ∧ ∀ l, H1 l = none → Q (.ref l) (upd H1 l (.lst ys.reverse))
theorem pe_listRev (hg1 : Gl X "list") (hm1 : X.mg "list" = none) (hg2 : Gl X "reversed") (hm2 : X.mg "reversed" = none) (he : PE X e te) (hK : X.K = K := by rfl) (hc : X.calm = true := by rfl)
    (hs2 : starEach [e] X.env = (false, eval e X.env) :: starEach [] X.env := by rfl)
    (hs1 : starEach [.Call (.Name "reversed" p2) [e] [] pos2] X.env = (false, eval (.Call (.Name "reversed" p2) [e] [] pos2) X.env) :: starEach [] X.env := by rfl)
    (hq1 : (backTo pos1 (starEach [] X.env)).any (·.1) = false := by rfl) (hq2 : (backTo pos2 (starEach [] X.env)).any (·.1) = false := by rfl) :
    PE X (.Call (.Name "list" p1) [.Call (.Name "reversed" p2) [e] [] pos2] [] pos1) (tListRev K te) := by
  subst hK
  intro pins s σ H Q I h
  have hsz : sizeLine = 16777216 := sizeLine_eq
  refine wpAny_Call_Name_kw (ld_blt I hg1 hm1 bt_list ?_)
  refine PyProof.Rows.callWith_type1 ?_ hs1 hq1
  rw [hs1]
  show wpAny _ _ (spliced ((false, eval (.Call (.Name "reversed" p2) [e] [] pos2) X.env) :: backTo pos1 (starEach [] X.env))) _ _ s
  refine Calls.spliced_cons ?_
  refine wpAny_Call_Name_kw (ld_blt I hg2 hm2 bt_reversed ?_)
  refine PyProof.Rows.callWith_type1 ?_ hs2 hq2
  rw [hs2]
  show wpAny _ _ (spliced ((false, eval e X.env) :: backTo pos2 (starEach [] X.env))) _ _ s
  refine Calls.spliced_cons (thn (he pins s σ H _ I h) fun u s1 ⟨x, H1, I1, r1, a, ys, ex, hq, hy, q⟩ => ?_)
  subst ex
  cases r1
  refine Calls.spliced_nil ?_
  obtain ⟨its, r, pl, hz⟩ := I1.list hq
  have hl := r.length
  refine call_reversed_list pl.isList ?_
  refine Calls.spliced_nil ?_
  obtain ⟨h1, g1, d1, k1, o1⟩ := s1
  have hit : (h1.push (revObj a ((its.toArray.size : Int) - 1))).IsRevIter h1.objs.size a ((its.toArray.size : Int) - 1 - ((0 : Nat) : Int)) := ⟨_, Heap.get?_push_size _ rfl, rfl, by show Data.fields _ = Data.fields _; rw [show (its.toArray.size : Int) - 1 - ((0 : Nat) : Int) = (its.toArray.size : Int) - 1 by omega]⟩
  have hli : (h1.push (revObj a ((its.toArray.size : Int) - 1))).IsList a its.toArray := pl.isList.push _
  obtain ⟨oa, hoa, _⟩ := pl.isList
  have hlt : a < h1.objs.size := Heap.lt_size hoa
  have hh : X.A.in1.in1.handled = none := by simp [I.ok.hd hc]
  have ps : (h1.push (revObj a ((its.toArray.size : Int) - 1))).objs.size = h1.objs.size + 1 := Heap.size_push _ _
  refine list_lri (Walks.toS (Walks.listRev hh h1.objs.size a (Nat.ne_of_lt hlt) its.toArray)) (fun i s x => x.2.1.typeIs) ⟨Nat.zero_le _, hit, hli⟩ (fun b hb => ?_) (by simp) (fun s' acc c' mv hM ha => ?_) (by rw [List.size_toArray]; omega)
  · show b < (h1.push (revObj a ((its.toArray.size : Int) - 1))).objs.size
    rw [ps]
    rcases List.mem_cons.mp hb with e | e
    · rw [e]; exact Nat.lt_succ_self _
    · rw [List.mem_singleton.mp e]; exact Nat.lt_succ_of_lt hlt
  · have vs : Vals ys.reverse acc.toList := by
      refine vals_ptw _ _ (by rw [List.length_reverse, hl]; have := ha.1; simpa using this.symm) fun i x u e1 e2 => ?_
      have hi : i < ys.length := by
        have := (List.getElem?_eq_some_iff.mp e1).1
        rwa [List.length_reverse] at this
      have e3 := ha.2 i u (by rw [← Array.getElem?_toList]; exact e2)
      rw [List.getElem?_reverse hi] at e1
      obtain ⟨v, hv, rv'⟩ := r.get e1
      rw [List.size_toArray, ← hl] at e3
      have e4 : its[ys.length - 1 - i]? = some u := by simpa using e3
      rw [hv] at e4
      cases e4
      exact rv'
    rw [Moved.eq_with mv]
    have hM' : s'.heap.get? (h1.objs.size + 1) = some { cls := .type "list", dict := none, data := .seq acc c', slots := #[] } := by
      have := hM
      dsimp only at this
      rw [ps] at this
      exact this
    show EP X pins σ Q (Value.ref (h1.push (revObj a ((its.toArray.size : Int) - 1))).objs.size) _
    rw [ps]
    refine ⟨.ref (h1.objs.size + 1), _, I1.laid (t' := s'.toks) (o := .lst ys.reverse) (h' := s'.heap) (fun b o e => ?_) (Nat.le_succ _) ?_, rfl, q _ (I1.hok.fresh (Nat.le_succ _))⟩
    · have hb := Heap.lt_size e
      refine mv.heap b o ?_ (Heap.get?_push_of_some _ (Heap.get?_push_of_some _ e))
      show b ∉ [(h1.push (revObj a ((its.toArray.size : Int) - 1))).objs.size, h1.objs.size]
      rw [ps]
      have hb2 : b < h1.objs.size := hb
      simp only [List.mem_cons, List.not_mem_nil, or_false, not_or]
      exact ⟨Nat.ne_of_lt (Nat.lt_succ_of_lt hb2), Nat.ne_of_lt hb2⟩
    · exact ⟨by rw [List.length_reverse]; exact hz, acc.toList, c', vs, by simpa using hM'⟩
end
end L2
set_option Elab.async false
set_option linter.all false
set_option maxRecDepth 100000
namespace L2
open PySem PySem.Spec PyProof.Rows
section
variable {κ : Type} [DecidableEq κ]
def valV (kvs : List (κ × V)) (k : κ) : Option V := (kvs.find? fun kv => decide (kv.1 = k)).map (·.2)
def putK (kvs : List (κ × V)) (k : κ) (v : V) : List (κ × V) :=
  if (kvs.any fun kv => decide (kv.1 = k)) = true then kvs.map (fun kv => if kv.1 = k then (kv.1, v) else kv) else kvs ++ [(k, v)]
def dropK (kvs : List (κ × V)) (k : κ) : List (κ × V) := kvs.filter fun kv => decide (kv.1 ≠ k)
theorem valV_nil {k : κ} : valV ([] : List (κ × V)) k = none := rfl
theorem valV_pos {p : κ × V} {r : List (κ × V)} {k : κ} (e : p.1 = k) : valV (p :: r) k = some p.2 := by simp [valV, List.find?_cons, e]
theorem valV_neg {p : κ × V} {r : List (κ × V)} {k : κ} (e : ¬ p.1 = k) : valV (p :: r) k = valV r k := by simp [valV, List.find?_cons, e]
theorem valV_any (k : κ) : ∀ kvs : List (κ × V), (kvs.any fun kv => decide (kv.1 = k)) = (valV kvs k).isSome
  | [] => rfl
  | p :: r => by
    rw [List.any_cons]
    by_cases e : p.1 = k
    · simp only [valV_pos e, decide_eq_true e, Bool.true_or, Option.isSome_some]
    · rw [valV_neg e, decide_eq_false e, Bool.false_or]; exact valV_any k r
theorem length_putK (kvs : List (κ × V)) (k : κ) (v : V) : (putK kvs k v).length ≤ kvs.length + 1 := by
  unfold putK
  split
  · rw [List.length_map]; omega
  · rw [List.length_append, List.length_cons, List.length_nil]; omega
theorem putK_new {kvs : List (κ × V)} {k : κ} (v : V) (h : valV kvs k = none) : putK kvs k v = kvs ++ [(k, v)] := by
  unfold putK
  rw [valV_any, h]
  exact if_neg (by decide)
theorem RelO.isSome_eq {o : Option V} {u : Option Value} (r : RelO o u) : o.isSome = u.isSome := by
  cases o with
  | none => cases u with
    | none => rfl
    | some _ => exact (show False from r).elim
  | some _ => cases u with
    | none => exact (show False from r).elim
    | some _ => rfl
theorem KV.val {kvs : List (κ × V)} {vs : List (κ × Value)} (r : KV kvs vs) (k : κ) : RelO (valV kvs k) (valueAt vs k) := by
  unfold KV at r
  induction r with
  | nil => exact True.intro
  | @cons p q ps qs h t ih =>
    obtain ⟨h1, h2⟩ := h
    by_cases e : p.1 = k
    · have e' : q.1 = k := h1.symm.trans e
      have b : valueAt (q :: qs) k = some q.2 := by simp [valueAt, List.find?_cons, e']
      rw [valV_pos e, b]; exact h2
    · have e' : ¬ q.1 = k := fun z => e (h1.trans z)
      have b : valueAt (q :: qs) k = valueAt qs k := by simp [valueAt, List.find?_cons, e']
      rw [valV_neg e, b]; exact ih
theorem KV.any {kvs : List (κ × V)} {vs : List (κ × Value)} (r : KV kvs vs) (k : κ) : (kvs.any fun kv => decide (kv.1 = k)) = vs.any fun kv => decide (kv.1 = k) := by
  unfold KV at r
  induction r with
  | nil => rfl
  | cons h t ih => rw [List.any_cons, List.any_cons, ih, h.1]
theorem KV.repl {kvs : List (κ × V)} {vs : List (κ × Value)} (r : KV kvs vs) (k : κ) {y : V} {u : Value} (ry : RelV y u) :
    KV (kvs.map fun kv => if kv.1 = k then (kv.1, y) else kv) (vs.map fun kv => if kv.1 = k then (kv.1, u) else kv) := by
  unfold KV at r ⊢
  induction r with
  | nil => exact .nil
  | @cons p q ps qs h t ih =>
    rw [List.map_cons, List.map_cons]
    refine .cons ?_ ih
    obtain ⟨h1, h2⟩ := h
    by_cases e : p.1 = k
    · rw [if_pos e, if_pos (h1.symm.trans e)]; exact ⟨h1, ry⟩
    · rw [if_neg e, if_neg (fun z => e (h1.trans z))]; exact ⟨h1, h2⟩
theorem KV.put {kvs : List (κ × V)} {vs : List (κ × Value)} (r : KV kvs vs) (k : κ) {y : V} {u : Value} (ry : RelV y u) : KV (putK kvs k y) (stored vs k u) := by
  unfold putK stored
  rw [r.any k]
  by_cases e : (vs.any fun kv => decide (kv.1 = k)) = true
  · rw [if_pos e, if_pos e]; exact r.repl k ry
  · rw [if_neg e, if_neg e]; exact Paired.snoc r ⟨rfl, ry⟩
theorem KV.length {kvs : List (κ × V)} {vs : List (κ × Value)} (r : KV kvs vs) : kvs.length = vs.length := Paired.length r
end
theorem kV_is {P : Program} {w : World} {k : Key} {u : Value} (r : RelV (kV k) u) : (mixKind P w).is k u = true := by
  cases k with
  | inl i => obtain ⟨t, e⟩ := (show ∃ t, u = Value.int i t from r); subst e; exact mixKind_int P w i t
  | inr x => obtain ⟨t, e⟩ := (show ∃ t, u = Value.str x t from r); subst e; exact mixKind_str P w x t
theorem items_are {P : Program} {w : World} : ∀ {ks : List Key} {us : List Value}, Vals (ks.map kV) us → ItemsAre (mixKind P w) ks us
  | [], _, r => by rw [List.map_nil] at r; cases r; exact .nil
  | k :: ks, _, r => by
    rw [List.map_cons] at r
    cases r with
    | cons h t => exact .cons (kV_is h) (items_are t)
abbrev KT (H : Hp) : List (List Key × V) → List (List Key × Addr × Value) → Prop := Paired fun p q => p.1 = q.1 ∧ H q.2.1 = some (.tup (p.1.map kV)) ∧ RelV p.2 q.2.2
theorem KT.val {H : Hp} {kvs : List (List Key × V)} {xs : List (List Key × Addr × Value)} (r : KT H kvs xs) (k : List Key) : RelO (valV kvs k) ((atKey xs k).map (·.2)) := by
  induction r with
  | nil => exact True.intro
  | @cons p q ps qs h t ih =>
    obtain ⟨h1, _, h2⟩ := h
    by_cases e : p.1 = k
    · have e' : q.1 = k := h1.symm.trans e
      have b : atKey (q :: qs) k = some q.2 := by simp [atKey, List.find?_cons, e']
      rw [valV_pos e, b]; exact h2
    · have e' : ¬ q.1 = k := fun z => e (h1.trans z)
      have b : atKey (q :: qs) k = atKey qs k := by simp [atKey, List.find?_cons, e']
      rw [valV_neg e, b]; exact ih
theorem KT.repl {H : Hp} {kvs : List (List Key × V)} {xs : List (List Key × Addr × Value)} (r : KT H kvs xs) (k : List Key) {y : V} {u : Value} (ry : RelV y u) :
    KT H (kvs.map fun kv => if kv.1 = k then (kv.1, y) else kv) (xs.map (putAt k u)) := by
  induction r with
  | nil => exact .nil
  | @cons p q ps qs h t ih =>
    rw [List.map_cons, List.map_cons]
    refine .cons ?_ ih
    obtain ⟨h1, h2, h3⟩ := h
    unfold putAt
    by_cases e : p.1 = k
    · rw [if_pos e, if_pos (h1.symm.trans e)]; exact ⟨h1, h2, ry⟩
    · rw [if_neg e, if_neg (fun z => e (h1.trans z))]; exact ⟨h1, h2, h3⟩
theorem KT.put {H : Hp} {kvs : List (List Key × V)} {xs : List (List Key × Addr × Value)} (r : KT H kvs xs) (k : List Key) {b : Addr} {y : V} {u : Value} (hb : H b = some (.tup (k.map kV))) (ry : RelV y u) :
    KT H (putK kvs k y) (storedH xs k b u) := by
  have e : (kvs.any fun kv => decide (kv.1 = k)) = (atKey xs k).isSome := by
    rw [valV_any, (r.val k).isSome_eq, Option.isSome_map]
  unfold putK storedH
  rw [e]
  by_cases q : (atKey xs k).isSome = true
  · rw [if_pos q, if_pos q]; exact r.repl k ry
  · rw [if_neg q, if_neg q]; exact Paired.snoc r ⟨rfl, hb, ry⟩
theorem KT.keeps {H H' : Hp} {kvs : List (List Key × V)} {xs : List (List Key × Addr × Value)} (r : KT H kvs xs) (ht : ∀ b ys, H b = some (.tup ys) → H' b = some (.tup ys)) : KT H' kvs xs :=
  Paired.mapP r fun _ _ z => ⟨z.1, ht _ _ z.2.1, z.2.2⟩
section
variable {P : Program} {w : World} {H : Hp} {h : Heap} {a : Addr}
theorem rd_of {u : HO} (ok : HOk P w H h) (e : Rd H a u) : ObjOk P w H h a u := e.ok ok
theorem dk_rd {kvs : List (Key × V)} (ok : HOk P w H h) (e : Rd H a (.dK kvs)) : kvs.length ≤ sizeLine ∧ (a == sysModules) = false ∧ ∃ vs, KV kvs vs ∧ h.DictOf (mixKind P w) a vs :=
  show ObjOk P w H h a (.dK kvs) from rd_of ok e
theorem dk_of {kvs : List (Key × V)} (ok : HOk P w H h) (e : H a = some (.dK kvs)) : kvs.length ≤ sizeLine ∧ (a == sysModules) = false ∧ ∃ vs, KV kvs vs ∧ h.DictOf (mixKind P w) a vs := dk_rd ok (.inl e)
theorem key_of {ks : List Key} (ok : HOk P w H h) (e : H a = some (.tup (ks.map kV))) : (tupleKind (mixKind P w)).is h ks a := by
  obtain ⟨_, its, r, o, h1, h2, n, h3⟩ := (show ObjOk P w H h a (.tup (ks.map kV)) from ok a _ e)
  exact ⟨o, its.toArray, n, h1, h2, h3, by simpa using items_are r⟩
theorem dt_rd {kvs : List (List Key × V)} (ok : HOk P w H h) (e : Rd H a (.dT kvs)) : kvs.length ≤ sizeLine ∧ (a == sysModules) = false ∧
    ∃ xs, KT H kvs xs ∧ h.DictOfH (tupleKind (mixKind P w)) a xs := by
  obtain ⟨z, y, xs, r, o, es, ep, h1, h2, h3, h4, h5⟩ := (show ObjOk P w H h a (.dT kvs) from rd_of ok e)
  refine ⟨z, y, xs, r, o, es, ep, h1, h2, h3, h4, fun x hx => ?_, h5⟩
  have all : ∀ {l : List (List Key × V)} {m : List (List Key × Addr × Value)}, KT H l m → ∀ x ∈ m, (tupleKind (mixKind P w)).is h x.1 x.2.1 := by
    intro l m q
    induction q with
    | nil => intro x hx; exact nomatch hx
    | @cons p q ps qs hq t ih =>
      intro x hx
      rcases List.mem_cons.mp hx with e | hx
      · subst e
        exact key_of ok (by rw [← hq.1]; exact hq.2.1)
      · exact ih x hx
  exact all r x hx
theorem dt_of {kvs : List (List Key × V)} (ok : HOk P w H h) (e : H a = some (.dT kvs)) : kvs.length ≤ sizeLine ∧ (a == sysModules) = false ∧
    ∃ xs, KT H kvs xs ∧ h.DictOfH (tupleKind (mixKind P w)) a xs := dt_rd ok (.inl e)
end
def DGet (H : Hp) (a : Addr) (y : V) (r : Option V) : Prop :=
  (∃ kvs k, Rd H a (.dK kvs) ∧ y = kV k ∧ r = valV kvs k) ∨ ∃ kvs k b, Rd H a (.dT kvs) ∧ y = .ref b ∧ H b = some (.tup (k.map kV)) ∧ r = valV kvs k
def DPut (H : Hp) (a : Addr) (y v : V) (H' : Hp) : Prop :=
  (∃ kvs k, H a = some (.dK kvs) ∧ y = kV k ∧ kvs.length < sizeLine ∧ H' = upd H a (.dK (putK kvs k v))) ∨
  ∃ kvs k b, H a = some (.dT kvs) ∧ y = .ref b ∧ H b = some (.tup (k.map kV)) ∧ kvs.length < sizeLine ∧ H' = upd H a (.dT (putK kvs k v))
theorem DGet.k {H : Hp} {a : Addr} {kvs : List (Key × V)} {k : Key} (e : H a = some (.dK kvs)) : DGet H a (kV k) (valV kvs k) := .inl ⟨kvs, k, .inl e, rfl, rfl⟩
theorem DPut.k {H : Hp} {a : Addr} {kvs : List (Key × V)} {k : Key} {v : V} (e : H a = some (.dK kvs)) (hl : kvs.length < sizeLine) : DPut H a (kV k) v (upd H a (.dK (putK kvs k v))) := .inl ⟨kvs, k, e, rfl, hl, rfl⟩
section
variable {X : Cx} {pins : List (Addr × Obj)} {σ : St} {H : Hp} {s : Shared} {a : Addr} {y v : V} {u r : Value} {o : Option V} {A : Around} {E : Value → Shared → Prop}
theorem Inv.big (I : Inv X pins σ H s) : sysModules < s.heap.objs.size := by
  have h : mainGlobals < s.heap.objs.size := (I.mod.glob.keeps I.bk).lt
  exact Nat.lt_trans (by decide) h
theorem d_getItem {Q : Value → Shared → Prop} (hu : A.units + 1 < cLine) (I : Inv X pins σ H s) (g : DGet H a y (some v)) (ry : RelV y u) (h : ∀ w' s', Inv X pins σ H s' → RelV v w' → Q w' s') :
    wpAny (model X.prog X.w) A (getItem (.ref a) u) Q E s := by
  rcases g with ⟨kvs, k, e, ey, l⟩ | ⟨kvs, k, b, e, ey, eb, l⟩
  · subst ey
    obtain ⟨z, hd, vs, rel, dd⟩ := dk_rd I.hok e
    obtain ⟨w', hw, rw'⟩ := RelO.some_of (v := v) (o := valueAt vs k) (by rw [l]; exact rel.val k)
    exact wpAny_getItem_of (kV_is ry) dd.mapOf hw (h w' _ (I.tok _) rw')
  · subst ey
    cases (show u = Value.ref b from ry)
    obtain ⟨z, hd, xs, rel, dd⟩ := dt_rd I.hok e
    obtain ⟨w', hw, rw'⟩ := RelO.some_of (v := v) (o := (atKey xs k).map (·.2)) (by rw [l]; exact rel.val k)
    obtain ⟨p, hp, hp2⟩ := Option.map_eq_some_iff.mp hw
    refine wpAny_getItem_heap (tupleKind_room_in1 hu) (key_of I.hok eb) dd hp ?_
    rw [hp2]
    exact h w' _ (I.tok _) rw'
theorem d_notIn {Q : Value → Shared → Prop} (hu : A.units + 1 < cLine) (I : Inv X pins σ H s) (g : DGet H a y o) (ry : RelV y u) (h : ∀ s', Inv X pins σ H s' → Q (.bool (!o.isSome)) s') :
    wpAny (model X.prog X.w) A (compareOp .NotIn u (.ref a)) Q E s := by
  rcases g with ⟨kvs, k, e, ey, l⟩ | ⟨kvs, k, b, e, ey, eb, l⟩
  · subst ey
    obtain ⟨z, hd, vs, rel, dd⟩ := dk_rd I.hok e
    refine wpAny_notIn_of (kV_is ry) hd dd.mapOf ?_
    rw [← (rel.val k).isSome_eq, ← l]
    exact h _ (I.tok _)
  · subst ey
    cases (show u = Value.ref b from ry)
    obtain ⟨z, hd, xs, rel, dd⟩ := dt_rd I.hok e
    refine wpAny_notIn_heap (tupleKind_room_in1 hu) (key_of I.hok eb) hd dd ?_
    have q := (rel.val k).isSome_eq
    rw [Option.isSome_map] at q
    rw [← q, ← l]
    exact h _ (I.tok _)
theorem d_write {h' : Heap} {t' : Nat} {ob : HO} (I : Inv X pins σ H s) (mu : Mut (H a)) (hs : Heap.SameBut a s.heap h') (he : ∃ q, h'.get? a = some q) (new : ObjOk X.prog X.w (upd H a ob) h' a ob) :
    Inv X pins σ (upd H a ob) { s with heap := h', toks := t' } :=
  I.write (x := a) (e := a) mu (.inl rfl) (fun b q hb z => (hs.2 b hb).trans z) he new
theorem dk_new {P : Program} {w : World} {H' : Hp} {h' : Heap} {kvs : List (Key × V)} {vs : List (Key × Value)} (z : kvs.length ≤ sizeLine) (hd : (a == sysModules) = false) (rel : KV kvs vs) (dd : h'.DictOf (mixKind P w) a vs) :
    ObjOk P w H' h' a (.dK kvs) := ⟨z, hd, vs, rel, dd⟩
theorem d_setItem {H' : Hp} {Q : Unit → Shared → Prop} (hu : A.units + 1 < cLine) (I : Inv X pins σ H s) (g : DPut H a y v H') (ry : RelV y u) (rv : RelV v r) (h : ∀ s', Inv X pins σ H' s' → Q () s') :
    wpAny (model X.prog X.w) A (setItem (.ref a) u r) Q E s := by
  rcases g with ⟨kvs, k, e, ey, l, eH⟩ | ⟨kvs, k, b, e, ey, eb, l, eH⟩
  · subst ey eH
    obtain ⟨z, hd, vs, rel, dd⟩ := dk_of I.hok e
    have hz : vs.length ≤ sizeLine := by rw [← rel.length]; exact z
    have hl : (putK kvs k v).length ≤ sizeLine := by have := length_putK kvs k v; omega
    refine wpAny_setItem_pairs (hsz := hz) (kV_is ry) dd fun h' dd' hs => h _ ?_
    have he : ∃ q, h'.get? a = some q := let ⟨q, _, _, hq, _⟩ := dd'; ⟨q, hq⟩
    exact d_write I (by rw [e]; exact True.intro) hs he (dk_new hl hd (rel.put k rv) dd')
  · subst ey eH
    cases (show u = Value.ref b from ry)
    obtain ⟨z, hd, xs, rel, dd⟩ := dt_of I.hok e
    have hz : xs.length ≤ sizeLine := by rw [← Paired.length rel]; exact z
    have hl : (putK kvs k v).length ≤ sizeLine := by have := length_putK kvs k v; omega
    refine wpAny_setItem_heap (hsz := hz) (tupleKind_room_in1 hu) (key_of I.hok eb) dd fun h' dd' hs => h _ ?_
    obtain ⟨q, es, ep, hq, h2, h3, h4, _, h5⟩ := dd'
    refine d_write I (by rw [e]; exact True.intro) hs ⟨q, hq⟩ ⟨hl, hd, _, (rel.put k eb rv).keeps fun c ys ec => ?_, q, es, ep, hq, h2, h3, h4, h5⟩
    rw [upd_ne (ne_of ec e (fun z => nomatch z))]
    exact ec
end
section
variable {X : Cx} {pins : List (Addr × Obj)} {σ : St} {H : Hp} {s : Shared} {a : Addr} {kvs : List (Key × V)} {k : Key} {u : Value} {A : Around} {E : Value → Shared → Prop}
theorem d_len {Q : Value → Shared → Prop} (I : Inv X pins σ H s) (e : Rd H a (.dK kvs)) (h : ∀ t s', Inv X pins σ H s' → Q (.int kvs.length t) s') : wpAny (model X.prog X.w) A (call (.builtin "len") [.ref a]) Q E s := by
  obtain ⟨z, hd, vs, rel, dd⟩ := dk_rd I.hok e
  refine call_len_dict hd dd (by rw [← rel.length]; rw [sizeLine_eq] at z; omega) ?_
  rw [← rel.length]
  exact h _ _ (I.tok _)
end
def NoSl (i : Expr) : Prop := ∀ ov iv, subscripted i false ov iv = operate [ov, iv] (getItem ov iv)
theorem subD_of {prog : Program} {w : World} {A : Around} {E : Value → Shared → Prop} {s : Shared} {env : Env} {value slice : Expr} {pos : Pos} {T id : String} {Q : Value → Shared → Prop}
    (hl : typeLookup (.type T) "__getitem__" = pure (some (.builtin id))) (hs : NoSl slice)
    (h : wpAny (model prog w) A (eval value env) (fun o s₁ => wpAny (model prog w) A (eval slice env) (fun i s₂ => s₂.TypeIs o T ∧ wpAny (model prog w) A (getItem o i) Q E s₂) E s₁) E s) :
    wpAny (model prog w) A (eval (.Subscript value slice pos) env) Q E s := by
  refine Subscript_ (wpAny_mono h (fun o s₁ h₁ => wpAny_mono h₁ (fun i s₂ h₂ => ?_) fun _ _ x => x) fun _ _ x => x)
  obtain ⟨hT, h₂⟩ := h₂
  unfold subscriptTail
  refine wpAny_bind ?_
  rw [getitemInPython_of_ne hT.not_modules]
  refine wpAny_bind (wpAny_specialOf hT hl ?_)
  have fin : wpAny (model prog w) A (subscripted slice false o i) (fun r s₃ => wpAny (model prog w) A (letTemporaryGo value o r >>= fun _ => pure r) Q E s₃) E s₂ := by
    rw [hs o i]
    exact wpAny_operating (wpAny_mono h₂ (fun r s₃ h₃ => wpAny_bind (wpAny_letTemporaryGo (wpAny_pure h₃))) fun _ _ x => x)
  first
    | exact wpAny_pure (wpAny_bind fin)
    | exact wpAny_bind (wpAny_pure (wpAny_bind fin))
    | exact wpAny_bind fin
theorem dict_typeIs {X : Cx} {pins : List (Addr × Obj)} {σ : St} {H : Hp} {s : Shared} {a : Addr} {y : V} {o : Option V} (I : Inv X pins σ H s) (g : DGet H a y o) : s.TypeIs (.ref a) "dict" := by
  rcases g with ⟨kvs, k, e, _, _⟩ | ⟨kvs, k, b, e, _, _, _⟩
  · obtain ⟨_, _, vs, _, dd⟩ := dk_rd I.hok e
    exact dd.typeIs
  · obtain ⟨_, _, xs, _, dd⟩ := dt_rd I.hok e
    exact dd.typeIs
def tDGet (td ty : TE) : TE := fun σ H Q => td σ H fun x H1 => ty σ H1 fun y H2 => ∃ a v, x = .ref a ∧ DGet H2 a y (some v) ∧ Q v H2
def tDIn (ty td : TE) : TE := fun σ H Q => ty σ H fun y H1 => td σ H1 fun x H2 => ∃ a o, x = .ref a ∧ DGet H2 a y o ∧ Q (.bl o.isSome) H2
def tDNotIn (ty td : TE) : TE := fun σ H Q => ty σ H fun y H1 => td σ H1 fun x H2 => ∃ a o, x = .ref a ∧ DGet H2 a y o ∧ Q (.bl (!o.isSome)) H2
def sDPut (td ty tv : TE) : TS := fun D σ H => tv σ H fun v H1 => td σ H1 fun x H2 => ty σ H2 fun y H3 => ∃ a H4, x = .ref a ∧ DPut H3 a y v H4 ∧ D.nx σ H4
def sDAug (td ty tv : TE) (rd : V → V → Hp → VK → Prop) : TS := fun D σ H => td σ H fun x H1 => ty σ H1 fun y H2 => ∃ a v, x = .ref a ∧ DGet H2 a y (some v) ∧
  tv σ H2 fun y2 H3 => rd v y2 H3 fun z H4 => ∃ H5, DPut H4 a y z H5 ∧ D.nx σ H5
def sDDel (td ty : TE) : TS := fun D σ H => td σ H fun x H1 => ty σ H1 fun y H2 => ∃ a kvs k, x = .ref a ∧ H2 a = some (.dK kvs) ∧ y = kV k ∧ (valV kvs k).isSome = true ∧ D.nx σ (upd H2 a (.dK (dropK kvs k)))
section
variable {X : Cx} {o i e value : Expr} {pos pos' tpos : Pos} {td ty tv : TE}
theorem pe_dget (hu : X.A.units + 1 < cLine) (ho : PE X o td) (hi : PE X i ty) (hs : NoSl i) : PE X (.Subscript o i pos) (tDGet td ty) := by
  intro pins s σ H Q I h
  refine subD_of PySem.F.slot_dict_getitem.lookup hs (thn (ho pins s σ H _ I h) fun u s1 ⟨x, H1, I1, rx, q1⟩ => thn (hi pins s1 σ H1 _ I1 q1) fun iv s2 ⟨y, H2, I2, ry, a, v, ex, g, q2⟩ => ?_)
  subst ex
  obtain rfl : u = Value.ref a := rx
  exact ⟨dict_typeIs I2 g, d_getItem hu I2 g ry fun w' s3 I3 rw' => ⟨v, H2, I3, rw', q2⟩⟩
theorem pc_dnotin (hu : X.A.units + 1 < cLine) (hi : PE X i ty) (ho : PE X o td) : PC X .NotIn i o (tDNotIn ty td) := by
  intro pins s σ H Q I h
  refine thn (hi pins s σ H _ I h) fun iv s1 ⟨y, H1, I1, ry, q1⟩ => thn (ho pins s1 σ H1 _ I1 q1) fun u s2 ⟨x, H2, I2, rx, a, ov, ex, g, q2⟩ => ?_
  subst ex
  obtain rfl : u = Value.ref a := rx
  exact d_notIn hu I2 g ry fun s3 I3 => ⟨.bl (!ov.isSome), H2, I3, rfl, q2⟩
theorem ps_dput (hu : X.A.units + 1 < cLine) (ho : PE X o td) (hi : PE X i ty) (hv : PE X value tv) (hs : swapsWith value (some (.Subscript o i pos')) pos.line X.env = pure false) :
    PS X (.Assign [.Subscript o i pos'] value pos) (sDPut td ty tv) := by
  intro pins s σ H D I h
  refine wpAny_Assign_Subscript (thn (hv pins s σ H _ I h) fun r s1 ⟨v, H1, I1, rv, q1⟩ => thn (ho pins s1 σ H1 _ I1 q1) fun u s2 ⟨x, H2, I2, rx, q2⟩ => thn (hi pins s2 σ H2 _ I2 q2) fun iv s3 ⟨y, H3, I3, ry, a, H4, ex, g, q3⟩ => ?_) hs
  subst ex
  obtain rfl : u = Value.ref a := rx
  exact d_setItem hu I3 g ry rv fun s4 I4 => ⟨σ, H4, I4, q3⟩
end
theorem dk_empty {P : Program} {w : World} {H : Hp} (h : Heap) (hb : sysModules < h.objs.size) : ObjOk P w H (h.push { cls := .type "dict", data := .dict #[] }) h.objs.size (.dK []) :=
  ⟨Nat.zero_le _, beq_eq_false_iff_ne.mpr (Ne.symm (Nat.ne_of_lt hb)), [], .nil, Heap.DictOf.new h⟩
def tDNewK : TE := fun _ H Q => ∀ p, H p = none → Q (.ref p) (upd H p (.dK []))
def tDNewT : TE := fun _ H Q => ∀ p, H p = none → Q (.ref p) (upd H p (.dT []))
section
variable {X : Cx} {pos : Pos}
end
def tPairs : List (TE × TE) → St → Hp → (List (V × V) → Hp → Prop) → Prop
  | [], _, H, Q => Q [] H
  | (tk, tv) :: r, σ, H, Q => tk σ H fun x H1 => tv σ H1 fun y H2 => tPairs r σ H2 fun ps H3 => Q ((x, y) :: ps) H3
abbrev VV : List (V × V) → List (Value × Value) → Prop := Paired fun p q => RelV p.1 q.1 ∧ RelV p.2 q.2
def PPs (X : Cx) (pos : Pos) (keys : List (Option Expr)) (values : List Expr) (trs : List (TE × TE)) : Prop :=
  ∀ (pins : List (Addr × Obj)) (s : Shared) (σ : St) (H : Hp) (Q : List (V × V) → Hp → Prop), Inv X pins σ H s → tPairs trs σ H Q →
    wpAny (model X.prog X.w) X.A (evalPairs (pairTrees keys values X.env pos)) (fun vs s' => ∃ ps H', Inv X pins σ H' s' ∧ VV ps vs ∧ Q ps H') X.xe s
theorem pps_nil {X : Cx} {pos : Pos} : PPs X pos [] [] [] := fun pins s σ H Q I h => pairTrees_nil_walk ⟨[], H, I, .nil, h⟩
theorem pps_cons {X : Cx} {pos : Pos} {k v : Expr} {ks : List (Option Expr)} {vs : List Expr} {tk tv : TE} {trs : List (TE × TE)} (hk : PE X k tk) (hv : PE X v tv) (hr : PPs X pos ks vs trs) :
    PPs X pos (some k :: ks) (v :: vs) ((tk, tv) :: trs) := fun pins s σ H Q I h =>
  pairTrees_cons_walk (thn (hk pins s σ H _ I h) fun u s1 ⟨x, H1, I1, rx, q1⟩ => thn (hv pins s1 σ H1 _ I1 q1) fun w2 s2 ⟨y, H2, I2, ry, q2⟩ =>
    thn (hr pins s2 σ H2 _ I2 q2) fun ws s3 ⟨ps, H3, I3, rel, q3⟩ => ⟨(x, y) :: ps, H3, I3, .cons ⟨rx, ry⟩ rel, q3⟩)
def mergeK (kvs more : List (Key × V)) : List (Key × V) := more.foldl (fun acc kv => putK acc kv.1 kv.2) kvs
theorem KV.merge : ∀ {more : List (Key × V)} {rs : List (Key × Value)} {kvs : List (Key × V)} {vs : List (Key × Value)}, KV more rs → KV kvs vs → KV (mergeK kvs more) (merged vs rs) := by
  intro more rs kvs vs r
  unfold KV at r
  induction r generalizing kvs vs with
  | nil => intro q; exact q
  | @cons p q ps qs h t ih =>
    intro r0
    have e : KV (putK kvs p.1 p.2) (stored vs q.1 q.2) := by
      have := r0.put p.1 h.2
      rw [← h.1]; exact this
    exact ih e
theorem length_mergeK : ∀ (more kvs : List (Key × V)), (mergeK kvs more).length ≤ kvs.length + more.length
  | [], kvs => by show kvs.length ≤ kvs.length + 0; omega
  | p :: r, kvs => by
    have h1 := length_mergeK r (putK kvs p.1 p.2)
    have h2 := length_putK kvs p.1 p.2
    show (mergeK (putK kvs p.1 p.2) r).length ≤ _
    rw [List.length_cons]; omega
theorem carries_of {P : Program} {w : World} : ∀ {kvs : List (Key × V)} {ws : List (Value × Value)}, VV (kvs.map fun kv => (kV kv.1, kv.2)) ws → ∃ rs, Carries (mixKind P w) ws rs ∧ KV kvs rs
  | [], _, r => by rw [List.map_nil] at r; cases r; exact ⟨[], True.intro, .nil⟩
  | p :: kvs, _, r => by
    rw [List.map_cons] at r
    cases r with
    | @cons a b as bs h t =>
      obtain ⟨rs, c, q⟩ := carries_of (P := P) (w := w) t
      obtain ⟨b1, b2⟩ := b
      exact ⟨(p.1, b2) :: rs, ⟨kV_is h.1, rfl, c⟩, .cons ⟨rfl, h.2⟩ q⟩
def tDisp (trs : List (TE × TE)) : TE := fun σ H Q => ∀ p, H p = none → tPairs trs σ (upd H p (.dK [])) fun ps H2 => H2 p = some (.dK []) ∧ ∃ kvs : List (Key × V), ps = kvs.map (fun kv => (kV kv.1, kv.2)) ∧ kvs.length ≤ 15 ∧ Q (.ref p) (upd H2 p (.dK (mergeK [] kvs)))
theorem pe_disp {X : Cx} {pos : Pos} {keys : List (Option Expr)} {values : List Expr} {trs : List (TE × TE)} (h : PPs X pos keys values trs) (hall : keys.all (·.isSome) = true) (hl : keys.length = values.length) (h0 : keys ≠ [])
    (h15 : keys.length ≤ 15) : PE X (.Dict keys values pos) (tDisp trs) := by
  intro pins s σ H Q I q
  have hn := I.hok.fresh (Nat.le_refl s.heap.objs.size)
  have I1 := I.laid (a := s.heap.objs.size) (o := .dK []) (h' := s.heap.push { cls := .type "dict", data := .dict #[] }) (t' := s.toks) (fun _ _ q => Heap.get?_push_of_some _ q) (Nat.le_refl _) (dk_empty s.heap I.big)
  refine wpAny_Dict_walk (knd := mixKind X.prog X.w) hall hl h0 h15 (thn (h pins _ σ _ _ I1 (q _ hn)) fun ws s2 ⟨ps, H2, I2, rel, e, kvs, ep, lk, q2⟩ => ?_)
  subst ep
  obtain ⟨rs, c, rk⟩ := carries_of (P := X.prog) (w := X.w) rel
  obtain ⟨z, hd, vs0, r0, dd⟩ := dk_of I2.hok e
  cases r0
  refine ⟨rs, c, dd, fun h' dd' hs => ⟨.ref s.heap.objs.size, _, ?_, rfl, q2⟩⟩
  have hz : (mergeK [] kvs).length ≤ sizeLine := by
    have h1 := length_mergeK kvs []
    rw [List.length_nil] at h1
    rw [sizeLine_eq]; omega
  have he : ∃ q, h'.get? s.heap.objs.size = some q := let ⟨q, _, _, hq, _⟩ := dd'; ⟨q, hq⟩
  exact d_write I2 (by rw [e]; exact True.intro) hs he (dk_new hz hd (rk.merge .nil) dd')
structure M1 (X : Cx) (o : Expr) (m : Str) (apos : Pos) (e : Expr) (cpos : Pos) : Prop where
  base : attributeBase o m X.env (eval o X.env) = eval o X.env
  few : ((backTo cpos (starEach [e] X.env)).all (fun x => !x.1) && (backToKw cpos (keywordEach [] X.env)).all (fun x => x.1.isSome)
    && decide (([e] : List Expr).length + ([] : List Keyword).length + (if ([] : List Keyword).isEmpty then 0 else 1) < 30)) = true
  line : (apos.endLine == cpos.line) = true
  trees : backTo cpos (starEach [e] X.env) = [(false, eval e X.env)]
structure M2 (X : Cx) (o : Expr) (m : Str) (apos : Pos) (e f : Expr) (cpos : Pos) : Prop where
  base : attributeBase o m X.env (eval o X.env) = eval o X.env
  few : ((backTo cpos (starEach [e, f] X.env)).all (fun x => !x.1) && (backToKw cpos (keywordEach [] X.env)).all (fun x => x.1.isSome)
    && decide (([e, f] : List Expr).length + ([] : List Keyword).length + (if ([] : List Keyword).isEmpty then 0 else 1) < 30)) = true
  line : (apos.endLine == cpos.line) = true
  trees : backTo cpos (starEach [e, f] X.env) = [(false, eval e X.env), (false, eval f X.env)]
def IsD (H : Hp) (a : Addr) : Prop := (∃ kvs, Rd H a (.dK kvs)) ∨ ∃ kvs, Rd H a (.dT kvs)
section
variable {X : Cx} {pins : List (Addr × Obj)} {σ : St} {H : Hp} {s : Shared} {a : Addr} {y d : V} {u r : Value} {o : Option V} {A : Around} {E : Value → Shared → Prop}
end
def tDGet1 (td ty : TE) : TE := fun σ H Q => td σ H fun x H1 => ∃ a, x = .ref a ∧ IsD H1 a ∧ ty σ H1 fun y H2 => ∃ o, DGet H2 a y o ∧ Q (o.getD .non) H2
def tDGet2 (td ty tx : TE) : TE := fun σ H Q => td σ H fun x H1 => ∃ a, x = .ref a ∧ IsD H1 a ∧ ty σ H1 fun y H2 => tx σ H2 fun z H3 => ∃ o, DGet H3 a y o ∧ Q (o.getD z) H3
def tDPop1 (td ty : TE) : TE := fun σ H Q => td σ H fun x H1 => ∃ a, x = .ref a ∧ IsD H1 a ∧ ty σ H1 fun y H2 => ∃ kvs k v, H2 a = some (.dK kvs) ∧ y = kV k ∧ valV kvs k = some v ∧ Q v (upd H2 a (.dK (dropK kvs k)))
def tDPop2 (td ty tx : TE) : TE := fun σ H Q => td σ H fun x H1 => ∃ a, x = .ref a ∧ IsD H1 a ∧ ty σ H1 fun y H2 => tx σ H2 fun z H3 => ∃ kvs k, H3 a = some (.dK kvs) ∧ y = kV k ∧
  (∀ v, valV kvs k = some v → Q v (upd H3 a (.dK (dropK kvs k)))) ∧ (valV kvs k = none → Q z H3)
section
variable {X : Cx} {o e f : Expr} {apos cpos : Pos} {td ty tx : TE}
end
section
variable {X : Cx} {pins : List (Addr × Obj)} {σ : St} {H : Hp} {s : Shared} {a : Addr} {kvs : List (Key × V)} {A : Around} {E : Value → Shared → Prop}
end
section
variable {X : Cx} {pins : List (Addr × Obj)} {σ : St} {H : Hp} {s : Shared} {a : Addr} {y : V} {u : Value} {A : Around} {E : Value → Shared → Prop}
end
end L2
namespace L2
open PySem PySem.Spec PyProof.Rows
section
variable {X : Cx}
theorem call_lenD : CallR X (.builtin "len") (fun xs H Q => ∃ a kvs, xs = [V.ref a] ∧ H a = some (.dK kvs) ∧ Q (.int kvs.length) H) := by
  intro pins s σ H xs us Q I r h
  obtain ⟨a, kvs, rfl, ha, q⟩ := h
  obtain ⟨u, rfl, ru⟩ := vals1 r
  cases ru
  exact d_len I (.inl ha) fun t s' I' => ⟨.int kvs.length, H, I', ⟨t, rfl⟩, q⟩
end
section
variable {κ : Type} [DecidableEq κ]
end
end L2
namespace Mine
open L2
def Sg (c : Nat) : Prop := c = 35 ∨ c = 46
structure Cl (cl : List (List Nat)) (m n : Nat) : Prop where
  hn : cl.length = n
  hm : ∀ t ∈ cl, t.length = m
  sg : ∀ t ∈ cl, ∀ c ∈ t, Sg c
  m1 : 1 ≤ m
  m40 : m ≤ 40
  n1 : 1 ≤ n
  n40 : n ≤ 40
def flip (c : Nat) : Nat := if c = 35 then 46 else 35
def back (cl : List (List Nat)) : List (List Nat) := cl.map fun t => t.reverse.map flip
def col (cl : List (List Nat)) (e : Nat) : List Nat := cl.map fun t => t.getD e 0
def quart (cl : List (List Nat)) (m : Nat) : List (List Nat) := (List.range m).map fun e => (col cl e).map flip
def sgn (cl : List (List Nat)) (m n : Nat) (x y : Int) : Nat := (cl.getD (y % (n : Int)).toNat []).getD (x % (m : Int)).toNat 0
end Mine
set_option linter.all false
namespace Mine
open L2
def met (st ln c s : Int) : Int := ln / c + (if (s - st) % c < ln % c then 1 else 0)
def sumN (f : Nat → Int) : Nat → Int
  | 0 => 0
  | k + 1 => sumN f k + f k
def runS (g : Nat → Int) (st : Int) (c : Nat) : Nat → Int
  | 0 => 0
  | n + 1 => runS g st c n + g ((st + (n : Int)) % (c : Int)).toNat
def isH (cl : List (List Nat)) (p e : Nat) : Int := if (cl.getD p []).getD e 0 = 35 then 1 else 0
def inPick (cl : List (List Nat)) (m : Nat) (left wide : Int) (p : Nat) : Int := sumN (fun e => if (cl.getD p []).getD e 0 = 35 then met left wide (m : Int) (e : Int) else 0) m
def overs (cl : List (List Nat)) (m n : Nat) (left first wide high : Int) : Int := sumN (fun p => inPick cl m left wide p * met first high (n : Int) (p : Int)) n
def cnt (cl : List (List Nat)) (m n : Nat) (left first : Int) (wide high : Nat) : Int := runS (fun p => runS (isH cl p) left m wide) first n high
end Mine
set_option linter.all false
namespace Mine
open L2
def scores (cl : List (List Nat)) (m : Nat) : List Int := ((List.range m).map fun e => (((col cl e).count 35 : Nat) : Int)) ++ cl.map fun t => ((t.count 46 : Nat) : Int)
theorem scores_len (cl : List (List Nat)) (m : Nat) : (scores cl m).length = m + cl.length := by
  unfold scores
  rw [List.length_append, List.length_map, List.length_map, List.length_range]
end Mine
set_option linter.all false
namespace Mine
def sm (f : Nat → Nat) : List Nat → Nat
  | [] => 0
  | x :: l => f x + sm f l
theorem sm_app (f : Nat → Nat) : ∀ a b : List Nat, sm f (a ++ b) = sm f a + sm f b
  | [], b => by simp [sm]
  | x :: a, b => by rw [List.cons_append]; show f x + sm f (a ++ b) = f x + sm f a + sm f b; rw [sm_app f a b]; omega
theorem sm_perm (f : Nat → Nat) {a b : List Nat} (h : a.Perm b) : sm f a = sm f b := by
  induction h with
  | nil => rfl
  | cons x _ ih => show f x + _ = f x + _; rw [ih]
  | swap x y l => show f y + (f x + _) = f x + (f y + _); omega
  | trans _ _ h1 h2 => rw [h1, h2]
theorem sm_le (f g : Nat → Nat) (h : ∀ x, f x ≤ g x) : ∀ l, sm f l ≤ sm g l
  | [] => Nat.le_refl _
  | x :: l => Nat.add_le_add (h x) (sm_le f g h l)
theorem sm_add (f g : Nat → Nat) : ∀ l, sm (fun x => f x + g x) l = sm f l + sm g l
  | [] => rfl
  | x :: l => by show f x + g x + sm _ l = f x + sm f l + (g x + sm g l); rw [sm_add f g l]; omega
theorem sm_const (c : Nat) : ∀ l : List Nat, sm (fun _ => c) l = l.length * c
  | [] => by simp [sm]
  | x :: l => by show c + sm _ l = (l.length + 1) * c; rw [sm_const c l, Nat.succ_mul]; omega
theorem sm_one (f : Nat → Nat) (h : ∀ x, f x ≤ 1) (l : List Nat) : sm f l ≤ l.length := by
  have := sm_le f (fun _ => 1) h l
  rw [sm_const] at this
  omega
theorem sm_ext (f g : Nat → Nat) (h : ∀ x, f x = g x) (l : List Nat) : sm f l = sm g l := by rw [funext h]
def b2n (b : Bool) : Nat := if b = true then 1 else 0
theorem b2n_le (b : Bool) : b2n b ≤ 1 := by cases b <;> decide
theorem b2n_not (b : Bool) : b2n b + b2n (!b) = 1 := by cases b <;> decide
def aS (up : Nat → Nat → Bool) (n e : Nat) : Nat := sm (fun p => b2n (up e p)) (List.range n)
def bS (up : Nat → Nat → Bool) (m p : Nat) : Nat := sm (fun e => b2n (!up e p)) (List.range m)
theorem cross (up : Nat → Nat → Bool) (T : List Nat) : ∀ S : List Nat, sm (fun e => sm (fun p => b2n (up e p)) T) S + sm (fun p => sm (fun e => b2n (!up e p)) S) T = S.length * T.length
  | [] => by
    show 0 + sm (fun _ => 0) T = _
    rw [sm_const]
    simp
  | e :: S => by
    have ih := cross up T S
    have h1 : sm (fun p => sm (fun e => b2n (!up e p)) (e :: S)) T = sm (fun p => b2n (!up e p)) T + sm (fun p => sm (fun e => b2n (!up e p)) S) T := sm_add (fun p => b2n (!up e p)) (fun p => sm (fun e => b2n (!up e p)) S) T
    have h2 : sm (fun p => b2n (up e p)) T + sm (fun p => b2n (!up e p)) T = T.length := by
      rw [← sm_add, sm_ext _ (fun _ => 1) (fun p => b2n_not _), sm_const, Nat.mul_one]
    rw [h1]
    show sm (fun p => b2n (up e p)) T + sm (fun e => sm (fun p => b2n (up e p)) T) S + _ = (S.length + 1) * T.length
    rw [Nat.succ_mul]
    omega
theorem low_of (up : Nat → Nat → Bool) {m n : Nat} {S S' T T' : List Nat} (hS : (S ++ S').Perm (List.range m)) (hT : (T ++ T').Perm (List.range n)) :
    sm (aS up n) S + sm (bS up m) T + S.length * T.length ≤ S.length * n + T.length * m := by
  have hm : S.length + S'.length = m := by have := hS.length_eq; rwa [List.length_append, List.length_range] at this
  have hn : T.length + T'.length = n := by have := hT.length_eq; rwa [List.length_append, List.length_range] at this
  have h1 : sm (aS up n) S ≤ sm (fun e => sm (fun p => b2n (up e p)) T) S + S.length * T'.length := by
    rw [← sm_const, ← sm_add]
    refine sm_le _ _ (fun e => ?_) S
    unfold aS
    rw [← sm_perm _ hT, sm_app]
    exact Nat.add_le_add_left (sm_one _ (fun _ => b2n_le _) T') _
  have h2 : sm (bS up m) T ≤ sm (fun p => sm (fun e => b2n (!up e p)) S) T + T.length * S'.length := by
    rw [← sm_const, ← sm_add]
    refine sm_le _ _ (fun p => ?_) T
    unfold bS
    rw [← sm_perm _ hS, sm_app]
    exact Nat.add_le_add_left (sm_one _ (fun _ => b2n_le _) S') _
  have h3 := cross up T S
  have e1 : S.length * n = S.length * T.length + S.length * T'.length := by rw [← hn, Nat.mul_add]
  have e2 : T.length * m = S.length * T.length + T.length * S'.length := by rw [← hm, Nat.mul_add, Nat.mul_comm T.length S.length]
  omega
theorem whole_of (up : Nat → Nat → Bool) (m n : Nat) : sm (aS up n) (List.range m) + sm (bS up m) (List.range n) = m * n := by
  have := cross up (List.range n) (List.range m)
  rw [List.length_range, List.length_range] at this
  exact this
theorem perm_map {α β : Type} {f : α → β} {d e : List β} (h : d.Perm e) : ∀ l, e = l.map f → ∃ l' : List α, l'.Perm l ∧ d = l'.map f := by
  induction h with
  | nil => intro l hl; exact ⟨l, .refl _, hl⟩
  | cons x _ ih =>
    intro l hl
    cases l with
    | nil => cases hl
    | cons y l =>
      rw [List.map_cons] at hl
      injection hl with h1 h2
      obtain ⟨l', p, e⟩ := ih l h2
      exact ⟨y :: l', p.cons _, by rw [List.map_cons, e, h1]⟩
  | swap x y r =>
    intro l hl
    match l, hl with
    | a :: b :: l, hl =>
      rw [List.map_cons, List.map_cons] at hl
      injection hl with h1 h2
      injection h2 with h2 h3
      exact ⟨b :: a :: l, .swap _ _ _, by rw [List.map_cons, List.map_cons, h1, h2, h3]⟩
    | [a], hl => cases hl
    | [], hl => cases hl
  | trans _ _ h1 h2 =>
    intro l hl
    obtain ⟨l1, p1, e1⟩ := h2 l hl
    obtain ⟨l2, p2, e2⟩ := h1 l1 e1
    exact ⟨l2, p2.trans p1, e2⟩
def G (m n : Nat) (dA dB : List Int) (s t : Nat) : Int := (s : Int) * n + (t : Int) * m - (s : Int) * t - (dA.take s).sum - (dB.take t).sum
structure Sc (m n : Nat) (dA dB : List Int) : Prop where
  lA : dA.length = m
  lB : dB.length = n
  decA : dA.Pairwise (· ≥ ·)
  decB : dB.Pairwise (· ≥ ·)
  low : ∀ s t, s ≤ m → t ≤ n → 0 ≤ G m n dA dB s t
  top : G m n dA dB m n = 0
theorem sum_map (f : Nat → Nat) : ∀ l : List Nat, (l.map fun e => ((f e : Nat) : Int)).sum = (sm f l : Int)
  | [] => rfl
  | x :: l => by rw [List.map_cons, List.sum_cons, sum_map f l]; show _ = ((f x + sm f l : Nat) : Int); omega
theorem sum_perm {a b : List Int} (h : a.Perm b) : a.sum = b.sum := by
  induction h with
  | nil => rfl
  | cons x _ ih => rw [List.sum_cons, List.sum_cons, ih]
  | swap x y l => rw [List.sum_cons, List.sum_cons, List.sum_cons, List.sum_cons]; omega
  | trans _ _ h1 h2 => rw [h1, h2]
theorem Sc.of (up : Nat → Nat → Bool) {m n : Nat} {dA dB : List Int} (hA : dA.Perm ((List.range m).map fun e => ((aS up n e : Nat) : Int))) (hB : dB.Perm ((List.range n).map fun p => ((bS up m p : Nat) : Int)))
    (decA : dA.Pairwise (· ≥ ·)) (decB : dB.Pairwise (· ≥ ·)) : Sc m n dA dB := by
  have lA : dA.length = m := by rw [hA.length_eq, List.length_map, List.length_range]
  have lB : dB.length = n := by rw [hB.length_eq, List.length_map, List.length_range]
  obtain ⟨lS, pS, eS⟩ := perm_map hA _ rfl
  obtain ⟨lT, pT, eT⟩ := perm_map hB _ rfl
  refine ⟨lA, lB, decA, decB, fun s t hs ht => ?_, ?_⟩
  · have := low_of up (S := lS.take s) (S' := lS.drop s) (T := lT.take t) (T' := lT.drop t) (by rw [List.take_append_drop]; exact pS) (by rw [List.take_append_drop]; exact pT)
    have l1 : (lS.take s).length = s := by rw [List.length_take]; have := pS.length_eq; rw [List.length_range] at this; omega
    have l2 : (lT.take t).length = t := by rw [List.length_take]; have := pT.length_eq; rw [List.length_range] at this; omega
    rw [l1, l2] at this
    unfold G
    rw [eS, eT, ← List.map_take, ← List.map_take, sum_map, sum_map]
    have c : ((sm (aS up n) (lS.take s) + sm (bS up m) (lT.take t) + s * t : Nat) : Int) ≤ ((s * n + t * m : Nat) : Int) := by exact_mod_cast this
    simp only [Int.natCast_add, Int.natCast_mul] at c
    omega
  · unfold G
    rw [List.take_of_length_le (by omega), List.take_of_length_le (by omega), sum_perm hA, sum_perm hB, sum_map, sum_map]
    have := whole_of up m n
    have c : ((sm (aS up n) (List.range m) + sm (bS up m) (List.range n) : Nat) : Int) = ((m * n : Nat) : Int) := by exact_mod_cast this
    simp only [Int.natCast_add, Int.natCast_mul] at c
    have e : (n : Int) * m = (m : Int) * n := Int.mul_comm _ _
    omega
section
variable {m n : Nat} {dA dB : List Int}
theorem take_sum {d : List Int} {k : Nat} (h : k < d.length) : (d.take (k + 1)).sum = (d.take k).sum + d.getD k 0 := by
  rw [List.take_add_one, List.sum_append, List.getElem?_eq_getElem h]
  have e : d.getD k 0 = d[k] := by simp [List.getD, h]
  rw [e]
  simp
theorem dec_at {d : List Int} (h : d.Pairwise (· ≥ ·)) {i j : Nat} (hij : i ≤ j) (hj : j < d.length) : d.getD j 0 ≤ d.getD i 0 := by
  have hi : i < d.length := by omega
  have e1 : d.getD i 0 = d[i] := by simp [List.getD, hi]
  have e2 : d.getD j 0 = d[j] := by simp [List.getD, hj]
  rw [e1, e2]
  by_cases e : i = j
  · subst e; exact Int.le_refl _
  · exact List.pairwise_iff_getElem.mp h i j hi hj (by omega)
theorem G_s (C : Sc m n dA dB) {s : Nat} (t : Nat) (h : s < m) : G m n dA dB (s + 1) t = G m n dA dB s t + ((n : Int) - t - dA.getD s 0) := by
  unfold G
  rw [take_sum (by rw [C.lA]; exact h), Int.natCast_add, Int.natCast_one, Int.add_mul, Int.add_mul, Int.one_mul, Int.one_mul]
  omega
theorem G_t (C : Sc m n dA dB) (s : Nat) {t : Nat} (h : t < n) : G m n dA dB s (t + 1) = G m n dA dB s t + ((m : Int) - s - dB.getD t 0) := by
  unfold G
  rw [take_sum (by rw [C.lB]; exact h), Int.natCast_add, Int.natCast_one, Int.add_mul, Int.mul_add, Int.one_mul, Int.mul_one]
  omega
theorem G_up (C : Sc m n dA dB) {s : Nat} (t : Nat) (c : Int) (hc : c ≤ (n : Int) - t - dA.getD s 0) : ∀ d : Nat, s + d ≤ m → G m n dA dB s t + c * d ≤ G m n dA dB (s + d) t
  | 0, _ => by simp
  | d + 1, h => by
    have ih := G_up C t c hc d (by omega)
    have e := G_s C t (s := s + d) (by omega)
    have mo := dec_at C.decA (i := s) (j := s + d) (by omega) (by rw [C.lA]; omega)
    have e2 : c * ((d + 1 : Nat) : Int) = c * d + c := by rw [Int.natCast_add, Int.natCast_one, Int.mul_add, Int.mul_one]
    rw [show s + (d + 1) = s + d + 1 from rfl, e, e2]
    omega
theorem G_vp (C : Sc m n dA dB) (s : Nat) {t : Nat} (c : Int) (hc : c ≤ (m : Int) - s - dB.getD t 0) : ∀ d : Nat, t + d ≤ n → G m n dA dB s t + c * d ≤ G m n dA dB s (t + d)
  | 0, _ => by simp
  | d + 1, h => by
    have ih := G_vp C s c hc d (by omega)
    have e := G_t C s (t := t + d) (by omega)
    have mo := dec_at C.decB (i := t) (j := t + d) (by omega) (by rw [C.lB]; omega)
    have e2 : c * ((d + 1 : Nat) : Int) = c * d + c := by rw [Int.natCast_add, Int.natCast_one, Int.mul_add, Int.mul_one]
    rw [show t + (d + 1) = t + d + 1 from rfl, e, e2]
    omega
theorem G_sq (s s' t t' : Nat) : G m n dA dB s t + G m n dA dB s' t' = G m n dA dB s' t + G m n dA dB s t' - ((s' : Int) - s) * ((t' : Int) - t) := by
  unfold G
  rw [Int.sub_mul, Int.mul_sub, Int.mul_sub]
  omega
def lexLt (a b : Nat × Nat) : Prop := a.1 < b.1 ∨ (a.1 = b.1 ∧ a.2 < b.2)
theorem top_step (C : Sc m n dA dB) {s t s' t' : Nat} (hs : s ≤ m) (ht : t ≤ n) (hs' : s' ≤ m) (ht' : t' ≤ n) (z : G m n dA dB s t = 0) (z' : G m n dA dB s' t' = 0) (lt : lexLt (s, t) (s', t'))
    (none : ∀ x y, x ≤ m → y ≤ n → G m n dA dB x y = 0 → lexLt (s, t) (x, y) → lexLt (x, y) (s', t') → False) :
    s ≤ s' ∧ t ≤ t' ∧ 0 < (s' - s) + (t' - t) ∧ (1 < (s' - s) + (t' - t) → 2 ≤ s' - s ∧ 2 ≤ t' - t) := by
  have lt' : s < s' ∨ (s = s' ∧ t < t') := lt
  have hle : s ≤ s' := by omega
  have tle : t ≤ t' := by
    by_cases h : t ≤ t'
    · exact h
    · exfalso
      have h1 : s < s' := by omega
      have q := G_sq (m := m) (n := n) (dA := dA) (dB := dB) s s' t t'
      have l1 := C.low s' t hs' ht
      have l2 := C.low s t' hs ht'
      have p : 0 < ((s' : Int) - s) * ((t : Int) - t') := Int.mul_pos (by omega) (by omega)
      have e : ((s' : Int) - s) * ((t' : Int) - t) = - (((s' : Int) - s) * ((t : Int) - t')) := by rw [← Int.mul_neg]; congr 1; omega
      omega
  refine ⟨hle, tle, by omega, fun big => ?_⟩
  have q := G_sq (m := m) (n := n) (dA := dA) (dB := dB) s s' t t'
  have l1 := C.low s' t hs' ht
  have l2 := C.low s t' hs ht'
  by_cases hs1 : s' = s
  ·
    exfalso
    subst hs1
    have t2 : t + 2 ≤ t' := by omega
    have g1 := G_t C s' (t := t) (by omega)
    have lo := C.low s' (t + 1) hs' (by omega)
    have nz : G m n dA dB s' (t + 1) ≠ 0 := fun e => none s' (t + 1) hs' (by omega) e (.inr ⟨rfl, by show t < t + 1; omega⟩) (.inr ⟨rfl, by show t + 1 < t'; omega⟩)
    have := G_vp C s' (t := t) 1 (by omega) (t' - t) (by omega)
    rw [show t + (t' - t) = t' by omega] at this
    omega
  by_cases ht1 : t' = t
  · exfalso
    subst ht1
    have t2 : s + 2 ≤ s' := by omega
    have g1 := G_s C t' (s := s) (by omega)
    have lo := C.low (s + 1) t' (by omega) ht'
    have nz : G m n dA dB (s + 1) t' ≠ 0 := fun e => none (s + 1) t' (by omega) ht' e (.inl (by show s < s + 1; omega)) (.inl (by show s + 1 < s'; omega))
    have := G_up C (s := s) t' 1 (by omega) (s' - s) (by omega)
    rw [show s + (s' - s) = s' by omega] at this
    omega
  have gt1 := G_t C s (t := t) (by omega)
  have gs1 := G_s C t (s := s) (by omega)
  have lot := C.low s (t + 1) hs (by omega)
  have los := C.low (s + 1) t (by omega) ht
  have nzt : G m n dA dB s (t + 1) ≠ 0 := fun e => none s (t + 1) hs (by omega) e (.inr ⟨rfl, by show t < t + 1; omega⟩) (.inl (by show s < s'; omega))
  have bt := G_vp C s (t := t) 1 (by omega) (t' - t) (by omega)
  rw [show t + (t' - t) = t' by omega] at bt
  have nzs : G m n dA dB (s + 1) t ≠ 0 := fun e => none (s + 1) t (by omega) ht e (.inl (by show s < s + 1; omega)) (by
    by_cases h : s + 1 = s'
    · exact .inr ⟨h, by show t < t'; omega⟩
    · exact .inl (by show s + 1 < s'; omega))
  have bs := G_up C (s := s) t 1 (by omega) (s' - s) (by omega)
  rw [show s + (s' - s) = s' by omega] at bs
  refine ⟨?_, ?_⟩
  · by_cases h : s' = s + 1
    · exfalso
      subst h
      have e : (((s + 1 : Nat) : Int) - s) * ((t' : Int) - t) = (t' : Int) - t := by rw [show ((s + 1 : Nat) : Int) - s = 1 by omega, Int.one_mul]
      rw [e] at q
      omega
    · omega
  · by_cases h : t' = t + 1
    · exfalso
      subst h
      have e : ((s' : Int) - s) * (((t + 1 : Nat) : Int) - t) = (s' : Int) - s := by rw [show ((t + 1 : Nat) : Int) - t = 1 by omega, Int.mul_one]
      rw [e] at q
      omega
    · omega
end
end Mine
set_option linter.all false
namespace Mine
def rowT (P : Nat → Nat → Bool) (s j : Nat) : List (Nat × Nat) := ((List.range j).map fun t => (s, t)).filter fun p => P p.1 p.2
def allT (P : Nat → Nat → Bool) (n i : Nat) : List (Nat × Nat) := (List.range i).flatMap fun s => rowT P s (n + 1)
theorem rowT_succ (P : Nat → Nat → Bool) (s j : Nat) : rowT P s (j + 1) = rowT P s j ++ (if P s j = true then [(s, j)] else []) := by
  unfold rowT
  rw [List.range_succ, List.map_append, List.filter_append]
  congr 1
  show (List.filter _ [(s, j)]) = _
  by_cases h : P s j = true
  · rw [if_pos h]; simp [h]
  · rw [if_neg h]; simp [h]
theorem allT_succ (P : Nat → Nat → Bool) (n i : Nat) : allT P n (i + 1) = allT P n i ++ rowT P i (n + 1) := by
  unfold allT
  rw [List.range_succ, List.flatMap_append]
  simp
theorem mem_rowT {P : Nat → Nat → Bool} {s j : Nat} {p : Nat × Nat} : p ∈ rowT P s j ↔ p.1 = s ∧ p.2 < j ∧ P p.1 p.2 = true := by
  unfold rowT
  rw [List.mem_filter, List.mem_map]
  constructor
  · rintro ⟨⟨t, ht, rfl⟩, h⟩
    exact ⟨rfl, List.mem_range.mp ht, h⟩
  · rintro ⟨h1, h2, h3⟩
    exact ⟨⟨p.2, List.mem_range.mpr h2, by rw [← h1]⟩, h3⟩
theorem mem_allT {P : Nat → Nat → Bool} {n i : Nat} {p : Nat × Nat} : p ∈ allT P n i ↔ p.1 < i ∧ p.2 ≤ n ∧ P p.1 p.2 = true := by
  unfold allT
  rw [List.mem_flatMap]
  constructor
  · rintro ⟨s, hs, h⟩
    obtain ⟨h1, h2, h3⟩ := mem_rowT.mp h
    have := List.mem_range.mp hs
    exact ⟨by omega, by omega, h3⟩
  · rintro ⟨h1, h2, h3⟩
    exact ⟨p.1, List.mem_range.mpr h1, mem_rowT.mpr ⟨rfl, by omega, h3⟩⟩
theorem rowT_pw (P : Nat → Nat → Bool) (s : Nat) : ∀ j, (rowT P s j).Pairwise lexLt
  | 0 => List.Pairwise.nil
  | j + 1 => by
    rw [rowT_succ]
    refine List.pairwise_append.mpr ⟨rowT_pw P s j, ?_, fun a ha b hb => ?_⟩
    · by_cases h : P s j = true
      · rw [if_pos h]; exact List.pairwise_singleton _ _
      · rw [if_neg h]; exact List.Pairwise.nil
    · by_cases h : P s j = true
      · rw [if_pos h] at hb
        rw [List.mem_singleton.mp hb]
        obtain ⟨h1, h2, _⟩ := mem_rowT.mp ha
        exact .inr ⟨h1, h2⟩
      · rw [if_neg h] at hb; exact absurd hb (by simp)
theorem allT_pw (P : Nat → Nat → Bool) (n : Nat) : ∀ i, (allT P n i).Pairwise lexLt
  | 0 => List.Pairwise.nil
  | i + 1 => by
    rw [allT_succ]
    refine List.pairwise_append.mpr ⟨allT_pw P n i, rowT_pw P i _, fun a ha b hb => ?_⟩
    obtain ⟨h1, _⟩ := mem_allT.mp ha
    obtain ⟨h2, _⟩ := mem_rowT.mp hb
    exact .inl (by omega)
theorem rowT_len (P : Nat → Nat → Bool) (s j : Nat) : (rowT P s j).length ≤ j := by
  unfold rowT
  refine Nat.le_trans (List.length_filter_le _ _) ?_
  rw [List.length_map, List.length_range]
  exact Nat.le_refl _
theorem allT_len (P : Nat → Nat → Bool) (n : Nat) : ∀ i, (allT P n i).length ≤ i * (n + 1)
  | 0 => Nat.zero_le _
  | i + 1 => by
    rw [allT_succ, List.length_append, Nat.succ_mul]
    exact Nat.add_le_add (allT_len P n i) (rowT_len P i _)
theorem lex_irr {a : Nat × Nat} (h : lexLt a a) : False := by unfold lexLt at h; omega
theorem lex_asym {a b : Nat × Nat} (h : lexLt a b) (h2 : lexLt b a) : False := by unfold lexLt at h h2; omega
theorem lex_at {l : List (Nat × Nat)} (h : l.Pairwise lexLt) {i j : Nat} {a b : Nat × Nat} (ha : l[i]? = some a) (hb : l[j]? = some b) (lt : lexLt a b) : i < j := by
  obtain ⟨hi, e1⟩ := List.getElem?_eq_some_iff.mp ha
  obtain ⟨hj, e2⟩ := List.getElem?_eq_some_iff.mp hb
  rcases Nat.lt_trichotomy i j with h1 | h1 | h1
  · exact h1
  · subst h1
    have : a = b := by rw [← e1, ← e2]
    rw [this] at lt
    exact (lex_irr lt).elim
  · have := List.pairwise_iff_getElem.mp h j i hj hi h1
    rw [e1, e2] at this
    exact (lex_asym lt this).elim
structure Tps (m n : Nat) (P : Nat → Nat → Bool) (zs : List (Nat × Nat)) : Prop where
  two : 2 ≤ zs.length
  fst : zs[0]? = some (0, 0)
  lst : zs[zs.length - 1]? = some (m, n)
  in_ : ∀ (i : Nat) (a : Nat × Nat), zs[i]? = some a → a.1 ≤ m ∧ a.2 ≤ n
  stp : ∀ (i : Nat) (a b : Nat × Nat), zs[i]? = some a → zs[i + 1]? = some b → a.1 ≤ b.1 ∧ a.2 ≤ b.2 ∧ 0 < (b.1 - a.1) + (b.2 - a.2) ∧ (1 < (b.1 - a.1) + (b.2 - a.2) → 2 ≤ b.1 - a.1 ∧ 2 ≤ b.2 - a.2)
def Pz (m n : Nat) (dA dB : List Int) (s t : Nat) : Bool := decide ((dA.take s).sum + (dB.take t).sum = (s : Int) * n + (t : Int) * m - (s : Int) * t)
theorem Pz_iff {m n : Nat} {dA dB : List Int} {s t : Nat} : Pz m n dA dB s t = true ↔ G m n dA dB s t = 0 := by
  unfold Pz G
  rw [decide_eq_true_iff]
  omega
theorem Tps.of {m n : Nat} {dA dB : List Int} (C : Sc m n dA dB) (h1 : 1 ≤ m) : Tps m n (Pz m n dA dB) (allT (Pz m n dA dB) n (m + 1)) := by
  have pw := allT_pw (Pz m n dA dB) n (m + 1)
  have m0 : ((0 : Nat), (0 : Nat)) ∈ allT (Pz m n dA dB) n (m + 1) := mem_allT.mpr ⟨by show 0 < m + 1; omega, Nat.zero_le _, Pz_iff.mpr (by unfold G; simp)⟩
  have m1 : (m, n) ∈ allT (Pz m n dA dB) n (m + 1) := mem_allT.mpr ⟨by show m < m + 1; omega, Nat.le_refl _, Pz_iff.mpr C.top⟩
  generalize hz : allT (Pz m n dA dB) n (m + 1) = zs at *
  have inn : ∀ (i : Nat) (a : Nat × Nat), zs[i]? = some a → a.1 ≤ m ∧ a.2 ≤ n ∧ G m n dA dB a.1 a.2 = 0 := fun i a e => by
    have := List.mem_of_getElem? e
    rw [← hz] at this
    obtain ⟨q1, q2, q3⟩ := mem_allT.mp this
    exact ⟨by omega, q2, Pz_iff.mp q3⟩
  obtain ⟨i0, e0⟩ := List.getElem?_of_mem m0
  obtain ⟨i1, e1⟩ := List.getElem?_of_mem m1
  have l01 : i0 < i1 := lex_at pw e0 e1 (.inl (by show 0 < m; omega))
  have i1l := (List.getElem?_eq_some_iff.mp e1).1
  have f0 : i0 = 0 := by
    by_cases h : i0 = 0
    · exact h
    · exfalso
      have hl : 0 < zs.length := by omega
      have lt := List.pairwise_iff_getElem.mp pw 0 i0 hl (by omega) (by omega)
      have := (List.getElem?_eq_some_iff.mp e0).2
      rw [this] at lt
      unfold lexLt at lt
      simp at lt
  have fl : i1 = zs.length - 1 := by
    by_cases h : i1 = zs.length - 1
    · exact h
    · exfalso
      have hl : zs.length - 1 < zs.length := by omega
      have lt := List.pairwise_iff_getElem.mp pw i1 (zs.length - 1) i1l hl (by omega)
      have e := (List.getElem?_eq_some_iff.mp e1).2
      rw [e] at lt
      have q := inn (zs.length - 1) _ (List.getElem?_eq_getElem hl)
      unfold lexLt at lt
      simp only at lt
      omega
  refine ⟨by omega, f0 ▸ e0, fl ▸ e1, fun i a e => ⟨(inn i a e).1, (inn i a e).2.1⟩, fun i a b ea eb => ?_⟩
  obtain ⟨a1, a2, a3⟩ := inn i a ea
  obtain ⟨b1, b2, b3⟩ := inn (i + 1) b eb
  have hi := (List.getElem?_eq_some_iff.mp ea)
  have hj := (List.getElem?_eq_some_iff.mp eb)
  have lt : lexLt a b := by
    have := List.pairwise_iff_getElem.mp pw i (i + 1) hi.1 hj.1 (by omega)
    rw [hi.2, hj.2] at this
    exact this
  refine top_step C a1 a2 b1 b2 a3 b3 lt fun x y hx hy z l1 l2 => ?_
  have mm : (x, y) ∈ zs := by rw [← hz]; exact mem_allT.mpr ⟨by show x < m + 1; omega, hy, Pz_iff.mpr z⟩
  obtain ⟨k, ek⟩ := List.getElem?_of_mem mm
  have k1 := lex_at pw ea ek l1
  have k2 := lex_at pw ek eb l2
  omega
theorem dec_uniq : ∀ {a b : List Int}, a.Perm b → a.Pairwise (· ≥ ·) → b.Pairwise (· ≥ ·) → a = b
  | [], b, p, _, _ => (List.Perm.nil_eq p)
  | x :: a, [], p, _, _ => absurd p.length_eq (by simp)
  | x :: a, y :: b, p, ha, hb => by
    obtain ⟨a1, a2⟩ := List.pairwise_cons.mp ha
    obtain ⟨b1, b2⟩ := List.pairwise_cons.mp hb
    have e : x = y := by
      have hx : x ∈ y :: b := p.mem_iff.mp List.mem_cons_self
      have hy : y ∈ x :: a := p.mem_iff.mpr List.mem_cons_self
      rcases List.mem_cons.mp hx with h | h
      · exact h
      · rcases List.mem_cons.mp hy with h' | h'
        · exact h'.symm
        · have := b1 x h
          have := a1 y h'
          omega
    subst e
    rw [dec_uniq p.cons_inv a2 b2]
def pre (d : List Int) : List Int := (List.range (d.length + 1)).map fun s => (d.take s).sum
structure Grt (cs done left : List Int) : Prop where
  perm : (done ++ left).Perm cs
  dec : done.Pairwise (· ≥ ·)
  ge : ∀ a ∈ done, ∀ b ∈ left, b ≤ a
theorem cnt_sm (l : List Nat) (c : Nat) : ∀ k, k ≤ l.length → (l.take k).count c = sm (fun i => b2n (l.getD i 0 == c)) (List.range k)
  | 0, _ => by simp [sm]
  | k + 1, h => by
    rw [List.range_succ, sm_app, ← cnt_sm l c k (by omega), List.take_add_one, List.getElem?_eq_getElem (by omega), List.count_append]
    have e : l.getD k 0 = l[k] := by simp [List.getD, show k < l.length by omega]
    show _ + List.count c [l[k]] = _ + (b2n (l.getD k 0 == c) + 0)
    rw [e, List.count_singleton]
    rfl
end Mine
set_option linter.all false
namespace Mine
open L2
def upC (cl : List (List Nat)) (e p : Nat) : Bool := (cl.getD p []).getD e 0 == 35
def eS (cl : List (List Nat)) (m : Nat) : List Int := (List.range m).map fun e => (((col cl e).count 35 : Nat) : Int)
def pS (cl : List (List Nat)) : List Int := cl.map fun t => ((t.count 46 : Nat) : Int)
theorem eS_len (cl : List (List Nat)) (m : Nat) : (eS cl m).length = m := by unfold eS; rw [List.length_map, List.length_range]
theorem pS_len (cl : List (List Nat)) : (pS cl).length = cl.length := by unfold pS; rw [List.length_map]
theorem sm_congr {f g : Nat → Nat} : ∀ {l : List Nat}, (∀ x ∈ l, f x = g x) → sm f l = sm g l
  | [], _ => rfl
  | x :: l, h => by show f x + sm f l = g x + sm g l; rw [h x List.mem_cons_self, sm_congr fun y hy => h y (List.mem_cons_of_mem _ hy)]
theorem col_getD (cl : List (List Nat)) (e p : Nat) : (col cl e).getD p 0 = (cl.getD p []).getD e 0 := by
  unfold col
  by_cases h : p < cl.length
  · simp [List.getD, h]
  · simp [List.getD, List.getElem?_eq_none (Nat.le_of_not_lt h)]
theorem aS_eq {cl : List (List Nat)} {m n : Nat} (C : Cl cl m n) (e : Nat) : aS (upC cl) n e = (col cl e).count 35 := by
  have hl : (col cl e).length = n := by unfold col; rw [List.length_map, C.hn]
  have := cnt_sm (col cl e) 35 n (by omega)
  rw [List.take_of_length_le (by omega)] at this
  rw [this]
  unfold aS upC
  refine sm_ext _ _ (fun p => ?_) _
  rw [col_getD]
theorem bS_eq {cl : List (List Nat)} {m n : Nat} (C : Cl cl m n) {p : Nat} (hp : p < cl.length) : bS (upC cl) m p = cl[p].count 46 := by
  have hl := C.hm _ (List.getElem_mem hp)
  have sg := C.sg _ (List.getElem_mem hp)
  have := cnt_sm cl[p] 46 m (by omega)
  rw [List.take_of_length_le (by omega)] at this
  rw [this]
  unfold bS
  refine sm_congr fun e he => ?_
  have hem := List.mem_range.mp he
  have e1 : cl.getD p [] = cl[p] := by simp [List.getD, hp]
  have e2 : cl[p].getD e 0 = cl[p][e] := by simp [List.getD, show e < cl[p].length by omega]
  unfold upC
  rw [e1, e2]
  rcases sg _ (List.getElem_mem (show e < cl[p].length by omega)) with z | z <;> rw [z] <;> rfl
theorem eS_up {cl : List (List Nat)} {m n : Nat} (C : Cl cl m n) : eS cl m = (List.range m).map fun e => ((aS (upC cl) n e : Nat) : Int) := by
  unfold eS
  refine List.map_congr_left fun e _ => ?_
  rw [aS_eq C]
theorem pS_up {cl : List (List Nat)} {m n : Nat} (C : Cl cl m n) : pS cl = (List.range n).map fun p => ((bS (upC cl) m p : Nat) : Int) := by
  refine List.ext_getElem (by rw [pS_len, List.length_map, List.length_range, C.hn]) fun i h1 h2 => ?_
  have h1' : i < cl.length := by rw [pS_len] at h1; exact h1
  rw [List.getElem_map, List.getElem_range, bS_eq C h1']
  exact List.getElem_map ..
theorem sc_of {cl : List (List Nat)} {m n : Nat} (C : Cl cl m n) {dA dB : List Int} (hA : dA.Perm (eS cl m)) (hB : dB.Perm (pS cl)) (decA : dA.Pairwise (· ≥ ·)) (decB : dB.Pairwise (· ≥ ·)) : Sc m n dA dB :=
  Sc.of (upC cl) (by rw [← eS_up C]; exact hA) (by rw [← pS_up C]; exact hB) decA decB
theorem scores_take (cl : List (List Nat)) (m : Nat) : (scores cl m).take m = eS cl m := by
  show (eS cl m ++ pS cl).take m = _
  rw [List.take_append_of_le_length (by rw [eS_len]; exact Nat.le_refl _), List.take_of_length_le (by rw [eS_len]; exact Nat.le_refl _)]
theorem scores_drop (cl : List (List Nat)) (m : Nat) : (scores cl m).drop m = pS cl := by
  show (eS cl m ++ pS cl).drop m = _
  have := List.drop_left (l₁ := eS cl m) (l₂ := pS cl)
  rwa [eS_len] at this
end Mine
set_option linter.all false
namespace Mine
open L2
structure Ord (key : Nat → Nat) (N : Nat) (l : List Nat) : Prop where
  perm : l.Perm (List.range N)
  ord : l.Pairwise (fun x y => key y < key x ∨ (key x = key y ∧ x < y))
theorem Ord.len {key : Nat → Nat} {N : Nat} {l : List Nat} (a : Ord key N l) : l.length = N := by rw [a.perm.length_eq, List.length_range]
theorem Ord.lt {key : Nat → Nat} {N : Nat} {l : List Nat} (a : Ord key N l) {x : Nat} (h : x ∈ l) : x < N := List.mem_range.mp (a.perm.mem_iff.mp h)
def cQ (m k : Nat) : Int := ((m + k : Nat) : Int)
structure Lay (up : Nat → Nat → Bool) (m n : Nat) (tss : List (List Int)) (zs : List (Nat × Nat)) (eo po : List Nat) : Prop where
  oE : Ord (aS up n) m eo
  oP : Ord (bS up m) n po
  fst : zs[0]? = some (0, 0)
  lst : zs[zs.length - 1]? = some (m, n)
  in_ : ∀ (i : Nat) (a : Nat × Nat), zs[i]? = some a → a.1 ≤ m ∧ a.2 ≤ n
  stp : ∀ (i : Nat) (a b : Nat × Nat), zs[i]? = some a → zs[i + 1]? = some b → a.1 ≤ b.1 ∧ a.2 ≤ b.2 ∧ 0 < (b.1 - a.1) + (b.2 - a.2)
  z : ∀ (i : Nat) (a : Nat × Nat), zs[i]? = some a → sm (aS up n) (eo.take a.1) + sm (bS up m) (po.take a.2) + a.1 * a.2 = a.1 * n + a.2 * m
  len : tss.length + 1 = zs.length
  lay : ∀ (i : Nat) (a b : Nat × Nat) (t : List Int), zs[i]? = some a → zs[i + 1]? = some b → tss[i]? = some t →
    t.Perm (((eo.drop a.1).take (b.1 - a.1)).map (cQ 0) ++ ((po.drop a.2).take (b.2 - a.2)).map (cQ m)) ∧ t.Pairwise (· ≤ ·)
section
variable {up : Nat → Nat → Bool} {m n : Nat} {tss : List (List Int)} {zs : List (Nat × Nat)} {eo po : List Nat}
theorem Lay.at (L : Lay up m n tss zs eo po) {i : Nat} (hi : i < tss.length) : ∃ a b, zs[i]? = some a ∧ zs[i + 1]? = some b ∧ a.1 ≤ b.1 ∧ a.2 ≤ b.2 ∧ b.1 ≤ m ∧ b.2 ≤ n ∧ 0 < (b.1 - a.1) + (b.2 - a.2) ∧
    tss[i].Perm (((eo.drop a.1).take (b.1 - a.1)).map (cQ 0) ++ ((po.drop a.2).take (b.2 - a.2)).map (cQ m)) ∧ tss[i].Pairwise (· ≤ ·) := by
  have h1 : i < zs.length := by have := L.len; omega
  have h2 : i + 1 < zs.length := by have := L.len; omega
  have e1 := List.getElem?_eq_getElem h1
  have e2 := List.getElem?_eq_getElem h2
  obtain ⟨s1, s2, s3⟩ := L.stp i _ _ e1 e2
  obtain ⟨i1, i2⟩ := L.in_ _ _ e2
  obtain ⟨l1, l2⟩ := L.lay i _ _ _ e1 e2 (List.getElem?_eq_getElem hi)
  exact ⟨_, _, e1, e2, s1, s2, i1, i2, s3, l1, l2⟩
theorem Lay.seg_len (L : Lay up m n tss zs eo po) {a b : Nat × Nat} (h1 : a.1 ≤ b.1) (h2 : a.2 ≤ b.2) (h3 : b.1 ≤ m) (h4 : b.2 ≤ n) :
    ((eo.drop a.1).take (b.1 - a.1)).length = b.1 - a.1 ∧ ((po.drop a.2).take (b.2 - a.2)).length = b.2 - a.2 := by
  have l1 := L.oE.len
  have l2 := L.oP.len
  rw [List.length_take, List.length_drop, List.length_take, List.length_drop]
  omega
theorem Lay.count (L : Lay up m n tss zs eo po) {i : Nat} (hi : i < tss.length) {a b : Nat × Nat} (ea : zs[i]? = some a) (eb : zs[i + 1]? = some b) : tss[i].length = (b.1 - a.1) + (b.2 - a.2) ∧ (tss[i].filter fun z => decide (z < (m : Int))).length = b.1 - a.1 := by
  obtain ⟨a', b', ea', eb', h1, h2, h3, h4, h5, p, _⟩ := L.at hi
  rw [ea] at ea'
  cases ea'
  rw [eb] at eb'
  cases eb'
  obtain ⟨s1, s2⟩ := L.seg_len h1 h2 h3 h4
  refine ⟨by rw [p.length_eq, List.length_append, List.length_map, List.length_map, s1, s2], ?_⟩
  rw [(p.filter _).length_eq, List.filter_append, List.filter_eq_self.mpr, List.filter_eq_nil_iff.mpr, List.append_nil, List.length_map, s1]
  · intro z hz
    obtain ⟨k, _, rfl⟩ := List.mem_map.mp hz
    unfold cQ
    simp only [decide_eq_true_eq]
    omega
  · intro z hz
    obtain ⟨k, hk, rfl⟩ := List.mem_map.mp hz
    have := L.oE.lt (List.mem_of_mem_drop (List.mem_of_mem_take hk))
    unfold cQ
    simp only [decide_eq_true_eq]
    omega
theorem Lay.ne (L : Lay up m n tss zs eo po) {i : Nat} (hi : i < tss.length) : 0 < tss[i].length := by
  obtain ⟨a, b, ea, eb, _, _, _, _, h, _⟩ := L.at hi
  rw [(L.count hi ea eb).1]
  exact h
theorem Lay.part (L : Lay up m n tss zs eo po) : ∀ i (a : Nat × Nat), zs[i]? = some a → i ≤ tss.length → (tss.take i).flatten.Perm ((eo.take a.1).map (cQ 0) ++ (po.take a.2).map (cQ m))
  | 0, a, e, _ => by
    rw [L.fst] at e
    cases e
    rw [List.take_zero, List.take_zero, List.take_zero]
    exact List.Perm.refl _
  | i + 1, b, e, hi => by
    obtain ⟨a, b', ea, eb, h1, h2, h3, h4, h5, p, _⟩ := L.at (i := i) (by omega)
    rw [e] at eb
    cases eb
    have ih := L.part i a ea (by omega)
    rw [List.take_succ_eq_append_getElem (by omega), List.flatten_append, List.flatten_cons, List.flatten_nil, List.append_nil]
    have sp : ∀ (l : List Nat) (s s' : Nat), s ≤ s' → l.take s' = l.take s ++ (l.drop s).take (s' - s) := fun l s s' h => by
      conv => lhs; rw [show s' = s + (s' - s) by omega]
      rw [List.take_add]
    rw [sp eo a.1 b.1 h1, sp po a.2 b.2 h2, List.map_append, List.map_append]
    refine (ih.append p).trans ?_
    rw [List.append_assoc, List.append_assoc]
    refine List.Perm.append_left _ ?_
    rw [← List.append_assoc, ← List.append_assoc]
    exact List.Perm.append_right _ List.perm_append_comm
theorem map_range (m n : Nat) : (List.range m).map (cQ 0) ++ (List.range n).map (cQ m) = (List.range (m + n)).map fun k => ((k : Nat) : Int) := by
  apply List.ext_getElem
  · simp
  · intro i h1 h2
    rw [List.getElem_append]
    split
    · simp [cQ]
    · rename_i h
      simp [cQ] at h ⊢
      omega
theorem Lay.all (L : Lay up m n tss zs eo po) : tss.flatten.Perm ((List.range (m + n)).map fun k => ((k : Nat) : Int)) := by
  have hl := L.len
  have e : zs[tss.length]? = some (m, n) := by rw [show tss.length = zs.length - 1 by omega]; exact L.lst
  have p := L.part tss.length (m, n) e (Nat.le_refl _)
  rw [List.take_of_length_le (Nat.le_refl _), List.take_of_length_le (by rw [L.oE.len]; exact Nat.le_refl _), List.take_of_length_le (by rw [L.oP.len]; exact Nat.le_refl _)] at p
  rw [← map_range]
  exact p.trans ((L.oE.perm.map _).append (L.oP.perm.map _))
theorem Lay.nd (L : Lay up m n tss zs eo po) : tss.flatten.Nodup := by
  rw [L.all.nodup_iff]
  show List.Pairwise _ _
  rw [List.pairwise_map]
  exact List.nodup_range.imp fun {a b} h e => h (by omega)
theorem Lay.mem (L : Lay up m n tss zs eo po) {i : Nat} (hi : i < tss.length) {z : Int} (hz : z ∈ tss[i]) : 0 ≤ z ∧ z < ((m + n : Nat) : Int) := by
  have : z ∈ tss.flatten := List.mem_flatten.mpr ⟨_, List.getElem_mem hi, hz⟩
  obtain ⟨k, hk, rfl⟩ := List.mem_map.mp (L.all.mem_iff.mp this)
  have := List.mem_range.mp hk
  omega
theorem one_of_nd : ∀ {tss : List (List Int)}, tss.flatten.Nodup → ∀ {i j : Nat} (hi : i < tss.length) (hj : j < tss.length) {z : Int}, z ∈ tss[i] → z ∈ tss[j] → i = j
  | t :: tss, h, 0, 0, _, _, _, _, _ => rfl
  | t :: tss, h, 0, j + 1, _, hj, z, h1, h2 => by
    rw [List.flatten_cons] at h
    have := (List.nodup_append.mp h).2.2 z h1 z (List.mem_flatten.mpr ⟨_, List.getElem_mem (by simpa using hj), h2⟩)
    exact absurd rfl this
  | t :: tss, h, i + 1, 0, hi, _, z, h1, h2 => by
    rw [List.flatten_cons] at h
    have := (List.nodup_append.mp h).2.2 z h2 z (List.mem_flatten.mpr ⟨_, List.getElem_mem (by simpa using hi), h1⟩)
    exact absurd rfl this
  | t :: tss, h, i + 1, j + 1, hi, hj, z, h1, h2 => by
    rw [List.flatten_cons] at h
    rw [one_of_nd (List.nodup_append.mp h).2.1 (i := i) (j := j) (by simpa using hi) (by simpa using hj) h1 h2]
end
end Mine
set_option linter.all false
namespace Mine
open L2
def wid (cl : List (List Nat)) (ac : Nat) : List (List Nat) := cl.map fun t => (List.replicate ac t).flatten
def til (cl : List (List Nat)) (ac al : Nat) : List (List Nat) := (List.replicate al (wid cl ac)).flatten
end Mine
set_option linter.all false
namespace Mine
open L2
def Sq3 (c : Nat) : Prop := c = 35 ∨ c = 46 ∨ c = 63
structure Hc (cl : List (List Nat)) (m n : Nat) : Prop where
  hn : cl.length = n
  hm : ∀ t ∈ cl, t.length = m
  sg : ∀ t ∈ cl, ∀ c ∈ t, Sq3 c
  m2 : 2 ≤ m
  m40 : m ≤ 40
  n2 : 2 ≤ n
  n40 : n ≤ 40
def sg2 (cl : List (List Nat)) (p e : Nat) : Nat := (cl.getD p []).getD e 0
def Up (N : Int) (ks : List Int) : Prop := (∀ (i : Nat) (a b : Int), ks[i]? = some a → ks[i + 1]? = some b → a < b) ∧ ∀ k ∈ ks, 0 ≤ k ∧ k < N
def GoodSet (N : Int) (ks : List Int) : Prop := ks ≠ [] ∧ Up N ks
theorem up_nil (N : Int) : Up N [] := ⟨fun i a b h => by simp at h, fun k h => by cases h⟩
theorem up_add {N : Int} {ks : List Int} {z : Int} (h : Up N ks) (hz : ∀ k ∈ ks, k < z) (h0 : 0 ≤ z) (h1 : z < N) : Up N (ks ++ [z]) := by
  refine ⟨fun i a b ha hb => ?_, fun k hk => ?_⟩
  · by_cases hi : i + 1 < ks.length
    · rw [List.getElem?_append_left (by omega)] at ha
      rw [List.getElem?_append_left hi] at hb
      exact h.1 i a b ha hb
    · by_cases hi2 : i < ks.length
      · rw [List.getElem?_append_left hi2] at ha
        rw [List.getElem?_append_right (by omega)] at hb
        have e : i + 1 - ks.length = 0 := by omega
        rw [e] at hb
        have : b = z := by simpa using hb.symm
        rw [this]
        exact hz a (List.mem_of_getElem? ha)
      · rw [List.getElem?_append_right (by omega)] at hb
        have : ([z] : List Int)[i + 1 - ks.length]? = none := by
          apply List.getElem?_eq_none
          simp
          omega
        rw [this] at hb
        cases hb
  · rcases List.mem_append.mp hk with h2 | h2
    · exact h.2 k h2
    · rw [List.mem_singleton.mp h2]; exact ⟨h0, h1⟩
theorem up_dist {N : Int} {ks : List Int} (h : Up N ks) : ∀ (d i : Nat) (a b : Int), ks[i]? = some a → ks[i + d]? = some b → a + d ≤ b
  | 0, i, a, b, ha, hb => by
    rw [Nat.add_zero, ha] at hb
    cases hb
    omega
  | d + 1, i, a, b, ha, hb => by
    have hl : i + (d + 1) < ks.length := (List.getElem?_eq_some_iff.mp hb).1
    have hc : ks[i + d]? = some ks[i + d] := List.getElem?_eq_getElem (by omega)
    have h1 := up_dist h d i a _ ha hc
    have h2 := h.1 (i + d) _ b hc (by rw [← hb]; rfl)
    omega
def lowE (cl : List (List Nat)) (m e : Nat) (k : Nat) : List Int := ((List.range k).filter fun p => decide (sg2 cl p e ≠ 46)).map fun p => (m : Int) + ((p : Nat) : Int)
def lowP (t : List Nat) (k : Nat) : List Int := ((List.range k).filter fun e => decide (t.getD e 0 ≠ 35)).map fun e => ((e : Nat) : Int)
def lows (cl : List (List Nat)) (m : Nat) : List (List Int) := ((List.range m).map fun e => lowE cl m e cl.length) ++ cl.map fun t => lowP t m
theorem lows_len (cl : List (List Nat)) (m : Nat) : (lows cl m).length = m + cl.length := by
  unfold lows
  rw [List.length_append, List.length_map, List.length_map, List.length_range]
theorem lows_end {cl : List (List Nat)} {m e : Nat} (h : e < m) : (lows cl m)[e]? = some (lowE cl m e cl.length) := by
  unfold lows
  rw [List.getElem?_append_left (by rw [List.length_map, List.length_range]; exact h), List.getElem?_map, List.getElem?_range h]
  rfl
theorem lows_pick {cl : List (List Nat)} {m p : Nat} (h : p < cl.length) : (lows cl m)[m + p]? = some (lowP cl[p] m) := by
  unfold lows
  rw [List.getElem?_append_right (by rw [List.length_map, List.length_range]; omega), List.length_map, List.length_range, Nat.add_sub_cancel_left, List.getElem?_map, List.getElem?_eq_getElem h]
  rfl
theorem mem_lowE {cl : List (List Nat)} {m e k : Nat} {x : Int} : x ∈ lowE cl m e k ↔ ∃ p, p < k ∧ sg2 cl p e ≠ 46 ∧ x = (m : Int) + (p : Int) := by
  unfold lowE
  simp only [List.mem_map, List.mem_filter, List.mem_range, decide_eq_true_eq]
  constructor
  · rintro ⟨p, ⟨h1, h2⟩, h3⟩; exact ⟨p, h1, h2, h3.symm⟩
  · rintro ⟨p, h1, h2, h3⟩; exact ⟨p, ⟨h1, h2⟩, h3.symm⟩
theorem mem_lowP {t : List Nat} {k : Nat} {x : Int} : x ∈ lowP t k ↔ ∃ e, e < k ∧ t.getD e 0 ≠ 35 ∧ x = (e : Int) := by
  unfold lowP
  simp only [List.mem_map, List.mem_filter, List.mem_range, decide_eq_true_eq]
  constructor
  · rintro ⟨p, ⟨h1, h2⟩, h3⟩; exact ⟨p, h1, h2, h3.symm⟩
  · rintro ⟨p, h1, h2, h3⟩; exact ⟨p, ⟨h1, h2⟩, h3.symm⟩
theorem lowE_step (cl : List (List Nat)) (m e k : Nat) : lowE cl m e (k + 1) = if sg2 cl k e ≠ 46 then lowE cl m e k ++ [(m : Int) + (k : Int)] else lowE cl m e k := by
  unfold lowE
  rw [List.range_succ, List.filter_append, List.map_append]
  by_cases h : sg2 cl k e ≠ 46
  · rw [if_pos h, List.filter_cons_of_pos (by exact decide_eq_true h)]; rfl
  · rw [if_neg h, List.filter_cons_of_neg (by rw [decide_eq_false h]; decide)]; simp
theorem lowP_step (t : List Nat) (k : Nat) : lowP t (k + 1) = if t.getD k 0 ≠ 35 then lowP t k ++ [(k : Int)] else lowP t k := by
  unfold lowP
  rw [List.range_succ, List.filter_append, List.map_append]
  by_cases h : t.getD k 0 ≠ 35
  · rw [if_pos h, List.filter_cons_of_pos (by exact decide_eq_true h)]; rfl
  · rw [if_neg h, List.filter_cons_of_neg (by rw [decide_eq_false h]; decide)]; simp
theorem lowE_len (cl : List (List Nat)) (m e k : Nat) : (lowE cl m e k).length ≤ k := by
  unfold lowE
  rw [List.length_map]
  exact Nat.le_trans (List.length_filter_le _ _) (by rw [List.length_range]; exact Nat.le_refl _)
theorem lowP_len (t : List Nat) (k : Nat) : (lowP t k).length ≤ k := by
  unfold lowP
  rw [List.length_map]
  exact Nat.le_trans (List.length_filter_le _ _) (by rw [List.length_range]; exact Nat.le_refl _)
def NoWay (cl : List (List Nat)) (m n : Nat) (ks : List Int) : Prop := ∀ (s : Nat) (l : List Int), s < m + n → (s : Int) ∉ ks → (lows cl m)[s]? = some l → ∀ r ∈ l, r ∉ ks
def CutAt (cl : List (List Nat)) (m : Nat) (ks : List Int) (p e : Nat) : Prop := ((e : Int) ∈ ks → ((m : Int) + (p : Int)) ∉ ks → sg2 cl p e = 35) ∧ (((m : Int) + (p : Int)) ∈ ks → (e : Int) ∉ ks → sg2 cl p e = 46)
end Mine
set_option linter.all false
namespace Mine
open L2
inductive Wy (tss : List (List Int)) (s : Nat) : Nat → Nat → Prop where
  | nil : Wy tss s 0 s
  | snoc {v w L : Nat} (h : Wy tss s L v) (e : (w : Int) ∈ tss.getD v []) : Wy tss s (L + 1) w
theorem Wy.last {tss : List (List Int)} {s L w : Nat} (h : Wy tss s (L + 1) w) : ∃ v, Wy tss s L v ∧ (w : Int) ∈ tss.getD v [] := by
  cases h with
  | snoc h e => exact ⟨_, h, e⟩
theorem Wy.first {tss : List (List Int)} {s w : Nat} (h : Wy tss s 0 w) : w = s := by
  cases h
  rfl
structure Bf (tss : List (List Int)) (s : Nat) (ps : List (Nat × Option Nat)) (dp : List Nat) : Prop where
  len : dp.length = ps.length
  st : ps[0]? = some (s, none) ∧ dp[0]? = some 0
  nd : ∀ (i j v : Nat) (a b : Option Nat), ps[i]? = some (v, a) → ps[j]? = some (v, b) → i = j
  lt : ∀ (v : Nat) (a : Option Nat), (v, a) ∈ ps → v < tss.length
  par : ∀ (i v : Nat) (a : Option Nat), 0 < i → ps[i]? = some (v, a) → ∃ (j u : Nat) (b : Option Nat) (d : Nat), a = some u ∧ j < i ∧ ps[j]? = some (u, b) ∧ dp[j]? = some d ∧ dp[i]? = some (d + 1) ∧ (v : Int) ∈ tss.getD u []
  mono : ∀ (i j a b : Nat), i ≤ j → dp[i]? = some a → dp[j]? = some b → a ≤ b
theorem Bf.one {tss : List (List Int)} {s : Nat} (h : s < tss.length) : Bf tss s [(s, none)] [0] := by
  refine ⟨rfl, ⟨rfl, rfl⟩, fun i j v a b h1 h2 => ?_, fun v a h1 => ?_, fun i v a h0 h1 => ?_, fun i j a b _ h1 h2 => ?_⟩
  · have g1 := (List.getElem?_eq_some_iff.mp h1).1
    have g2 := (List.getElem?_eq_some_iff.mp h2).1
    simp at g1 g2
    omega
  · have : (v, a) = (s, none) := by simpa using h1
    cases this
    exact h
  · have g1 := (List.getElem?_eq_some_iff.mp h1).1
    simp at g1
    omega
  · have g1 := (List.getElem?_eq_some_iff.mp h1).1
    have g2 := (List.getElem?_eq_some_iff.mp h2).1
    simp at g1 g2
    subst g1
    subst g2
    rw [h1] at h2
    cases h2
    exact Nat.le_refl _
theorem app_old {α : Type} {l : List α} {x y : α} {i : Nat} (h : (l ++ [x])[i]? = some y) : (i < l.length ∧ l[i]? = some y) ∨ (i = l.length ∧ y = x) := by
  by_cases hi : i < l.length
  · rw [List.getElem?_append_left hi] at h
    exact .inl ⟨hi, h⟩
  · have hlt := (List.getElem?_eq_some_iff.mp h).1
    rw [List.length_append] at hlt
    have hlt : i < l.length + 1 := hlt
    have e : i = l.length := by omega
    subst e
    rw [List.getElem?_append_right (Nat.le_refl _), Nat.sub_self] at h
    cases h
    exact .inr ⟨rfl, rfl⟩
theorem app_in {α : Type} {l : List α} {x y : α} {i : Nat} (h : l[i]? = some y) : (l ++ [x])[i]? = some y := by
  rw [List.getElem?_append_left (List.getElem?_eq_some_iff.mp h).1]
  exact h
theorem app_last {α : Type} (l : List α) (x : α) : (l ++ [x])[l.length]? = some x := by
  rw [List.getElem?_append_right (Nat.le_refl _), Nat.sub_self]
  rfl
theorem Bf.add {tss : List (List Int)} {s : Nat} {ps : List (Nat × Option Nat)} {dp : List Nat} (B : Bf tss s ps dp) {pl u v d : Nat} {b : Option Nat} (hp : ps[pl]? = some (u, b)) (hd : dp[pl]? = some d) (near : ∀ j x : Nat, dp[j]? = some x → x ≤ d + 1)
    (he : (v : Int) ∈ tss.getD u []) (hv : v < tss.length) (new : ∀ (i : Nat) (a : Option Nat), ps[i]? ≠ some (v, a)) : Bf tss s (ps ++ [(v, some u)]) (dp ++ [d + 1]) := by
  have pl1 := (List.getElem?_eq_some_iff.mp hp).1
  refine ⟨by rw [List.length_append, List.length_append, B.len]; rfl, ⟨app_in B.st.1, app_in B.st.2⟩, fun i j w a c h1 h2 => ?_, fun w a h1 => ?_, fun i w a h0 h1 => ?_, fun i j a c hij h1 h2 => ?_⟩
  · rcases app_old h1 with ⟨i1, g1⟩ | ⟨i1, g1⟩ <;> rcases app_old h2 with ⟨j1, g2⟩ | ⟨j1, g2⟩
    · exact B.nd i j w a c g1 g2
    · cases g2; exact absurd g1 (new i a)
    · cases g1; exact absurd g2 (new j c)
    · omega
  · rcases List.mem_append.mp h1 with h | h
    · exact B.lt w a h
    · have : (w, a) = (v, some u) := by simpa using h
      cases this
      exact hv
  · rcases app_old h1 with ⟨i1, g1⟩ | ⟨i1, g1⟩
    · obtain ⟨j, x, c, e, q1, q2, q3, q4, q5, q6⟩ := B.par i w a h0 g1
      exact ⟨j, x, c, e, q1, q2, app_in q3, app_in q4, app_in q5, q6⟩
    · cases g1
      refine ⟨pl, u, b, d, rfl, by omega, app_in hp, app_in hd, ?_, he⟩
      rw [i1, ← B.len]
      exact app_last _ _
  · rcases app_old h1 with ⟨i1, g1⟩ | ⟨i1, g1⟩ <;> rcases app_old h2 with ⟨j1, g2⟩ | ⟨j1, g2⟩
    · exact B.mono i j a c hij g1 g2
    · rw [g2]; exact near i a g1
    · omega
    · rw [g1, g2]; exact Nat.le_refl _
def Dn (tss : List (List Int)) (ps : List (Nat × Option Nat)) (dp : List Nat) (pl : Nat) : Prop :=
  ∀ (i u : Nat) (b : Option Nat) (a : Nat), i < pl → ps[i]? = some (u, b) → dp[i]? = some a → ∀ w : Nat, (w : Int) ∈ tss.getD u [] → ∃ (j : Nat) (c : Option Nat) (x : Nat), ps[j]? = some (w, c) ∧ dp[j]? = some x ∧ x ≤ a + 1
theorem Dn.zero {tss : List (List Int)} {ps : List (Nat × Option Nat)} {dp : List Nat} : Dn tss ps dp 0 := fun i u b a h => absurd h (Nat.not_lt_zero _)
theorem Dn.app {tss : List (List Int)} {ps : List (Nat × Option Nat)} {dp : List Nat} {pl : Nat} (D : Dn tss ps dp pl) (hl : dp.length = ps.length) (hp : pl ≤ ps.length) (q : Nat × Option Nat) (e : Nat) : Dn tss (ps ++ [q]) (dp ++ [e]) pl := fun i u b a hi h1 h2 w hw => by
  rcases app_old h1 with ⟨_, g1⟩ | ⟨i1, _⟩
  · rcases app_old h2 with ⟨_, g2⟩ | ⟨i2, _⟩
    · obtain ⟨j, c, x, q1, q2, q3⟩ := D i u b a hi g1 g2 w hw
      exact ⟨j, c, x, app_in q1, app_in q2, q3⟩
    · omega
  · omega
theorem Bf.sound {tss : List (List Int)} {s : Nat} {ps : List (Nat × Option Nat)} {dp : List Nat} (B : Bf tss s ps dp) : ∀ (j v : Nat) (c : Option Nat) (x : Nat), ps[j]? = some (v, c) → dp[j]? = some x → Wy tss s x v ∧ x ≤ j := by
  intro j
  induction j using Nat.strongRecOn with
  | ind j ih =>
    intro v c x h1 h2
    by_cases h0 : j = 0
    · subst h0
      rw [B.st.1] at h1
      rw [B.st.2] at h2
      cases h1
      cases h2
      exact ⟨.nil, Nat.le_refl _⟩
    · obtain ⟨i, u, b, d, e1, hi, e3, e4, e5, e6⟩ := B.par j v c (by omega) h1
      rw [e5] at h2
      cases h2
      obtain ⟨w1, w2⟩ := ih i hi u b d e3 e4
      exact ⟨.snoc w1 e6, by omega⟩
theorem Bf.reach {tss : List (List Int)} {s : Nat} {ps : List (Nat × Option Nat)} {dp : List Nat} (B : Bf tss s ps dp) (D : Dn tss ps dp ps.length) : ∀ (L v : Nat), Wy tss s L v → ∃ (j : Nat) (c : Option Nat) (x : Nat), ps[j]? = some (v, c) ∧ dp[j]? = some x ∧ x ≤ L := by
  intro L
  induction L with
  | zero =>
    intro v h
    rw [h.first]
    exact ⟨0, none, 0, B.st.1, B.st.2, Nat.le_refl _⟩
  | succ L ih =>
    intro v h
    obtain ⟨u, hu, e⟩ := h.last
    obtain ⟨j, c, x, h1, h2, h3⟩ := ih u hu
    obtain ⟨k, c', y, g1, g2, g3⟩ := D j u c x (List.getElem?_eq_some_iff.mp h1).1 h1 h2 v e
    exact ⟨k, c', y, g1, g2, by omega⟩
theorem nodup_le : ∀ (N : Nat) (l : List Nat), l.Nodup → (∀ v ∈ l, v < N) → l.length ≤ N := by
  intro N
  induction N with
  | zero =>
    intro l _ h
    cases l with
    | nil => simp
    | cons a l => exact absurd (h a List.mem_cons_self) (Nat.not_lt_zero _)
  | succ N ih =>
    intro l nd h
    by_cases m : N ∈ l
    · have h1 := ih (l.erase N) (nd.erase N) fun v hv => by
        have h2 := h v (List.mem_of_mem_erase hv)
        have h3 : v ≠ N := fun e => by
          rw [e] at hv
          exact (List.Nodup.not_mem_erase nd) hv
        omega
      rw [List.length_erase_of_mem m] at h1
      omega
    · have h1 := ih l nd fun v hv => by
        have h2 := h v hv
        have h3 : v ≠ N := fun e => m (e ▸ hv)
        omega
      omega
theorem Bf.small {tss : List (List Int)} {s : Nat} {ps : List (Nat × Option Nat)} {dp : List Nat} (B : Bf tss s ps dp) : ps.length ≤ tss.length := by
  have h := nodup_le tss.length (ps.map (·.1)) ?_ ?_
  · rwa [List.length_map] at h
  · rw [List.nodup_iff_pairwise_ne, List.pairwise_iff_getElem]
    intro i j hi hj hij e
    rw [List.length_map] at hi hj
    simp only [List.getElem_map] at e
    have g1 : ps[i]? = some (ps[i].1, ps[i].2) := List.getElem?_eq_getElem hi
    have g2 : ps[j]? = some (ps[i].1, ps[j].2) := by rw [e]; exact List.getElem?_eq_getElem hj
    have := B.nd i j _ _ _ g1 g2
    omega
  · intro v hv
    obtain ⟨p, hp, rfl⟩ := List.mem_map.mp hv
    exact B.lt p.1 p.2 hp
def Pth (tss : List (List Int)) (l : List Nat) : Prop := ∀ (i a b : Nat), l[i]? = some a → l[i + 1]? = some b → (b : Int) ∈ tss.getD a []
end Mine
set_option linter.all false
namespace Mine
open L2
structure NS (N : Nat) (ws : List Nat) : Prop where
  ne : ws ≠ []
  up : ws.Pairwise (· < ·)
  lt : ∀ v ∈ ws, v < N
def cI (ws : List Nat) : List Int := ws.map fun v => ((v : Nat) : Int)
theorem cI_mem {ws : List Nat} {v : Nat} : (v : Int) ∈ cI ws ↔ v ∈ ws := by
  unfold cI
  rw [List.mem_map]
  constructor
  · rintro ⟨u, hu, e⟩
    have : u = v := by omega
    rw [← this]; exact hu
  · exact fun h => ⟨v, h, rfl⟩
theorem cI_len (ws : List Nat) : (cI ws).length = ws.length := by unfold cI; rw [List.length_map]
theorem NS.good {N : Nat} {ws : List Nat} (h : NS N ws) : GoodSet (N : Int) (cI ws) := by
  refine ⟨fun e => h.ne (List.map_eq_nil_iff.mp e), fun i a b h1 h2 => ?_, fun k hk => ?_⟩
  · unfold cI at h1 h2
    rw [List.getElem?_map] at h1 h2
    have hp := List.pairwise_iff_getElem.mp h.up
    cases e1 : ws[i]? with
    | none => rw [e1] at h1; cases h1
    | some u =>
      cases e2 : ws[i + 1]? with
      | none => rw [e2] at h2; cases h2
      | some v =>
        rw [e1] at h1
        rw [e2] at h2
        cases h1
        cases h2
        obtain ⟨i1, g1⟩ := List.getElem?_eq_some_iff.mp e1
        obtain ⟨i2, g2⟩ := List.getElem?_eq_some_iff.mp e2
        have := hp i (i + 1) i1 i2 (by omega)
        rw [g1, g2] at this
        show (u : Int) < (v : Int)
        omega
  · obtain ⟨v, hv, rfl⟩ := List.mem_map.mp hk
    have := h.lt v hv
    omega
theorem ns_of {N : Nat} {ks : List Int} (h : GoodSet (N : Int) ks) : ∃ ws, ks = cI ws ∧ NS N ws := by
  have e : ks = cI (ks.map Int.toNat) := by
    unfold cI
    rw [List.map_map]
    have : ks = ks.map id := (List.map_id ks).symm
    conv => lhs; rw [this]
    refine List.map_congr_left fun z hz => ?_
    have := (h.2.2 z hz).1
    show z = ((z.toNat : Nat) : Int)
    omega
  refine ⟨ks.map Int.toNat, e, fun z => h.1 (List.map_eq_nil_iff.mp z), ?_, fun v hv => ?_⟩
  · rw [List.pairwise_iff_getElem]
    intro i j hi hj hij
    rw [List.length_map] at hi hj
    have := up_dist h.2 (j - i) i ks[i] ks[j] (List.getElem?_eq_getElem hi) (by rw [show i + (j - i) = j by omega]; exact List.getElem?_eq_getElem hj)
    simp only [List.getElem_map]
    have h0 := (h.2.2 ks[i] (List.getElem_mem hi)).1
    omega
  · obtain ⟨z, hz, rfl⟩ := List.mem_map.mp hv
    have := h.2.2 z hz
    omega
theorem NS.nodup {N : Nat} {ws : List Nat} (h : NS N ws) : ws.Nodup := by
  rw [List.nodup_iff_pairwise_ne]
  exact h.up.imp fun {a b} h => Nat.ne_of_lt h
theorem nodup_sub : ∀ (l ws : List Nat), l.Nodup → (∀ v ∈ l, v ∈ ws) → l.length ≤ ws.length
  | [], ws, _, _ => Nat.zero_le _
  | a :: l, ws, nd, h => by
    obtain ⟨na, nl⟩ := List.nodup_cons.mp nd
    have ha := h a List.mem_cons_self
    have := nodup_sub l (ws.erase a) nl fun v hv => by
      refine (List.mem_erase_of_ne (fun (e : v = a) => na (by rw [← e]; exact hv))).mpr (h v (List.mem_cons_of_mem _ hv))
    rw [List.length_erase_of_mem ha] at this
    have : 0 < ws.length := List.length_pos_of_mem ha
    rw [List.length_cons]
    omega
theorem NS.len {N : Nat} {ws : List Nat} (h : NS N ws) : ws.length ≤ N := nodup_le N ws h.nodup h.lt
def narR (tss : List (List Int)) (ws : List Nat) (v : Nat) : List Int := (tss.getD v []).filter fun z => decide (z ∈ cI ws)
def narK (tss : List (List Int)) (ws us : List Nat) : List (List Int) := (List.range tss.length).map fun v => if v ∈ us then narR tss ws v else []
def nar (tss : List (List Int)) (ws : List Nat) : List (List Int) := narK tss ws ws
theorem narK_len (tss : List (List Int)) (ws us : List Nat) : (narK tss ws us).length = tss.length := by unfold narK; rw [List.length_map, List.length_range]
theorem narK_get {tss : List (List Int)} {ws us : List Nat} {v : Nat} (h : v < tss.length) : (narK tss ws us)[v]? = some (if v ∈ us then narR tss ws v else []) := by
  unfold narK
  rw [List.getElem?_map, List.getElem?_range h]
  rfl
theorem mem_nar {tss : List (List Int)} {ws : List Nat} {v : Nat} {z : Int} : z ∈ (nar tss ws).getD v [] ↔ v ∈ ws ∧ z ∈ cI ws ∧ z ∈ tss.getD v [] := by
  by_cases h : v < tss.length
  · rw [List.getD_eq_getElem?_getD, nar, narK_get h, Option.getD_some]
    by_cases hv : v ∈ ws
    · rw [if_pos hv, narR, List.mem_filter, decide_eq_true_iff]
      exact ⟨fun z => ⟨hv, z.2, z.1⟩, fun z => ⟨z.2.2, z.2.1⟩⟩
    · rw [if_neg hv]
      exact ⟨fun z => (by cases z), fun z => absurd z.1 hv⟩
  · rw [List.getD_eq_getElem?_getD, List.getElem?_eq_none (by rw [nar, narK_len]; omega), List.getD_eq_getElem?_getD, List.getElem?_eq_none (by omega : tss.length ≤ v)]
    exact ⟨fun z => (by cases z), fun z => (by cases z.2.2)⟩
theorem wy_in {tss : List (List Int)} {ws : List Nat} {s : Nat} (hs : s ∈ ws) : ∀ {L v : Nat}, Wy (nar tss ws) s L v → v ∈ ws
  | _, _, .nil => hs
  | _, _, .snoc _ e => cI_mem.mp (mem_nar.mp e).2.1
theorem Bf.keys {tss : List (List Int)} {s : Nat} {ps : List (Nat × Option Nat)} {dp : List Nat} (B : Bf tss s ps dp) : (ps.map (·.1)).Nodup := by
  rw [List.nodup_iff_pairwise_ne, List.pairwise_iff_getElem]
  intro i j hi hj hij e
  rw [List.length_map] at hi hj
  simp only [List.getElem_map] at e
  have g1 : ps[i]? = some (ps[i].1, ps[i].2) := List.getElem?_eq_getElem hi
  have g2 : ps[j]? = some (ps[i].1, ps[j].2) := by rw [e]; exact List.getElem?_eq_getElem hj
  have := B.nd i j _ _ _ g1 g2
  omega
theorem key_at {ps : List (Nat × Option Nat)} {v : Nat} (h : v ∈ ps.map (·.1)) : ∃ (j : Nat) (c : Option Nat), ps[j]? = some (v, c) := by
  obtain ⟨p, hp, rfl⟩ := List.mem_map.mp h
  obtain ⟨j, hj, e⟩ := List.getElem_of_mem hp
  exact ⟨j, p.2, by rw [List.getElem?_eq_getElem hj, e]⟩
theorem Bf.sub {tss : List (List Int)} {ws : List Nat} {s : Nat} {ps : List (Nat × Option Nat)} {dp : List Nat} (B : Bf (nar tss ws) s ps dp) (hs : s ∈ ws) : ∀ v ∈ ps.map (·.1), v ∈ ws := fun v hv => by
  obtain ⟨j, c, g⟩ := key_at hv
  have hj : j < dp.length := by rw [B.len]; exact (List.getElem?_eq_some_iff.mp g).1
  exact wy_in hs (B.sound j v c dp[j] g (List.getElem?_eq_getElem hj)).1
theorem Bf.few {tss : List (List Int)} {ws : List Nat} {s : Nat} {ps : List (Nat × Option Nat)} {dp : List Nat} (B : Bf (nar tss ws) s ps dp) (hs : s ∈ ws) : ps.length ≤ ws.length := by
  have := nodup_sub _ ws B.keys (B.sub hs)
  rwa [List.length_map] at this
theorem Bf.full {tss : List (List Int)} {ws : List Nat} {s : Nat} {ps : List (Nat × Option Nat)} {dp : List Nat} (B : Bf (nar tss ws) s ps dp) (hs : s ∈ ws) (h : ws.length ≤ ps.length) : ∀ v ∈ ws, ∃ (j : Nat) (c : Option Nat), ps[j]? = some (v, c) := fun v hv => by
  by_cases hin : v ∈ ps.map (·.1)
  · exact key_at hin
  · have := nodup_sub _ (ws.erase v) B.keys fun u hu => (List.mem_erase_of_ne (fun (e : u = v) => hin (by rw [← e]; exact hu))).mpr (B.sub hs u hu)
    rw [List.length_map, List.length_erase_of_mem hv] at this
    have : 0 < ws.length := List.length_pos_of_mem hv
    omega
theorem Bf.miss {tss : List (List Int)} {ws : List Nat} {s N : Nat} {ps : List (Nat × Option Nat)} {dp : List Nat} (hw : NS N ws) (h : ps.length < ws.length) : ∃ v ∈ ws, v ∉ ps.map (·.1) := by
  refine Classical.byContradiction fun hc => ?_
  have := nodup_sub ws (ps.map (·.1)) hw.nodup fun v hv => Classical.byContradiction fun hn => hc ⟨v, hv, hn⟩
  rw [List.length_map] at this
  omega
def Conn (tss : List (List Int)) (ws : List Nat) : Prop := ∀ u ∈ ws, ∀ v ∈ ws, ∃ L, Wy (nar tss ws) u L v
structure Lf (tss : List (List Int)) (ws fs : List Nat) : Prop where
  ne : fs ≠ []
  len : fs.length < ws.length
  sub : ∀ v ∈ fs, v ∈ ws
  up : fs.Pairwise (· < ·)
  off : ∀ o ∈ ws, o ∉ fs → ∀ v ∈ fs, (v : Int) ∉ tss.getD o []
theorem filter_lt {ws : List Nat} {p : Nat → Bool} {s : Nat} (hs : s ∈ ws) (hp : p s = false) : (ws.filter p).length < ws.length := by
  have h1 := List.length_filter_le p ws
  refine Nat.lt_of_le_of_ne h1 fun e => ?_
  have := List.length_filter_eq_length_iff.mp e s hs
  rw [hp] at this
  cases this
theorem Bf.lift {tss : List (List Int)} {ws : List Nat} {s N : Nat} {ps : List (Nat × Option Nat)} {dp : List Nat} (B : Bf (nar tss ws) s ps dp) (D : Dn (nar tss ws) ps dp ps.length) (hw : NS N ws) (hs : s ∈ ws) (h : ps.length < ws.length) :
    ¬ Conn tss ws ∧ Lf tss ws (ws.filter fun v => decide (v ∉ ps.map (·.1))) := by
  obtain ⟨v, hv, hn⟩ := Bf.miss (tss := tss) (s := s) (dp := dp) hw h
  have s0 : s ∈ ps.map (·.1) := List.mem_map.mpr ⟨(s, none), List.mem_of_getElem? B.st.1, rfl⟩
  refine ⟨fun hc => ?_, fun e => ?_, filter_lt hs (by simp only [decide_eq_false_iff_not, Classical.not_not]; exact s0), fun u hu => (List.mem_filter.mp hu).1, hw.up.filter _, fun o ho hno u hu e => ?_⟩
  · obtain ⟨L, hL⟩ := hc s hs v hv
    obtain ⟨j, c, x, g, _⟩ := B.reach D L v hL
    exact hn (List.mem_map.mpr ⟨(v, c), List.mem_of_getElem? g, rfl⟩)
  · have : v ∈ ws.filter fun v => decide (v ∉ ps.map (·.1)) := List.mem_filter.mpr ⟨hv, decide_eq_true hn⟩
    rw [e] at this
    cases this
  · obtain ⟨hu1, hu2⟩ := List.mem_filter.mp hu
    have hu2 := of_decide_eq_true hu2
    have ho2 : o ∈ ps.map (·.1) := Classical.byContradiction fun hn => hno (List.mem_filter.mpr ⟨ho, decide_eq_true hn⟩)
    obtain ⟨j, c, g⟩ := key_at ho2
    have hj : j < dp.length := by rw [B.len]; exact (List.getElem?_eq_some_iff.mp g).1
    obtain ⟨w1, _⟩ := B.sound j o c dp[j] g (List.getElem?_eq_getElem hj)
    obtain ⟨j', c', x', g', _⟩ := B.reach D _ u (.snoc w1 (mem_nar.mpr ⟨ho, cI_mem.mpr hu1, e⟩))
    exact hu2 (List.mem_map.mpr ⟨(u, c'), List.mem_of_getElem? g', rfl⟩)
structure Rd (tss : List (List Int)) (ws found : List Nat) : Prop where
  fst : found[0]? = ws[0]?
  ins : ∀ v ∈ found, v ∈ ws
  all : ∀ v ∈ ws, v ∈ found
  len : found.length ≤ ws.length * ws.length
  one : ws.length = 1 → found = ws
  nxt : 1 < ws.length → ∀ i a b : Nat, found[i]? = some a → found[(i + 1) % found.length]? = some b → (b : Int) ∈ tss.getD a []
theorem pth_app {T : List (List Int)} {bs q : List Nat} {c : Nat} (h1 : Pth T (bs ++ [c])) (h2 : Pth T (c :: q)) : Pth T (bs ++ c :: q) := fun i a b g1 g2 => by
  by_cases hi : i + 1 ≤ bs.length
  · refine h1 i a b ?_ ?_
    · rw [List.getElem?_append_left (by omega)] at g1 ⊢
      exact g1
    · by_cases he : i + 1 < bs.length
      · rw [List.getElem?_append_left he] at g2 ⊢
        exact g2
      · rw [List.getElem?_append_right (by omega), show i + 1 - bs.length = 0 by omega] at g2 ⊢
        exact g2
  · refine h2 (i - bs.length) a b ?_ ?_
    · rw [List.getElem?_append_right (by omega)] at g1
      exact g1
    · rw [List.getElem?_append_right (by omega), show i + 1 - bs.length = i - bs.length + 1 by omega] at g2
      exact g2
theorem pth_in {tss : List (List Int)} {ws p : List Nat} {c : Nat} (h : Pth (nar tss ws) p) (h0 : p[0]? = some c) (hc : c ∈ ws) : ∀ v ∈ p, v ∈ ws := fun v hv => by
  obtain ⟨i, hi, e⟩ := List.getElem_of_mem hv
  cases i with
  | zero =>
    rw [List.getElem?_eq_getElem hi, e] at h0
    cases h0
    exact hc
  | succ i =>
    have := h i p[i] v (List.getElem?_eq_getElem (by omega)) (by rw [List.getElem?_eq_getElem hi, e])
    exact cI_mem.mp (mem_nar.mp this).2.1
structure Wk (tss : List (List Int)) (ws : List Nat) (f i : Nat) (as bs : List Nat) (c : Nat) : Prop where
  e : as = bs ++ [c]
  fst : as[0]? = some f
  ins : ∀ v ∈ as, v ∈ ws
  has : ∀ v ∈ ws.take (i + 1), v ∈ as
  pth : Pth (nar tss ws) as
  len : as.length ≤ 1 + i * (ws.length - 1)
  lst : (i = 0 ∧ as = [f]) ∨ (0 < i ∧ c ≠ f)
theorem Wk.start {tss : List (List Int)} {ws : List Nat} {f : Nat} (h : ws[0]? = some f) : Wk tss ws f 0 [f] [] f := by
  refine ⟨rfl, rfl, fun v hv => ?_, fun v hv => ?_, fun i a b h1 h2 => ?_, by simp, .inl ⟨rfl, rfl⟩⟩
  · rw [List.mem_singleton.mp hv]; exact List.mem_of_getElem? h
  · cases ws with
    | nil => cases h
    | cons x r =>
      cases h
      simpa using hv
  · simp at h2
theorem NS.head_ne {N : Nat} {ws : List Nat} (h : NS N ws) {f v i : Nat} (h0 : ws[0]? = some f) (h1 : ws[i + 1]? = some v) : v ≠ f := by
  obtain ⟨i0, g0⟩ := List.getElem?_eq_some_iff.mp h0
  obtain ⟨i1, g1⟩ := List.getElem?_eq_some_iff.mp h1
  have := List.pairwise_iff_getElem.mp h.up 0 (i + 1) i0 i1 (by omega)
  rw [g0, g1] at this
  omega
theorem take_has {ws as : List Nat} {i v : Nat} (h : ∀ u ∈ ws.take (i + 1), u ∈ as) (hv : ws[i + 1]? = some v) (hin : v ∈ as) : ∀ u ∈ ws.take (i + 1 + 1), u ∈ as := fun u hu => by
  rw [List.take_add_one, hv] at hu
  rcases List.mem_append.mp hu with g | g
  · exact h u g
  · have : u = v := by simpa using g
    rw [this]; exact hin
theorem Wk.stay {tss : List (List Int)} {ws : List Nat} {f i N : Nat} {as bs : List Nat} {c v : Nat} (W : Wk tss ws f i as bs c) (hw : NS N ws) (h0 : ws[0]? = some f) (hv : ws[i + 1]? = some v) (hin : v ∈ as) : Wk tss ws f (i + 1) as bs c := by
  refine ⟨W.e, W.fst, W.ins, take_has W.has hv hin, W.pth, ?_, .inr ⟨by omega, ?_⟩⟩
  · have := W.len
    rw [Nat.add_mul]
    omega
  · rcases W.lst with ⟨_, e⟩ | ⟨_, h⟩
    · rw [e] at hin
      exact absurd (List.mem_singleton.mp hin) (hw.head_ne h0 hv)
    · exact h
theorem Wk.go {tss : List (List Int)} {ws : List Nat} {f i N : Nat} {as bs p : List Nat} {c v x : Nat} (W : Wk tss ws f i as bs c) (hw : NS N ws) (h0 : ws[0]? = some f) (hv : ws[i + 1]? = some v) (hin : v ∉ as)
    (pl : p.length = x + 1) (p0 : p[0]? = some c) (px : p[x]? = some v) (hp : Pth (nar tss ws) p) (xs : x + 1 ≤ ws.length) : ∃ bs', Wk tss ws f (i + 1) (as ++ p.drop 1) bs' v := by
  have ca : c ∈ as := by rw [W.e]; simp
  have x0 : x ≠ 0 := fun e => by
    subst e
    rw [p0] at px
    cases px
    exact hin ca
  have ed : p = c :: p.drop 1 := by
    cases p with
    | nil => cases p0
    | cons a r => cases p0; rfl
  have el : as ++ p.drop 1 = bs ++ c :: p.drop 1 := by rw [W.e, List.append_assoc]; rfl
  have pin := pth_in hp p0 (W.ins c ca)
  have lastp : p = p.take x ++ [v] := by
    have h1 : x < p.length := by omega
    have h2 : p[x] = v := by
      rw [List.getElem?_eq_getElem h1] at px
      exact Option.some.inj px
    have h3 : p.take (x + 1) = p := List.take_of_length_le (by omega)
    rw [List.take_add_one, px] at h3
    exact h3.symm
  refine ⟨bs ++ p.take x, ?_, ?_, fun u hu => ?_, take_has (fun u hu => List.mem_append_left _ (W.has u hu)) hv ?_, ?_, ?_, .inr ⟨by omega, hw.head_ne h0 hv⟩⟩
  · rw [el, ← ed, List.append_assoc, ← lastp]
  · rw [List.getElem?_append_left (by rw [W.e, List.length_append]; show 0 < bs.length + 1; omega)]
    exact W.fst
  · rcases List.mem_append.mp hu with h | h
    · exact W.ins u h
    · exact pin u (List.mem_of_mem_drop h)
  · refine List.mem_append_right _ (List.mem_of_getElem? (i := x - 1) ?_)
    rw [List.getElem?_drop, show 1 + (x - 1) = x by omega]
    exact px
  · rw [el]
    exact pth_app (by rw [← W.e]; exact W.pth) (by rw [← ed]; exact hp)
  · have := W.len
    rw [List.length_append, List.length_drop, Nat.add_mul]
    omega
theorem Wk.round {tss : List (List Int)} {ws : List Nat} {f N : Nat} {as bs p : List Nat} {c x : Nat} (W : Wk tss ws f (ws.length - 1) as bs c) (hw : NS N ws) (h0 : ws[0]? = some f)
    (pl : p.length = x + 1) (p0 : p[0]? = some c) (px : p[x]? = some f) (hp : Pth (nar tss ws) p) (xs : x + 1 ≤ ws.length) : Rd tss ws (as ++ (p.drop 1).dropLast) := by
  have ca : c ∈ as := by rw [W.e]; simp
  have n0 : 0 < ws.length := (List.getElem?_eq_some_iff.mp h0).1
  have hall : ∀ v ∈ ws, v ∈ as := fun v hv => W.has v (by rw [show ws.length - 1 + 1 = ws.length by omega, List.take_length]; exact hv)
  have ed : p = c :: p.drop 1 := by
    cases p with
    | nil => cases p0
    | cons a r => cases p0; rfl
  have pin := pth_in hp p0 (W.ins c ca)
  have al : 0 < as.length := by rw [W.e, List.length_append]; show 0 < bs.length + 1; omega
  have len := W.len
  refine ⟨?_, fun v hv => ?_, fun v hv => List.mem_append_left _ (hall v hv), ?_, fun h1 => ?_, fun h1 => ?_⟩
  · rw [List.getElem?_append_left al, W.fst, h0]
  · rcases List.mem_append.mp hv with h | h
    · exact W.ins v h
    · exact pin v (List.mem_of_mem_drop (List.dropLast_subset _ h))
  · rw [List.length_append, List.length_dropLast, List.length_drop, pl]
    obtain ⟨k, ek⟩ : ∃ k, ws.length = k + 1 := ⟨ws.length - 1, by omega⟩
    rw [ek] at len xs ⊢
    rw [show k + 1 - 1 = k by omega] at len
    rw [Nat.add_mul, Nat.mul_add]
    omega
  · have x0 : x = 0 := by omega
    have hd : p.drop 1 = [] := List.drop_eq_nil_of_le (by omega)
    rw [hd, List.dropLast_nil, List.append_nil]
    rcases W.lst with ⟨_, e⟩ | ⟨h, _⟩
    · rw [e]
      cases ws with
      | nil => cases h0
      | cons a r =>
        cases h0
        cases r with
        | nil => rfl
        | cons b r => simp at h1
    · omega
  · have hcf : c ≠ f := by
      rcases W.lst with ⟨h, _⟩ | ⟨_, h⟩
      · omega
      · exact h
    have x0 : x ≠ 0 := fun e => by
      subst e
      rw [p0] at px
      cases px
      exact hcf rfl
    obtain ⟨fo, efo⟩ : ∃ fo, fo = as ++ (p.drop 1).dropLast := ⟨_, rfl⟩
    have hdl : p.drop 1 = (p.drop 1).dropLast ++ [f] := by
      have hne : p.drop 1 ≠ [] := fun e => by
        have := congrArg List.length e
        rw [List.length_drop, pl] at this
        simp at this
        omega
      have := List.dropLast_concat_getLast hne
      rw [List.getLast_eq_getElem] at this
      have e2 : (p.drop 1)[(p.drop 1).length - 1]'(by have := List.length_pos_iff.mpr hne; omega) = f := by
        have hx : x < p.length := by omega
        rw [List.getElem?_eq_getElem hx] at px
        have := Option.some.inj px
        rw [← this]
        rw [List.getElem_drop]
        congr 1
        rw [List.length_drop]
        omega
      rw [e2] at this
      exact this.symm
    have hpf : Pth (nar tss ws) (fo ++ [f]) := by
      have := pth_app (q := p.drop 1) (by rw [← W.e]; exact W.pth) (by rw [← ed]; exact hp)
      rw [efo, List.append_assoc, ← hdl, W.e, List.append_assoc]
      exact this
    have ff : fo[0]? = some f := by rw [efo, List.getElem?_append_left al]; exact W.fst
    rw [← efo]
    intro i a b g1 g2
    have hi := (List.getElem?_eq_some_iff.mp g1).1
    have edge := hpf i a b (app_in g1) (by
      by_cases hl : i + 1 < fo.length
      · rw [Nat.mod_eq_of_lt hl] at g2
        exact app_in g2
      · have : i + 1 = fo.length := by omega
        rw [this, Nat.mod_self, ff] at g2
        cases g2
        rw [this]
        exact app_last _ _)
    exact (mem_nar.mp edge).2.2
end Mine
set_option linter.all false
namespace Mine
open L2
section
variable {up : Nat → Nat → Bool} {m n : Nat} {tss : List (List Int)} {zs : List (Nat × Nat)} {eo po : List Nat}
end
end Mine
set_option Elab.async false
set_option linter.all false
set_option maxRecDepth 100000
namespace L2
open PySem PySem.Spec PyProof.Rows
def vB (bs : List Bool) : List V := bs.map V.bl
section
variable {X : Cx} {K : PySem.W.Frag}
end
end L2
set_option Elab.async false
set_option linter.all false
set_option maxRecDepth 100000
namespace L2
open PySem PySem.Spec PyProof.Rows
section
variable {X : Cx} {K : PySem.W.Frag}
theorem call_rng1 : CallR X (.type "range") (fun xs H Q => ∃ b, xs = [.int b] ∧ ∀ p, H p = none → Q (.ref p) (upd H p (rngO p 0 b 1))) := by
  intro pins s σ H xs us Q I rv h
  obtain ⟨b, rfl, q⟩ := h
  obtain ⟨u1, rfl, r1⟩ := rv.one
  obtain ⟨t, rfl⟩ := r1
  exact call_range_1 (laid_rng I q)
end
end L2
set_option Elab.async false
set_option linter.all false
set_option maxRecDepth 100000
namespace L2
open PySem PySem.Spec PyProof.Rows
structure CompOk2 (X : Cx) (x x' : Str) (Nc : List Str) (caps : List Nat) (scope : Scope) : Prop where
  kind : scope.kind = .function
  cell : ∀ y ∈ scope.names, y.2 ≠ .cell
  names : ∀ y ∈ scope.names, y.2 = .local → scope.names.lookup y.1 = some .local
  fr : ∀ y ∈ scope.names, y.2 = .free → X.env.scope.names.lookup y.1 = some .cell ∧ scope.names.lookup y.1 = some .free
  loc : scope.names.lookup x = some .local
  loc2 : scope.names.lookup x' = some .local
  len : Nc.length = caps.length + 2
  hd : Nc[0]? = some x
  hd2 : Nc[1]? = some x'
  nd : Nc.Nodup
  cap : ∀ k j, caps[k]? = some j → ∃ y, Nc[k + 2]? = some y ∧ X.N[j]? = some y ∧ scope.names.lookup y = some .free
def tCompW2 (K : PySem.W.Frag) (caps : List Nat) (tc : TT) (te : TE) (J : It) (σ : St) (H : Hp) (Q : VK) : Prop :=
  ∃ W : Nat → Nat → List V → Hp → Prop, (∃ m, W 0 m [] H) ∧ ∀ i m ys H, W i m ys H →
    (J.stop i H ∧ ys.length ≤ sizeLine ∧ ∀ p, H p = none → Q (.ref p) (upd H p (.lst ys))) ∨
    (J.go i H ∧ ys.length < sizeLine ∧ ∀ x H', J.yld i H x H' → ∃ a u v, x = .ref a ∧ SqT K H' a [u, v] ∧ tc (some u :: some v :: capV σ caps) H' fun b H2 =>
      if b = true then te (some u :: some v :: capV σ caps) H2 fun y H3 => ∃ m', m' < m ∧ W (i + 1) m' (ys ++ [y]) H3 else ∃ m', m' < m ∧ W (i + 1) m' ys H2)
def tComp2 (K : PySem.W.Frag) (wi : TI) (caps : List Nat) (tc : TT) (te : TE) : TE := fun σ H Q => wi σ H fun J H1 => tCompW2 K caps tc te J σ H1 Q
section
variable {X : Cx} {pins : List (Addr × Obj)} {σ : St} {H : Hp} {s : Shared}
end
end L2
set_option Elab.async false
set_option linter.all false
set_option maxRecDepth 100000
namespace L2
open PySem PySem.Spec PyProof.Rows
section
variable {X : Cx}
def rCountL (K : PySem.W.Frag) : V → List V → Hp → VK → Prop := fun x vs H Q => ∃ a ns k, x = .ref a ∧ vs = [.int k] ∧ SqL K H a (vI ns) ∧ Q (.int (ns.count k : Nat)) H
end
def Ite (K : PySem.W.Frag) (a : Addr) : It where
  go := fun i H => ∃ xs x, SqL K H a xs ∧ xs[i]? = some x
  yld := fun i H x H' => ∃ T, x = .ref T ∧ H T = none ∧ ∀ xs u, SqL K H a xs → xs[i]? = some u → H' = upd H T (.tup [.int (i : Int), u])
  stop := fun i H => ∃ xs, SqL K H a xs ∧ xs.length = i
def EnSt (e it a : Addr) (i : Nat) (h : Heap) : Prop := (∃ old, IsEnum h e it i old) ∧ h.IsListIter it a i
theorem turn_enum {P : Program} {w : World} {K : PySem.W.Frag} {es : List Expr} {kx : Nat} {tp : Pos} {e it a : Addr} (hei : e ≠ it) (hae : a ≠ e) (hai : a ≠ it) :
    Turn P w K (.Tuple es kx tp) (Ite K a) [e, it] e (EnSt e it a) where
  mem := by simp
  obj := fun i h st c hc => by
    obtain ⟨⟨old, s1⟩, s2⟩ := st
    simp only [List.mem_cons, List.not_mem_nil, or_false] at hc
    rcases hc with z | z
    · subst z; exact ⟨_, s1, fun v z => by cases (show Data.fields _ = Data.cell v from z)⟩
    · subst z; obtain ⟨o, e, _, d⟩ := s2; exact ⟨o, e, fun v z => by rw [d] at z; cases z⟩
  keep := fun i h h' st k => by
    obtain ⟨⟨old, s1⟩, s2⟩ := st
    exact ⟨⟨old, k _ (by simp) _ s1⟩, s2.at fun o e => k _ (by simp) o e⟩
  item := by
    intro X hP hw hK hc i pins s σ H E I hf st hg
    subst hP hw hK
    obtain ⟨xs, x, hq1, hx⟩ := hg
    obtain ⟨its1, rv1, p1, _⟩ := I.list hq1
    obtain ⟨u, hu, ru⟩ := rv1.get hx
    obtain ⟨⟨old, s1⟩, s4⟩ := st
    have hlt : i < its1.toArray.size := by have := (List.getElem?_eq_some_iff.mp hu).1; simpa using this
    have hh : X.A.in1.handled = none := I.ok.hd hc
    refine wpAny_pyNext_enum_itemD (Draws.list hh it a hai its1.toArray) s1 ⟨s4, p1.isList⟩ hlt hei (fun z => ?_) fun u' h1 tk hu' ho hst hT hsz kk => ?_
    · simp only [List.mem_cons, List.not_mem_nil, or_false] at z
      rcases z with z | z
      · exact hei z
      · exact hae z.symm
    have hu2 : its1[i]? = some u' := by simpa using hu'
    rw [hu] at hu2
    cases hu2
    refine ⟨_, rfl, wpAny_letOwnedTupleGo_enum ho fun h2 he2 sb => ?_⟩
    have sb : Heap.SameBut e h1 h2 := sb
    have el : e < s.heap.objs.size := Heap.lt_size s1
    have il : it < s.heap.objs.size := by obtain ⟨_, e, _⟩ := s4; exact Heap.lt_size e
    have up : ∀ c o, c ≠ e → h1.get? c = some o → h2.get? c = some o := fun c o c1 z => (sb.2 c c1).trans z
    have hTn : H s.heap.objs.size = none := I.hok.fresh (Nat.le_refl _)
    have I1 : Inv X pins σ (upd H s.heap.objs.size (.tup [.int (i : Int), x])) { s with heap := s.heap.push { cls := .type "tuple", data := .seq #[.int i tk, u] }, toks := tk + 1 } :=
      I.laid (fun c o e => Heap.get?_push_of_some _ e) (Nat.le_refl _) ⟨by show 2 ≤ sizeLine; decide, [.int i tk, u], .cons ⟨tk, rfl⟩ (.cons ru .nil), ⟨_, Heap.get?_push_size _ rfl, rfl, _, rfl⟩⟩
    have fp2 : ∀ c ∈ [e, it], FpOk X pins (upd H s.heap.objs.size (.tup [.int (i : Int), x])) c := fun c hc => by
      obtain ⟨f0, f⟩ := hf c hc
      refine ⟨?_, f⟩
      have lt : c < s.heap.objs.size := by
        simp only [List.mem_cons, List.not_mem_nil, or_false] at hc
        rcases hc with e | e <;> subst e <;> assumption
      rw [upd_ne (Nat.ne_of_lt lt)]
      exact f0
    have I2 : Inv X pins σ (upd H s.heap.objs.size (.tup [.int (i : Int), x])) { s with heap := h2, toks := tk + 1 } := by
      refine Inv.turnedL (s := { s with heap := s.heap.push { cls := .type "tuple", data := .seq #[.int i tk, u] }, toks := tk + 1 }) (h' := h2) (t' := tk + 1) (its := [e, it]) I1 (fun c o hc z => ?_) fp2
      simp only [List.mem_cons, List.not_mem_nil, or_false, not_or] at hc
      refine up c o hc.1 ?_
      by_cases hcs : c = s.heap.objs.size
      · subst hcs
        have e' : (s.heap.push { cls := .type "tuple", data := .seq #[.int i tk, u] }).get? s.heap.objs.size = some { cls := .type "tuple", data := .seq #[.int i tk, u] } := Heap.get?_push_size _ rfl
        rw [e'] at z
        cases z
        exact hT
      · have e' : s.heap.get? c = some o := by
          rw [← z]
          exact (Heap.get?_push_ne _ _ _ hcs).symm
        exact kk c o hc.1 hc.2 e'
    refine ⟨.ref s.heap.objs.size, _, I2, rfl, ⟨s.heap.objs.size, rfl, hTn, fun xs' u' a1 a3 => ?_⟩, ⟨⟨u, by simpa using he2⟩, hst.1.at fun o z => up _ o hei.symm z⟩, fun c hc => (fp2 c hc).1⟩
    rw [I.list_inj a1 hq1, hx] at a3
    cases a3
    rfl
  done := by
    intro X hP hw hK hc i pins s σ H E I hf st hg
    subst hP hw hK
    obtain ⟨xs, hq1, hend⟩ := hg
    obtain ⟨its1, rv1, p1, _⟩ := I.list hq1
    have l1 := rv1.length
    obtain ⟨⟨old, s1⟩, s4⟩ := st
    have hh : X.A.in1.handled = none := I.ok.hd hc
    have en : i = its1.toArray.size := by simp; omega
    subst en
    refine wpAny_pyNext_enum_endD (Draws.list hh it a hai its1.toArray) s1 ⟨s4, p1.isList⟩ fun h' kk => ⟨rfl, I.turnedL (t' := s.toks) (its := [e, it]) (fun c o hc z => ?_) hf⟩
    simp only [List.mem_cons, List.not_mem_nil, or_false, not_or] at hc
    exact kk c o hc.2 z
  self := fun _ _ _ _ _ st h => by obtain ⟨⟨old, s1⟩, _⟩ := st; exact wpAny_pyIter_enum s1 h
section
variable {X : Cx} {es : List Expr} {kx : Nat} {tp : Pos}
def iEnum (K : PySem.W.Frag) (ta : TA) : TI := fun σ H R => ta σ H fun vs H1 => ∃ a, vs = [.ref a] ∧ (∃ xs, SqL K H1 a xs) ∧ R (Ite K a) H1
theorem pi_enum {K : PySem.W.Frag} {a : Expr} {ta : TA} {p pos : Pos} (hg : Gl X "enumerate") (hm : X.mg "enumerate" = none) (ha : PA X [a] ta) (hK : X.K = K := by rfl) (hs : starEach [a] X.env = [(false, eval a X.env)] := by rfl) :
    PI X (.Tuple es kx tp) (.Call (.Name "enumerate" p) [a] [] pos) (iEnum K ta) := by
  subst hK
  intro pins s σ H R I h
  refine Call_ (ld_blt I hg hm bt_enumerate (PyProof.Rows.callWith_type1 (thn (ha pos pins s σ H _ I h) fun us s1 ⟨vs, H1, I1, r1, q1⟩ => ?_) hs rfl))
  obtain ⟨a, e, ⟨xs, hq1⟩, q⟩ := q1
  subst e
  cases r1 with
  | cons r rr =>
    cases rr
    cases r
    obtain ⟨its1, rv1, p1, _⟩ := I1.list hq1
    obtain ⟨o1, e1, _⟩ := id p1.isList
    have la : a < s1.heap.objs.size := Heap.lt_size e1
    refine call_enumerate_list p1.isList fun h' he hi hsz kk => wpAny_pyIter_enum he ?_
    refine ⟨_, [s1.heap.objs.size + 1, s1.heap.objs.size], _, _, H1, rfl, I1.kept (t' := s1.toks) kk, turn_enum (lne (Nat.lt_succ_self _) 0).symm (lne la 1) (lne la 0), ⟨⟨_, he⟩, hi⟩, fun c hc => ?_, q⟩
    have le : s1.heap.objs.size ≤ c := by
      simp only [List.mem_cons, List.not_mem_nil, or_false] at hc
      rcases hc with e | e <;> subst e <;> omega
    exact I1.fpOk le (I1.hok.fresh le)
theorem for_enum {K : PySem.W.Frag} {a : Addr} {xs : List V} {g : TG} {tb : TS} {D : Ends} {σ : St} {H : Hp} (Pv : Nat → St → Hp → Prop) (h0 : Pv 0 σ H) (hl : ∀ i σ H, Pv i σ H → SqL K H a xs)
    (hs : ∀ i x σ H T, xs[i]? = some x → Pv i σ H → H T = none → g (.ref T) σ (upd H T (.tup [.int (i : Int), x])) fun σ2 H2 => tb { D with nx := Pv (i + 1), ct := Pv (i + 1), bk := D.nx } σ2 H2) (hd : ∀ σ H, Pv xs.length σ H → D.nx σ H) :
    ∃ W : Nat → Nat → St → Hp → Prop, (∃ m, W 0 m σ H) ∧ ∀ i m σ H, W i m σ H →
      ((Ite K a).stop i H ∧ D.nx σ H) ∨ ((Ite K a).go i H ∧ ∃ N : St → Hp → Prop, (∀ σ' H', N σ' H' → ∃ m', m' < m ∧ W (i + 1) m' σ' H') ∧ ∀ x H', (Ite K a).yld i H x H' → g x σ H' fun σ2 H2 => tb { D with nx := N, ct := N, bk := D.nx } σ2 H2) := by
  refine ⟨fun i m σ H => m = xs.length - i ∧ i ≤ xs.length ∧ Pv i σ H, ⟨xs.length, by simp, Nat.zero_le _, h0⟩, ?_⟩
  rintro i m σ H ⟨rfl, hi, p⟩
  have q1 := hl i σ H p
  by_cases hlt : i < xs.length
  · refine .inr ⟨⟨xs, xs[i], q1, List.getElem?_eq_getElem hlt⟩, Pv (i + 1), fun σ' H' p' => ⟨xs.length - (i + 1), by omega, rfl, hlt, p'⟩, fun x H' y => ?_⟩
    obtain ⟨T, rfl, hT, y⟩ := y
    have e := y xs _ q1 (List.getElem?_eq_getElem hlt)
    subst e
    exact hs i _ σ H T (List.getElem?_eq_getElem hlt) p hT
  · have e : i = xs.length := by omega
    subst e
    exact .inl ⟨⟨xs, q1, rfl⟩, hd σ H p⟩
end
end L2
set_option Elab.async false
set_option linter.all false
set_option maxRecDepth 100000
namespace L2
open PySem PySem.Spec PyProof.Rows
inductive SamV (K : PySem.W.Frag) (H : Hp) : Nat → V → V → Prop where
  | flat {n : Nat} {x : V} (h : flatV x = true) : SamV K H n x x
  | lst {n : Nat} {p q : Addr} {xs ys : List V} (hp : SqL K H p xs) (hq : SqL K H q ys) (hl : xs.length = ys.length) (hi : ∀ (i : Nat) (x y : V), xs[i]? = some x → ys[i]? = some y → SamV K H n x y) : SamV K H (n + 1) (.ref p) (.ref q)
  | tup {n : Nat} {p q : Addr} {xs ys : List V} (hp : SqT K H p xs) (hq : SqT K H q ys) (hl : xs.length = ys.length) (hi : ∀ (i : Nat) (x y : V), xs[i]? = some x → ys[i]? = some y → SamV K H n x y) : SamV K H (n + 1) (.ref p) (.ref q)
section
variable {X : Cx} {K : PySem.W.Frag}
def SamS (K : PySem.W.Frag) (H : Hp) (p q : Addr) : Prop := ∃ xs ys : List V, SqL K H p xs ∧ SqL K H q ys ∧ xs.length = ys.length ∧ ∀ (i : Nat) (x y : V), xs[i]? = some x → ys[i]? = some y → SamV K H 50 x y
def rEqS (K : PySem.W.Frag) : R2 := fun x y H Q => ∃ p q, x = .ref p ∧ y = .ref q ∧ SamS K H p q ∧ Q (.bl true) H
def rNeS (K : PySem.W.Frag) : R2 := fun x y H Q => ∃ p q, x = .ref p ∧ y = .ref q ∧ SamS K H p q ∧ Q (.bl false) H
end
end L2
set_option Elab.async false
set_option linter.all false
set_option maxRecDepth 100000
namespace L2
open PySem PySem.Spec PyProof.Rows
section
variable {X : Cx} {K : PySem.W.Frag} {o e value : Expr} {f : Str} {pos pos' tpos : Pos} {ta tv : TE} {st : Stmt} {t : TS}
theorem ps_fr (h : X.A.frames = some X.stack → PS X st t) : PS X st t := fun pins s σ H D I hw => h I.ok.frames pins s σ H D I hw
end
structure Own (K : PySem.W.Frag) (C f : Addr) : Prop where
  c : Cls K C
  m : Mk K C f
end L2
set_option Elab.async false
set_option linter.all false
set_option maxRecDepth 100000
namespace L2
open PySem PySem.Spec PyProof.Rows
section
variable {X : Cx} {K : PySem.W.Frag}
def rNeTI (K : PySem.W.Frag) : R2 := fun x y H Q => ∃ (p q : Addr) (js ks : List Int), x = .ref p ∧ y = .ref q ∧ SqT K H p (vI js) ∧ SqT K H q (vI ks) ∧ Q (.bl (!decide (js = ks))) H
end
end L2
set_option Elab.async false
set_option linter.all false
set_option maxRecDepth 100000
namespace L2
open PySem PySem.Spec PyProof.Rows
section
variable {X : Cx} {K : PySem.W.Frag}
theorem sorted_put {pins : List (Addr × Obj)} {σ : St} {H : Hp} {s : Shared} {vs : List Value} {out : Array Value} {ns' : List Int} {Q : VK} (I : Inv X pins σ H s) (hi : IntsAre out.toList ns') (hz : ns'.length ≤ sizeLine)
    (q : ∀ l, H l = none → Q (.ref l) (upd H l (.lst (vI ns')))) : EP X pins σ Q (.ref (s.heap.objs.size + 1)) { s with heap := sortedAll s.heap vs out } := by
  obtain ⟨e, he⟩ := sortedAll_at s.heap vs out
  refine ⟨.ref (s.heap.objs.size + 1), _, I.laid (t' := s.toks) (o := .lst (vI ns')) (fun b u => sortedAll_old) (Nat.le_succ _) ?_, rfl, q _ (I.hok.fresh (Nat.le_succ _))⟩
  refine ⟨by rw [vI_len]; exact hz, out.toList, e, vals_ints hi, ?_⟩
  rw [he]
theorem call_sortI (hK : X.K = K := by rfl) : CallR X (.builtin "sorted") (fun xs H Q => ∃ a ns, xs = [.ref a] ∧ SqL K H a (vI ns) ∧ ns.length < 64 ∧ ∀ l ns', ns'.Perm ns → ns'.Pairwise (· ≤ ·) → H l = none → Q (.ref l) (upd H l (.lst (vI ns')))) := by
  subst hK
  intro pins s σ H xs us Q I rv h
  obtain ⟨a, ns, rfl, hq, h64, q⟩ := h
  obtain ⟨u, rfl, ru⟩ := rv.one
  cases ru
  obtain ⟨its, r, pl, hl⟩ := I.list hq
  have hi : IntsAre its ns := intsAre_of r
  have hsz : sizeLine = 16777216 := sizeLine_eq
  refine sorted_ints pl.isList hi (by rw [hi.length]; exact h64) fun out ns' a1 a2 a3 => ?_
  exact sorted_put I a1 (by have := a2.length_eq; omega) fun l hl => q l ns' a2 a3 hl
def tSortR (K : PySem.W.Frag) (tl : TE) : TE := fun σ H Q => tl σ H fun x H1 => ∃ a ns, x = .ref a ∧ SqL K H1 a (vI ns) ∧ ns.length < 64 ∧ ∀ l ns', ns'.Perm ns → ns'.Pairwise (· ≥ ·) → H1 l = none → Q (.ref l) (upd H1 l (.lst (vI ns')))
theorem pe_sortR {e : Expr} {tl : TE} {p pos kp cp : Pos} {j : Nat} (hg : Gl X "sorted") (hm : X.mg "sorted" = none) (hl : PE X e tl) (hK : X.K = K := by rfl)
    (he : backTo pos (starEach [e] X.env) = (false, eval e X.env) :: backTo pos (starEach [] X.env) := by rfl)
    (hplain : (backTo pos (starEach [e] X.env)).any (·.1) = false := by rfl) : PE X (.Call (.Name "sorted" p) [e] [⟨some "reverse", .Constant (.bool true) j cp, kp⟩] pos) (tSortR K tl) := by
  subst hK
  intro pins s σ H Q I h
  refine wpAny_Call_Name_kw (ld_blt I hg hm bt_sorted ?_ (by decide) (by decide))
  refine callWith_kw ?_ he hplain rfl rfl
  rw [he]
  refine Calls.spliced_cons (thn (hl pins s σ H _ I h) fun u s1 ⟨x, H1, I1, r1, q1⟩ => Calls.spliced_nil ?_)
  refine kws_cons (Constant_bool (kws_nil ?_))
  obtain ⟨a, ns, rfl, hq, h64, q⟩ := q1
  cases r1
  obtain ⟨its, r, pl, hz⟩ := I1.list hq
  have hi : IntsAre its ns := intsAre_of r
  have hsz : sizeLine = 16777216 := sizeLine_eq
  show wpAny _ _ (call (.builtin "sorted") [.ref a] [(Str.ofString "reverse", .bool true)]) _ _ _
  refine sorted_ints_rev pl.isList hi (by rw [hi.length]; exact h64) fun out ns' a1 a2 a3 => ?_
  exact sorted_put I1 a1 (by have := a2.length_eq; omega) fun l hl => q l ns' a2 (by unfold Ordered at a3; rw [if_pos rfl] at a3; exact a3) hl
end
end L2
set_option maxRecDepth 100000
set_option maxHeartbeats 4000000
namespace Stab
open PySem PyProof.Rows
def V (xs : Array Keyed) (i : Nat) : Int := match xs[i]? with
  | some p => numOf p.2
  | none => 0
theorem V_congr {xs ys : Array Keyed} {i j : Nat} (h : xs[i]? = ys[j]?) : V xs i = V ys j := by unfold V; rw [h]
def Lx (xs : Array Keyed) (i j : Nat) : Prop := K xs i < K xs j ∨ (K xs i = K xs j ∧ V xs i < V xs j)
def St (xs : Array Keyed) (k : Nat) : Prop := ∀ i j, i < j → j < k → Lx xs i j
def De (xs : Array Keyed) (k : Nat) : Prop := ∀ i j, i < j → j < k → Lx xs j i
def Inc (xs : Array Keyed) : Prop := ∀ i j, i < j → j < xs.size → V xs i < V xs j
structure SB (a₀ : Array Keyed) (st : SortSt) (k : Nat) : Prop where
  base : SBase a₀ st
  tail : ∀ j, k ≤ j → (arrOf st)[j]? = a₀[j]?
  low : ∀ i, i < k → ∃ i', i' < k ∧ (arrOf st)[i]? = a₀[i']?
section
variable {a₀ : Array Keyed} {st : SortSt} {k : Nat}
theorem SB.up (h : SB a₀ st k) {k' : Nat} (hk : k ≤ k') : SB a₀ st k' :=
  ⟨h.base, fun j hj => h.tail j (Nat.le_trans hk hj), fun i hi => by
    by_cases hik : i < k
    · obtain ⟨i', h1, h2⟩ := h.low i hik
      exact ⟨i', Nat.lt_of_lt_of_le h1 hk, h2⟩
    · exact ⟨i, hi, h.tail i (Nat.le_of_not_lt hik)⟩⟩
theorem SB.vlt (h : SB a₀ st k) (inc : Inc a₀) {i j : Nat} (hi : i < k) (hj : k ≤ j) (hs : j < a₀.size) : V (arrOf st) i < V (arrOf st) j := by
  obtain ⟨i', h1, h2⟩ := h.low i hi
  rw [V_congr h2, V_congr (h.tail j hj)]
  exact inc i' j (Nat.lt_of_lt_of_le h1 hj) hs
theorem SB.mir (h : SB a₀ st k) (hk : k ≤ a₀.size) {i j : Nat} (hj : j ≤ k) : SB a₀ (setArr st (mirror (arrOf st) i j ((j - i) / 2))) k := by
  have hz : j ≤ (arrOf st).size := by rw [h.base.size]; omega
  refine ⟨h.base.setArr (mirror_perm _ _ _ _), fun x hx => ?_, fun x hx => ?_⟩
  · show (mirror (arrOf st) i j ((j - i) / 2))[x]? = _
    rw [getElem?_mirror_all hz, if_neg (by omega)]
    exact h.tail x hx
  · show ∃ i', i' < k ∧ (mirror (arrOf st) i j ((j - i) / 2))[x]? = _
    rw [getElem?_mirror_all hz]
    by_cases hc : i ≤ x ∧ x < j
    · rw [if_pos hc]
      exact h.low _ (by omega)
    · rw [if_neg hc]
      exact h.low _ hx
theorem SB.bub (h : SB a₀ st k) (hk : k < a₀.size) {d : Nat} (hd : d ≤ k) : SB a₀ (setArr st (bubble (arrOf st) k d)) (k + 1) := by
  have hz : k < (arrOf st).size := by rw [h.base.size]; exact hk
  have h' := h.up (Nat.le_succ k)
  refine ⟨h.base.setArr (bubble_perm _ _ _), fun x hx => ?_, fun x hx => ?_⟩
  · show (bubble (arrOf st) k d)[x]? = _
    rw [getElem?_bubble hz d hd, if_neg (by omega), if_neg (by omega)]
    exact h'.tail x hx
  · show ∃ i', i' < k + 1 ∧ (bubble (arrOf st) k d)[x]? = _
    rw [getElem?_bubble hz d hd]
    by_cases h1 : x = k - d
    · rw [if_pos h1]; exact h'.low _ (Nat.lt_succ_self k)
    · rw [if_neg h1]
      by_cases h2 : k - d < x ∧ x ≤ k
      · rw [if_pos h2]; exact h'.low _ (by omega)
      · rw [if_neg h2]; exact h'.low _ hx
end
theorem V_mirror {xs : Array Keyed} {i j : Nat} (hj : j ≤ xs.size) (k : Nat) : V (mirror xs i j ((j - i) / 2)) k = if i ≤ k ∧ k < j then V xs (i + j - 1 - k) else V xs k := by
  have e := getElem?_mirror_all (i := i) hj k
  by_cases h1 : i ≤ k ∧ k < j
  · rw [if_pos h1] at e ⊢; exact V_congr e
  · rw [if_neg h1] at e ⊢; exact V_congr e
theorem V_bubble {xs : Array Keyed} {src d : Nat} (hs : src < xs.size) (hd : d ≤ src) (k : Nat) :
    V (bubble xs src d) k = if k = src - d then V xs src else if src - d < k ∧ k ≤ src then V xs (k - 1) else V xs k := by
  have e := getElem?_bubble hs d hd k
  by_cases h1 : k = src - d
  · rw [if_pos h1] at e ⊢; exact V_congr e
  · rw [if_neg h1] at e ⊢
    by_cases h2 : src - d < k ∧ k ≤ src
    · rw [if_pos h2] at e ⊢; exact V_congr e
    · rw [if_neg h2] at e ⊢; exact V_congr e
structure Dr (xs : Array Keyed) (x neq : Nat) : Prop where
  le : neq + 1 ≤ x
  fst : ∀ i j, i < j → j < x - (neq + 1) → Lx xs j i
  snd : ∀ i j, i < x - (neq + 1) → x - (neq + 1) ≤ j → j < x → K xs j < K xs i
  run : ∀ i j, x - (neq + 1) ≤ i → i < j → j < x → K xs i = K xs j ∧ V xs i < V xs j
section
variable {xs : Array Keyed} {x neq : Nat}
theorem Dr.rev (h : Dr xs x neq) (hx : x ≤ xs.size) : De (mirror xs (x - (neq + 1)) x ((x - (x - (neq + 1))) / 2)) x := by
  intro i j hij hj
  obtain ⟨h1, h2, h3, h4⟩ := h
  unfold Lx
  rw [K_mirror hx, K_mirror hx, V_mirror hx, V_mirror hx]
  by_cases ci : x - (neq + 1) ≤ i
  · rw [if_pos (by omega), if_pos (by omega), if_pos (by omega), if_pos (by omega)]
    obtain ⟨e1, e2⟩ := h4 (x - (neq + 1) + x - 1 - j) (x - (neq + 1) + x - 1 - i) (by omega) (by omega) (by omega)
    exact .inr ⟨e1, e2⟩
  · rw [if_neg (c := _ ≤ i ∧ _) (by omega), if_neg (c := _ ≤ i ∧ _) (by omega)]
    by_cases cj : x - (neq + 1) ≤ j
    · rw [if_pos (by omega), if_pos (by omega)]
      exact .inl (h3 i _ (by omega) (by omega) (by omega))
    · rw [if_neg (by omega), if_neg (by omega)]
      exact h2 i j hij (by omega)
theorem Dr.one (h : Dr xs x 0) : De xs x := by
  intro i j hij hj
  obtain ⟨h1, h2, h3, h4⟩ := h
  by_cases cj : j < x - (0 + 1)
  · exact h2 i j hij cj
  · exact .inl (h3 i j (by omega) (by omega) hj)
theorem De.next (h : De xs x) (h1 : 1 ≤ x) (hl : K xs x < K xs (x - 1)) : Dr xs (x + 1) 0 := by
  refine ⟨by omega, fun i j hij hj => h i j hij (by omega), fun i j hi hj1 hj2 => ?_, fun i j hi hij hj => by omega⟩
  have ej : j = x := by omega
  subst ej
  by_cases hi' : i = j - 1
  · rw [hi']; exact hl
  · have := h i (j - 1) (by omega) (by omega)
    unfold Lx at this
    omega
theorem Dr.eq (h : Dr xs x neq) (he : K xs x = K xs (x - 1)) (hv : ∀ i, i < x → V xs i < V xs x) : Dr xs (x + 1) (neq + 1) := by
  obtain ⟨h1, h2, h3, h4⟩ := h
  have ep : x + 1 - (neq + 1 + 1) = x - (neq + 1) := by omega
  refine ⟨by omega, fun i j hij hj => h2 i j hij (by omega), fun i j hi hj1 hj2 => ?_, fun i j hi hij hj => ?_⟩
  · by_cases hj : j < x
    · exact h3 i j (by omega) (by omega) hj
    · have ej : j = x := by omega
      rw [ej, he]
      exact h3 i (x - 1) (by omega) (by omega) (by omega)
  · by_cases hjx : j < x
    · exact h4 i j (by omega) hij hjx
    · have ej : j = x := by omega
      subst ej
      refine ⟨?_, hv i hij⟩
      rw [he]
      by_cases hi' : i = j - 1
      · rw [hi']
      · exact (h4 i (j - 1) (by omega) (by omega) (by omega)).1
theorem St.all (h : St xs x) (hk : ¬ K xs 0 < K xs (x - 1)) : ∀ i, i < x → K xs i = K xs (x - 1) ∧ (∀ j, i < j → j < x → V xs i < V xs j) := by
  have ge : ∀ i, i < x → K xs i = K xs (x - 1) := fun i hi => by
    have a1 : K xs 0 ≤ K xs i := by
      by_cases h0 : i = 0
      · rw [h0]; exact Int.le_refl _
      · have := h 0 i (by omega) hi; unfold Lx at this; omega
    have a2 : K xs i ≤ K xs (x - 1) := by
      by_cases h0 : i = x - 1
      · rw [h0]; exact Int.le_refl _
      · have := h i (x - 1) (by omega) (by omega); unfold Lx at this; omega
    omega
  refine fun i hi => ⟨ge i hi, fun j hij hj => ?_⟩
  have := h i j hij hj
  have e1 := ge i hi
  have e2 := ge j hj
  unfold Lx at this
  omega
end
section
variable {prog : Program} {w : World} {A : Around} {E : Value → Shared → Prop} {s : Shared} {a₀ : Array Keyed}
theorem st_asc {st : SortSt} {a nrem : Nat} {Q : AscSt → SortSt → Prop} (h0 : IntKeys a₀) (inc : Inc a₀) (hn : nrem ≤ a₀.size) (ha : 1 ≤ a) (han : a ≤ nrem) (hB : SB a₀ st a)
    (hs : St (arrOf st) a) (h : ∀ n, a ≤ n → n ≤ nrem → St (arrOf st) n → (n = nrem ∨ K (arrOf st) n < K (arrOf st) (n - 1)) → Q (none, n) st) :
    wpS (model prog w) A E s (ascLoop a nrem) Q st := by
  unfold ascLoop
  refine wpS_forRange (I := fun x c st' => st' = st ∧ c = (none, x) ∧ St (arrOf st) x) ?step ?fin ⟨rfl, rfl, hs⟩
  case fin =>
    rintro c st' ⟨rfl, rfl, q⟩
    have e : max a nrem = nrem := by omega
    rw [e] at q ⊢
    exact h nrem han (Nat.le_refl _) q (.inl rfl)
  case step =>
    rintro x c st' hax hxn ⟨rfl, rfl, q⟩
    refine wpS_bind (wpS_ltK hB.base h0 (by omega) (by omega) ?_)
    by_cases hl : K (arrOf st') x < K (arrOf st') (x - 1)
    · simp only [hl, decide_true, if_true]
      exact wpS_pure (h x hax (by omega) q (.inr hl))
    · simp only [hl, decide_false, Bool.false_eq_true, if_false]
      refine wpS_pure ⟨rfl, rfl, fun i j hij hj => ?_⟩
      by_cases hjx : j < x
      · exact q i j hij hjx
      · have ej : j = x := by omega
        subst ej
        have v := (hB.up hax).vlt inc hij (Nat.le_refl j) (by omega)
        have kk : K (arrOf st') i ≤ K (arrOf st') (j - 1) := by
          by_cases hi : i = j - 1
          · rw [hi]; exact Int.le_refl _
          · have := q i (j - 1) (by omega) (by omega)
            unfold Lx at this
            omega
        unfold Lx
        omega
theorem st_tail3 {st : SortSt} {n nrem : Nat} {Q : Option Nat → SortSt → Prop} (h0 : IntKeys a₀) (inc : Inc a₀) (hn : nrem ≤ a₀.size) (h1 : 1 ≤ n) (hnn : n ≤ nrem) (hB : SB a₀ st n)
    (hs : De (arrOf st) n) (h : ∀ m st', SB a₀ st' m → 1 ≤ m → m ≤ nrem → St (arrOf st') m → Q (some m) st') :
    wpS (model prog w) A E s (tail3 n nrem) Q st := by
  unfold tail3
  have hz : n ≤ (arrOf st).size := by rw [hB.base.size]; omega
  refine wpS_bind (wpS_reverse ?_)
  have hB' := hB.mir (by omega) (i := 0) (j := n) (Nat.le_refl n)
  refine wpS_bind (st_asc h0 inc hn h1 hnn hB' ?_ fun m a1 a2 a3 _ => wpS_pure (h m _ (hB'.up a1) (by omega) a2 a3))
  intro i j hij hj
  show Lx (mirror (arrOf st) 0 n ((n - 0) / 2)) i j
  unfold Lx
  rw [K_mirror hz, K_mirror hz, V_mirror hz, V_mirror hz, if_pos (by omega), if_pos (by omega), if_pos (by omega), if_pos (by omega)]
  exact hs _ _ (by omega) (by omega)
theorem st_desc {st : SortSt} {n nrem : Nat} {Q : DescSt → SortSt → Prop} (h0 : IntKeys a₀) (inc : Inc a₀) (hn : nrem ≤ a₀.size) (hnn : n ≤ nrem) (hB : SB a₀ st n)
    (hs : Dr (arrOf st) n 0) (h : ∀ m neq st', SB a₀ st' m → n ≤ m → m ≤ nrem → Dr (arrOf st') m neq → Q (none, m, neq) st') :
    wpS (model prog w) A E s (descLoop n nrem) Q st := by
  unfold descLoop
  refine wpS_forRange (I := fun x c st' => ∃ q, c = (none, x, q) ∧ SB a₀ st' x ∧ Dr (arrOf st') x q) ?step ?fin ⟨0, rfl, hB, hs⟩
  case fin =>
    rintro c st' ⟨q, rfl, b, d⟩
    have e : max n nrem = nrem := by omega
    rw [e] at b d ⊢
    exact h nrem q st' b hnn (Nat.le_refl _) d
  case step =>
    rintro x c st' hax hxn ⟨q, rfl, b, d⟩
    have x1 := d.le
    have hz : x ≤ (arrOf st').size := by rw [b.base.size]; omega
    dsimp only
    refine wpS_bind (wpS_ltK b.base h0 (by omega) (by omega) ?_)
    by_cases hl : K (arrOf st') x < K (arrOf st') (x - 1)
    · simp only [hl, decide_true, if_true]
      by_cases hq : q > 0
      · rw [if_pos hq]
        refine wpS_bind (wpS_reverse (wpS_pure ⟨0, rfl, (b.mir (by omega) (Nat.le_refl x)).up (Nat.le_succ x), De.next (d.rev hz) (by omega) ?_⟩))
        show K (mirror (arrOf st') _ _ _) _ < K (mirror (arrOf st') _ _ _) _
        rw [K_mirror hz, K_mirror hz, if_neg (by omega), if_pos (by omega)]
        have := (d.run (x - (q + 1) + x - 1 - (x - 1)) (x - 1) (by omega) (by omega) (by omega)).1
        rw [this]
        exact hl
      · rw [if_neg hq]
        have eq : q = 0 := by omega
        subst eq
        exact wpS_pure ⟨0, rfl, b.up (Nat.le_succ x), d.one.next (by omega) hl⟩
    · simp only [hl, decide_false, Bool.false_eq_true, if_false]
      refine wpS_bind (wpS_ltK b.base h0 (by omega) (by omega) ?_)
      by_cases hg : K (arrOf st') (x - 1) < K (arrOf st') x
      · simp only [hg, decide_true, if_true]
        exact wpS_pure (h x q st' b hax (by omega) d)
      · simp only [hg, decide_false, Bool.false_eq_true, if_false]
        exact wpS_pure ⟨q + 1, rfl, b.up (Nat.le_succ x), d.eq (by omega) fun i hi => b.vlt inc hi (Nat.le_refl x) (by omega)⟩
theorem st_descPart {st : SortSt} {n nrem : Nat} {Q : Option Nat → SortSt → Prop} (h0 : IntKeys a₀) (inc : Inc a₀) (hn : nrem ≤ a₀.size) (hnn : n + 1 ≤ nrem) (hB : SB a₀ st (n + 1))
    (hs : Dr (arrOf st) (n + 1) 0) (h : ∀ m st', SB a₀ st' m → 1 ≤ m → m ≤ nrem → St (arrOf st') m → Q (some m) st') :
    wpS (model prog w) A E s (descPart n nrem) Q st := by
  unfold descPart
  refine wpS_bind (wpS_lift (wpAny_rule ⟨rfl, ?_⟩))
  refine wpS_bind (st_desc h0 inc hn hnn hB hs fun m q st' b m1 m2 d => ?_)
  dsimp only
  have hz : m ≤ (arrOf st').size := by rw [b.base.size]; omega
  by_cases hq : q > 0
  · rw [if_pos hq]
    exact wpS_bind (wpS_reverse (st_tail3 h0 inc hn (by omega) m2 (b.mir (by omega) (Nat.le_refl m)) (d.rev hz) h))
  · rw [if_neg hq]
    have eq : q = 0 := by omega
    subst eq
    exact st_tail3 h0 inc hn (by omega) m2 b d.one h
theorem st_countRun {st : SortSt} {nrem : Nat} {Q : Option Nat → SortSt → Prop} (h0 : IntKeys a₀) (inc : Inc a₀) (hn : nrem ≤ a₀.size) (h1 : 1 ≤ nrem) (hB : SB a₀ st 0)
    (h : ∀ m st', SB a₀ st' m → 1 ≤ m → m ≤ nrem → St (arrOf st') m → Q (some m) st') :
    wpS (model prog w) A E s (countRun' 0 nrem) Q st := by
  rw [countRun0_eq]
  have hB1 : SB a₀ st 1 := hB.up (Nat.zero_le 1)
  refine wpS_bind (st_asc h0 inc hn (Nat.le_refl 1) h1 hB1 (fun i j hij hj => by omega) fun n n1 n2 q hor => ?_)
  dsimp only
  have bn := hB1.up n1
  have hz : n ≤ (arrOf st).size := by rw [hB.base.size]; omega
  by_cases e : n = nrem
  · rw [if_pos (by simpa using e)]
    exact wpS_pure (h n st bn n1 n2 q)
  · rw [if_neg (by simpa using e)]
    have hl := hor.resolve_left e
    by_cases g : n > 1
    · rw [if_pos g]
      refine wpS_bind (wpS_ltK hB.base h0 (by omega) (by omega) ?_)
      by_cases r : K (arrOf st) 0 < K (arrOf st) (n - 1)
      · simp only [r, decide_true, if_true]
        exact wpS_pure (h n st bn n1 n2 q)
      · simp only [r, decide_false, Bool.false_eq_true, if_false]
        have al := q.all r
        have hm := bn.mir (by omega) (i := 0) (j := n) (Nat.le_refl n)
        refine wpS_bind (wpS_reverse (st_descPart h0 inc hn (by omega) (hm.up (Nat.le_succ n)) (De.next ?_ n1 ?_) h))
        · intro i j hij hj
          show Lx (mirror (arrOf st) _ _ _) j i
          unfold Lx
          rw [K_mirror hz, K_mirror hz, V_mirror hz, V_mirror hz, if_pos (by omega), if_pos (by omega), if_pos (by omega), if_pos (by omega)]
          refine .inr ⟨?_, (al _ (by omega)).2 _ (by omega) (by omega)⟩
          rw [(al _ (by omega)).1, (al (0 + n - 1 - i) (by omega)).1]
        · show K (mirror (arrOf st) _ _ _) _ < K (mirror (arrOf st) _ _ _) _
          rw [K_mirror hz, K_mirror hz, if_neg (by omega), if_pos (by omega), (al (0 + n - 1 - (n - 1)) (by omega)).1]
          exact hl
    · rw [if_neg g]
      have e1 : n = 1 := by omega
      subst e1
      exact st_descPart h0 inc hn (by omega) (bn.up (Nat.le_succ 1)) (De.next (fun i j hij hj => by omega) (Nat.le_refl 1) hl) h
theorem st_binary {st : SortSt} {n ok : Nat} {Q : Bool → SortSt → Prop} (h0 : IntKeys a₀) (inc : Inc a₀) (hn : n ≤ a₀.size) (ok1 : 1 ≤ ok) (hok : ok ≤ n) (hB : SB a₀ st ok) (hs : St (arrOf st) ok)
    (h : ∀ st', SB a₀ st' n → St (arrOf st') n → Q true st') : wpS (model prog w) A E s (binarySort' 0 n ok) Q st := by
  rw [binarySort'_eq]
  simp only [Nat.zero_add]
  have em : max ok 1 = ok := by omega
  rw [em]
  refine wpS_bind (wpS_mono (wpS_forRange (I := fun k c st' => c = (none, ()) ∧ SB a₀ st' k ∧ St (arrOf st') k) (Q := fun c st' => c = (none, ()) ∧ SB a₀ st' n ∧ St (arrOf st') n) ?step ?fin ⟨rfl, hB, hs⟩) ?post)
  case post =>
    rintro c st' ⟨rfl, b, q⟩
    exact wpS_pure (h st' b q)
  case fin =>
    rintro c st' ⟨hc, b, q⟩
    have e : max ok n = n := by omega
    rw [e] at b q
    exact ⟨hc, b, q⟩
  case step =>
    rintro k c st' hak hkn ⟨rfl, b, q⟩
    have hk : k < a₀.size := by omega
    have le : ∀ i j, i ≤ j → j < k → K (arrOf st') i ≤ K (arrOf st') j := fun i j hij hj => by
      by_cases e : i = j
      · rw [e]; exact Int.le_refl _
      · have := q i j (by omega) hj
        unfold Lx at this
        omega
    refine wpS_bind (wpS_mono (wpS_forRange (I := fun x c st2 => st2 = st' ∧ ∃ l r, c = (none, l, r) ∧ l ≤ r ∧ r ≤ k ∧ r - l ≤ k - x ∧
        (∀ i, i < l → K (arrOf st') i ≤ K (arrOf st') k) ∧ (∀ i, r ≤ i → i < k → K (arrOf st') k < K (arrOf st') i))
      (Q := fun c st2 => st2 = st' ∧ ∃ l, c = (none, l, l) ∧ l ≤ k ∧ (∀ i, i < l → K (arrOf st') i ≤ K (arrOf st') k) ∧ (∀ i, l ≤ i → i < k → K (arrOf st') k < K (arrOf st') i)) ?istep ?ifin
      ⟨rfl, 0, k, rfl, by omega, by omega, by omega, fun i hi => by omega, fun i h1 h2 => by omega⟩) ?ipost)
    case ifin =>
      rintro c st2 ⟨rfl, l, r, rfl, hlr, hrk, hm, lo, hi⟩
      have e : l = r := by omega
      subst e
      exact ⟨rfl, l, rfl, hrk, lo, hi⟩
    case istep =>
      rintro x c st2 _ hxk ⟨rfl, l, r, rfl, hlr, hrk, hm, lo, hi⟩
      dsimp only
      by_cases g : l ≥ r
      · rw [if_pos g]
        have e : l = r := by omega
        subst e
        exact wpS_pure ⟨rfl, l, rfl, hrk, lo, hi⟩
      · rw [if_neg g]
        refine wpS_bind (wpS_ltK b.base h0 hk (by omega) ?_)
        by_cases hl : K (arrOf st2) k < K (arrOf st2) ((l + r) / 2)
        · simp only [hl, decide_true, if_true]
          exact wpS_pure ⟨rfl, l, (l + r) / 2, rfl, by omega, by omega, by omega, lo, fun i h1 h2 => Int.lt_of_lt_of_le hl (le _ _ h1 h2)⟩
        · simp only [hl, decide_false, Bool.false_eq_true, if_false]
          exact wpS_pure ⟨rfl, (l + r) / 2 + 1, r, rfl, by omega, by omega, by omega, fun i h1 => Int.le_trans (le i ((l + r) / 2) (by omega) (by omega)) (Int.not_lt.mp hl), hi⟩
    case ipost =>
      rintro c st2 ⟨rfl, l, rfl, hlk, lo, hi⟩
      show wpS _ _ _ _ (do moveDown' k l; pure (ForInStep.yield (none, ()))) _ _
      rw [moveDown'_eq]
      refine wpS_bind (wpS_modify (wpS_pure ⟨rfl, b.bub hk (by omega), ?_⟩))
      have hz : k < (arrOf st2).size := by rw [b.base.size]; exact hk
      intro i j hij hj
      show Lx (bubble (arrOf st2) k (k - l)) i j
      have e : k - (k - l) = l := by omega
      have vk : ∀ x, x < k → V (arrOf st2) x < V (arrOf st2) k := fun x hx => b.vlt inc hx (Nat.le_refl k) hk
      unfold Lx
      rw [K_bubble hz (by omega), K_bubble hz (by omega), V_bubble hz (by omega), V_bubble hz (by omega), e]
      by_cases c1 : i = l
      · have d1 : ¬ j = l := by omega
        have d2 : l < j ∧ j ≤ k := by omega
        rw [if_pos c1, if_pos c1, if_neg d1, if_neg d1, if_pos d2, if_pos d2]
        exact .inl (hi _ (by omega) (by omega))
      · rw [if_neg c1, if_neg c1]
        by_cases c2 : l < i ∧ i ≤ k
        · have d1 : ¬ j = l := by omega
          have d2 : l < j ∧ j ≤ k := by omega
          rw [if_pos c2, if_pos c2, if_neg d1, if_neg d1, if_pos d2, if_pos d2]
          exact q _ _ (by omega) (by omega)
        · rw [if_neg c2, if_neg c2]
          by_cases c3 : j = l
          · rw [if_pos c3, if_pos c3]
            have k1 := lo i (by omega)
            have k2 := vk i (by omega)
            omega
          · rw [if_neg c3, if_neg c3]
            by_cases c4 : l < j ∧ j ≤ k
            · rw [if_pos c4, if_pos c4]
              exact q _ _ (by omega) (by omega)
            · rw [if_neg c4, if_neg c4]
              exact q _ _ hij (by omega)
theorem st_sortRuns {st : SortSt} {Q : Unit → SortSt → Prop} (h0 : IntKeys a₀) (inc : Inc a₀) (hB : SBase a₀ st) (same : arrOf st = a₀) (h2 : 2 ≤ a₀.size) (h64 : a₀.size < 64)
    (h : ∀ st', (arrOf st').Perm a₀ → failedOf st' = none → St (arrOf st') a₀.size → Q () st') : wpS (model prog w) A E s sortRuns' Q st := by
  rw [sortRuns'_eq]
  refine wpS_bind (wpS_get ?_)
  dsimp only
  have hmr : minRun' a₀.size a₀.size 0 = a₀.size := by
    obtain ⟨f, hf⟩ : ∃ f, a₀.size = f + 1 := ⟨a₀.size - 1, by omega⟩
    have e : minRun' (f + 1) a₀.size 0 = a₀.size := by rw [minRun'_succ, if_pos h64]; rfl
    rwa [← hf] at e
  have b0 : SB a₀ st 0 := ⟨hB, fun j _ => by rw [same], fun i hi => by omega⟩
  have fini : ∀ st', SB a₀ st' a₀.size → St (arrOf st') a₀.size →
      (arrOf (setPending st' ((pendingOf st').push (0, a₀.size, 0)))).Perm a₀ ∧ failedOf (setPending st' ((pendingOf st').push (0, a₀.size, 0))) = none ∧ (pendingOf (setPending st' ((pendingOf st').push (0, a₀.size, 0)))).size = 1 ∧ St (arrOf (setPending st' ((pendingOf st').push (0, a₀.size, 0)))) a₀.size := fun st' b q =>
    ⟨b.base.perm, b.base.failed, by show ((pendingOf st').push _).size = 1; rw [b.base.pend]; rfl, q⟩
  simp only [hB.size, hmr]
  refine wpS_bind (wpS_mono (wpS_forRange
    (I := fun x c st' => (x = 0 ∧ c = (none, 0) ∧ SB a₀ st' 0) ∨ (1 ≤ x ∧ c = (none, a₀.size) ∧ (arrOf st').Perm a₀ ∧ failedOf st' = none ∧ (pendingOf st').size = 1 ∧ St (arrOf st') a₀.size))
    (Q := fun c st' => c = (none, a₀.size) ∧ (arrOf st').Perm a₀ ∧ failedOf st' = none ∧ (pendingOf st').size = 1 ∧ St (arrOf st') a₀.size) ?step ?fin (.inl ⟨rfl, rfl, b0⟩)) ?post)
  case fin =>
    rintro c st' (⟨hx, _, _⟩ | ⟨_, hc, hD⟩)
    · omega
    · exact ⟨hc, hD⟩
  case step =>
    rintro x c st' _ hx (⟨rfl, rfl, b⟩ | ⟨hx1, rfl, hD⟩)
    · dsimp only
      rw [if_neg (by omega)]
      simp only [Nat.sub_zero, Nat.min_self, Nat.zero_add]
      refine wpS_bind (st_countRun h0 inc (Nat.le_refl _) (by omega) b fun m st2 b2 m1 m2 q2 => ?_)
      dsimp only
      by_cases hlt : m < a₀.size
      · rw [if_pos hlt]
        refine wpS_bind (wpS_lift (wpAny_rule ⟨rfl, ?_⟩))
        refine wpS_bind (st_binary h0 inc (Nat.le_refl _) m1 m2 b2 q2 fun st3 b3 q3 => ?_)
        simp only [Bool.not_true, Bool.false_eq_true, if_false]
        refine wpS_bind (wpS_get ?_)
        have hb : (pendingOf st3).back? = none := by rw [b3.base.pend]; rfl
        rw [hb]
        dsimp only
        exact wpS_bind (wpS_modify (wpS_pure (.inr ⟨by omega, rfl, fini _ b3 q3⟩)))
      · rw [if_neg hlt]
        have hm : m = a₀.size := by omega
        subst hm
        refine wpS_bind (wpS_get ?_)
        have hb : (pendingOf st2).back? = none := by rw [b2.base.pend]; rfl
        rw [hb]
        dsimp only
        exact wpS_bind (wpS_modify (wpS_pure (.inr ⟨by omega, rfl, fini _ b2 q2⟩)))
    · dsimp only
      rw [if_pos (Nat.le_refl _)]
      exact wpS_pure ⟨rfl, hD⟩
  case post =>
    rintro c st' ⟨rfl, hD⟩
    dsimp only
    refine wpS_bind (wpS_mono (wpS_forRange (I := fun _ c st2 => st2 = st' ∧ c = (none, ())) (Q := fun c st2 => st2 = st' ∧ c = (none, ())) ?_ (fun _ _ hh => hh) ⟨rfl, rfl⟩) ?_)
    · rintro x c st2 _ _ ⟨rfl, rfl⟩
      refine wpS_bind (wpS_get ?_)
      rw [if_pos (by rw [hD.2.2.1]; exact Nat.le_refl 1)]
      exact wpS_pure ⟨rfl, rfl⟩
    · rintro c st2 ⟨rfl, rfl⟩
      exact wpS_pure (h _ hD.1 hD.2.1 hD.2.2.2)
end
end Stab
set_option Elab.async false
set_option linter.all false
set_option maxRecDepth 100000
namespace L2
open PySem PySem.Spec PyProof.Rows
def cdO (c : Addr) (q : Str) : HO := .ext fun h => h.CodeRec (.ref c) q
def Tb (P : Addr) (q : Str) (H : Hp) : Prop := ∃ ps : Array Value, H P = some (.tbl ps) ∧ TriplesOk ps.toList ∧ ∀ (pos : Pos) (cv : Value), codeAmong pos ps.toList = some cv → ∃ c, cv = .ref c ∧ H c = some (cdO c q)
def SameT (H H' : Hp) : Prop := ∀ b o, H b = some o → (∀ ps, o ≠ .tbl ps) → H' b = some o
theorem Same.toT {H H' : Hp} (s : Same H H') : SameT H H' := fun b o h _ => s b o h
theorem SameT.trans {H H1 H2 : Hp} (a : SameT H H1) (b : SameT H1 H2) : SameT H H2 := fun c o h n => b c o (a c o h n) n
theorem Tb.same {P : Addr} {q : Str} {H H' : Hp} (t : Tb P q H) (s : Same H H') : Tb P q H' := by
  obtain ⟨ps, h1, h2, h3⟩ := t
  refine ⟨ps, s _ _ h1, h2, fun pos cv e => ?_⟩
  obtain ⟨c, e1, e2⟩ := h3 pos cv e
  exact ⟨c, e1, s _ _ e2⟩
theorem SameT.lst {H H' : Hp} (s : SameT H H') {a : Addr} {xs : List V} (h : H a = some (.lst xs)) : H' a = some (.lst xs) := s a _ h fun _ z => HO.noConfusion z
theorem SameT.tup {H H' : Hp} (s : SameT H H') {a : Addr} {xs : List V} (h : H a = some (.tup xs)) : H' a = some (.tup xs) := s a _ h fun _ z => HO.noConfusion z
theorem SameT.ext {H H' : Hp} (s : SameT H H') {a : Addr} {φ : Heap → Prop} (h : H a = some (.ext φ)) : H' a = some (.ext φ) := s a _ h fun _ z => HO.noConfusion z
theorem SameT.seq {K : PySem.W.Frag} {H H' : Hp} {a : Addr} {xs : List V} (s : SameT H H') (h : SqL K H a xs) : SqL K H' a xs := by
  rcases h with (h | ⟨o, h⟩) | h
  · exact .inl (.inl (s.lst h))
  · exact .inl (.inr ⟨o, s a _ h fun _ z => HO.noConfusion z⟩)
  · exact .inr h
theorem among_snoc {pos pos' : Pos} {c cv : Value} (l : List Value) (h : TriplesOk l) : codeAmong pos' (l ++ [rawInt pos.line, rawInt pos.col, c]) = some cv → codeAmong pos' l = some cv ∨ cv = c := by
  fun_induction TriplesOk l with
  | case1 =>
    intro e
    simp only [List.nil_append, codeAmong, rawInt] at e
    split at e
    · exact .inr (Option.some.inj e).symm
    · cases e
  | case2 a t b u x rest ih =>
    intro e
    simp only [List.cons_append, codeAmong] at e ⊢
    split at e
    · rename_i hc
      rw [if_pos hc]
      exact .inl e
    · rename_i hc
      rw [if_neg hc]
      exact ih h e
  | case3 l h1 h2 => exact h.elim
theorem cdO_ok {P : Program} {w : World} {H : Hp} {h : Heap} {c : Addr} {q : Str} (r : h.CodeRec (.ref c) q) : ObjOk P w H h c (cdO c q) := by
  obtain ⟨c', o, vs, t, e, g, d, v⟩ := id r
  cases e
  refine ⟨r, ⟨o, g⟩, fun h1 h2 r1 k => ?_⟩
  obtain ⟨c2, o2, vs2, t2, e2, g2, d2, v2⟩ := r1
  cases e2
  exact ⟨c, o2, vs2, t2, rfl, k _ g2, d2, v2⟩
section
variable {X : Cx} {pins : List (Addr × Obj)} {σ : St} {H : Hp} {s : Shared}
theorem Inv.table {h' : Heap} {tk : Nat} {P c' : Addr} {q : Str} {ps more : Array Value} (I : Inv X pins σ H s) (hP : H P = some (.tbl ps)) (hx : Heap.ExtBut P s.heap h') (hsz : s.heap.objs.size ≤ c')
    (hrec : h'.CodeRec (.ref c') q) (htb : h'.get? P = some (PySem.W.tabObj (ps ++ more))) :
    Inv X pins σ (upd (upd H P (.tbl (ps ++ more))) c' (cdO c' q)) { s with heap := h', toks := tk } := by
  have nP : ∀ b, H b = none → b ≠ P := fun b n e => by rw [e, hP] at n; cases n
  have hc : H c' = none := I.hok.fresh hsz
  have cP : c' ≠ P := nP c' hc
  have lt : ∀ b o, s.heap.get? b = some o → b ≠ c' := fun b o e z => absurd (Heap.lt_size e) (by rw [z]; exact Nat.not_lt.mpr hsz)
  have nc : ∀ b u, H b = some u → b ≠ c' := fun b u e z => by rw [z, hc] at e; cases e
  have up : ∀ b, b ≠ P → b ≠ c' → upd (upd H P (.tbl (ps ++ more))) c' (cdO c' q) b = H b := fun b n1 n2 => by rw [upd_ne n2, upd_ne n1]
  refine I.step (ch := []) (g' := s.gens) (d' := s.drawn) (fun _ z => nomatch z) (fun b o _ _ _ e n => hx b o (nP b n) e) (fun b o _ _ _ e n => ⟨o.slots, hx b o (nP b n) e⟩) (fun b o _ e n => by rw [up b (nP b n) (lt b o e)]; exact n)
    (fun b o _ e => ?_) (fun b xs e => ?_) (fun b o u e => ?_) (fun b ps' e => ?_) (fun m hm => hm.extBut hx (nP _ I.free)) (fun b u e => ?_) I.bare
  · by_cases h : b = P
    · rw [h]; exact ⟨_, htb⟩
    · exact ⟨o, hx b o h e⟩
  · rw [up b (fun z => by rw [z, hP] at e; cases e) (nc b _ e)]; exact e
  · rw [up b (fun z => by rw [z, hP] at e; cases e) (nc b _ e)]; exact e
  · by_cases h : b = P
    · rw [h, hP] at e
      cases e
      exact ⟨more, by rw [h, upd_ne (Ne.symm cP), upd_same]⟩
    · exact ⟨#[], by rw [up b h (nc b _ e), e]; simp⟩
  · by_cases h1 : b = c'
    · rw [h1, upd_same] at e
      cases e
      rw [h1]
      exact cdO_ok hrec
    · rw [upd_ne h1] at e
      by_cases h2 : b = P
      · rw [h2, upd_same] at e
        cases e
        rw [h2]
        exact htb
      · rw [upd_ne h2] at e
        refine (I.hok b u e).stay (fun c v hc' r => hx c v ?_ r) (fun c r => ?_) fun c xs r => ?_
        · rcases hc' with z | z
          · rw [z]; exact h2
          · intro z2; rw [z2, hP] at z; cases z
        · rw [up c (fun z => by rw [z, hP] at r; cases r) (nc c _ r)]; exact r
        · rw [up c (fun z => by rw [z, hP] at r; cases r) (nc c _ r)]; exact r
def Bm (mg : Str → Option Value) (base : Heap) : Prop := ∃ bm ob, mg "__builtins__" = some (.ref bm) ∧ bm ≠ builtinsNs ∧ base.get? bm = some ob ∧ ob.cls = .type "module" ∧ ob.dict = some builtinsNs ∧ ob.data = .plain
theorem lam_make {P c : Addr} {q : Str} {params : Arguments} {body : Expr} {scope : Scope} {lpos : Pos} {clos : List (Str × Addr)} {R : Value → Shared → Prop} {E : Value → Shared → Prop} {A : Around}
    (I : Inv X pins σ H s) (tb : Tb P q H) (hcode : X.env.code = .ref c) (C : PySem.W.CodeHd X.base c P) (B : Bm X.mg X.base) (hq : X.env.qual ++ "<lambda>" = q)
    (hdef : defaultsOf params X.env = ([], [])) (hcl : closureFor scope X.env = pure clos)
    (k : ∀ (f c' : Addr) (pm ctv : Value) (H' : Hp) (s' : Shared), SameT H H' → Tb P q H' → H' c' = some (cdO c' q) → s.heap.objs.size ≤ s'.heap.objs.size →
      Inv X ((f, PySem.W.kla_obj "<lambda>" q params body scope clos pm c' ctv) :: pins) σ H' s' → R (.ref f) s') :
    wpAny (model X.prog X.w) A (eval (.Lambda params body scope lpos) X.env) R E s := by
  refine PySem.W.kla_eval hdef ?_
  rw [hq]
  obtain ⟨ps, hP, ht, hc⟩ := tb
  have gP : s.heap.get? P = some (PySem.W.tabObj ps) := I.hok P _ hP
  obtain ⟨bm, ob, b1, b2, b3, b4, b5, b6⟩ := B
  have hgP : mainGlobals ≠ P := fun e => by
    obtain ⟨o, es, ep, g, d, _⟩ := I.mod.glob
    have z := (I.bs _ _ g).2
    rw [e, hP] at z
    cases z
  have hbP : bm ≠ P := fun e => by
    have z := (I.bs _ _ b3).2
    rw [e, hP] at z
    cases z
  have hbG : bm ≠ mainGlobals := fun e => by
    obtain ⟨o, es, ep, g, d, _⟩ := I.mod.glob
    rw [e, g] at b3
    cases b3
    rw [d] at b6
    cases b6
  have hB : s.heap.BuiltinsAt X.mg P := ⟨bm, ob, b1, b2, hbG, hbP, I.bk _ _ b3, b4, b5, b6⟩
  have hG : s.heap.Ns mainGlobals X.mg := I.mod.glob.keeps I.bk
  have fin : ∀ (H' : Hp) (h' : Heap) (tk : Nat) (o : Obj), o.isFreed = false → (∀ v, o.data ≠ .cell v) → s.heap.objs.size ≤ h'.objs.size → Inv X pins σ H' { s with heap := h', toks := tk } →
      Inv X ((h'.objs.size, o) :: pins) σ H' { s with heap := h'.push o, toks := tk } := fun H' h' tk o hfr hd hsz J => by
    have J2 : Inv X pins σ H' { s with heap := h'.push o, toks := tk } := J.kept (t' := tk) fun b u e => Heap.get?_push_of_some _ e
    refine J2.pins_of fun p hp => ?_
    rcases List.mem_cons.mp hp with rfl | hp
    · exact ⟨Heap.get?_push_size _ hfr, J.hok.fresh (Nat.le_refl _), Nat.ne_of_gt (Nat.lt_of_lt_of_le I.lt hsz), I.nofs hsz, hd⟩
    · exact J2.pin p (List.mem_append_right _ hp)
  have hsize : ∀ (h' : Heap) (o : Obj), s.heap.objs.size ≤ h'.objs.size → s.heap.objs.size ≤ (h'.push o).objs.size := fun h' o h => by rw [Heap.size_push]; exact Nat.le_succ_of_le h
  cases e : codeAmong lpos ps.toList with
  | none =>
    refine PySem.W.kla_makeFunction (mg := X.mg) (ps := ps) hcl I.ok.glob hG hcode (C.keeps I.bk) gP ht e hgP hB fun c' ctv h' tk hx hge hlt hrec htb => ?_
    have J := I.table (tk := tk) (q := q) hP hx hge hrec htb
    have hcf : H c' = none := I.hok.fresh hge
    have nP : P ≠ c' := fun z => by rw [z, hcf] at hP; cases hP
    refine k _ c' _ ctv _ _ (fun b o h n => ?_) ⟨_, by rw [upd_ne nP, upd_same], ?_, fun pos cv e2 => ?_⟩ upd_same (hsize h' _ (Nat.le_of_lt (Nat.lt_of_le_of_lt hge hlt))) (fin _ h' tk _ rfl (fun v z => by cases z) (Nat.le_of_lt (Nat.lt_of_le_of_lt hge hlt)) J)
    · rw [upd_ne (fun z => by rw [z, hcf] at h; cases h), upd_ne (fun z => by rw [z, hP] at h; exact n _ (Option.some.inj h).symm)]
      exact h
    · rw [Array.toList_append]
      exact TriplesOk_snoc _ _ _ _ ht
    · rw [Array.toList_append] at e2
      rcases among_snoc _ ht e2 with e3 | e3
      · obtain ⟨c1, z1, z2⟩ := hc _ _ e3
        exact ⟨c1, z1, by rw [upd_ne (fun z => by rw [z, hcf] at z2; cases z2), upd_ne (fun z => by rw [z, hP] at z2; cases z2)]; exact z2⟩
      · exact ⟨c', e3, upd_same⟩
  | some cv =>
    obtain ⟨c1, rfl, hc1⟩ := hc _ _ e
    refine PySem.W.kla_makeFunctionHit (mg := X.mg) (ps := ps) hcl I.ok.glob hG hcode (C.keeps I.bk) gP ht e hB fun ctv h' tk hk hsz => ?_
    exact k _ c1 _ ctv H _ (Same.refl H).toT ⟨ps, hP, ht, hc⟩ hc1 (hsize h' _ hsz) (fin H h' tk _ rfl (fun v z => by cases z) hsz (I.kept (t' := tk) hk))
def lamX (X : Cx) (A : Around) (N : List Str) (env : Env) (s : Shared) (H : Hp) : Cx where
  prog := X.prog
  w := X.w
  K := X.K
  mg := X.mg
  base := X.base
  A := A.deeper env
  N := N
  s₀ := s
  H₀ := H
  env := env
  outer := X.stack
  stack := env :: X.stack
  ex := []
  calm := true
  fn := fun _ => false
  pn := []
  xe := fun _ _ => False
theorem lam_call {A : Around} {f c' cc : Addr} {q x nm : Str} {params : Arguments} {body : Expr} {scope : Scope} {pm ctv u : Value} {j : Nat} {y v : V} {Q : VK} {t : TE} {E : Value → Shared → Prop}
    (I : Inv X pins σ H s) (hA : A.frames = some X.stack) (hd : A.handled = none) (hroom : A.depth < recursionLimit)
    (hf : (f, PySem.W.kla_obj "<lambda>" q params body scope [(nm, cc)] pm c' ctv) ∈ pins) (hc : H c' = some (cdO c' q))
    (hN : X.N[j]? = some nm) (hv : σ[j]? = some (some v)) (hk : X.env.kindOf nm = some .cell) (hcc : X.env.cells.lookup nm = some cc)
    (hnames : scope.names = [(x, .local), (nm, .free)]) (hxn : x ≠ nm) (hkind : scope.kind = .function) (hco : scope.isCoroutine = false) (hgen : scope.isGenerator = false)
    (hbind : ∀ w : Value, bindArgs (PySem.W.kla_fn "<lambda>" q params body scope [(nm, cc)] pm (.ref c') ctv) ⟨[w], []⟩ = pure [(x, w)])
    (ru : RelV y u) (hb : ∀ (env : Env) (s : Shared) (H : Hp), env.scope = scope → PE (lamX X A [x, nm] env s H) body t) (h : t [some y, some v] H Q) :
    wpAny (model X.prog X.w) A (call (.ref f) [u]) (EP X pins σ Q) E s := by
  have hx1 : scope.names.lookup x = some .local := by rw [hnames]; simp
  have hx2 : scope.names.lookup nm = some .free := by rw [hnames, List.lookup_cons, beq_false_of_ne (Ne.symm hxn)]; simp
  have hpf := I.pin _ (List.mem_append_right _ hf)
  have hrec : s.heap.CodeRec (.ref c') q := (I.hok c' _ hc).1
  have vis : Vis X.env.scope nm := .inr (.inl hk)
  obtain ⟨m, hns, hl⟩ := I.loc
  obtain ⟨u', rv, lk⟩ := hl j nm v hN hv vis
  have hcell : s.heap.IsCell cc (some u') := by
    rcases lk with ⟨z, _⟩ | ⟨_, c2, e2, z⟩
    · have : some NameKind.local = some NameKind.cell := z.symm.trans hk
      cases this
    · rw [hcc] at e2
      cases e2
      exact z
  refine wpAny_call (codeAny_mono (R := fun r s' => match r with | .ok (.ret u) => EP X pins σ Q u s' | _ => False)
    (PySem.W.kla_callFunE hroom hpf.1 rfl hco hgen rfl hrec ?_) fun r s' hq => ?_)
  · rw [hbind u]
    refine wpAny_pure (wpAny_newFunctionEnv (fun p hp => ?_) (fun p hp => ?_) (fun h₁ hn hsb => ⟨I.nolimit.fresh _ hsb, ?_⟩) hkind)
    · rw [show (PySem.W.kla_fn "<lambda>" q params body scope [(nm, cc)] pm (.ref c') ctv).scope = scope from rfl, hnames] at hp
      rcases List.mem_cons.mp hp with rfl | hp
      · intro z; cases z
      · rw [List.mem_singleton.mp hp]; intro z; cases z
    · rw [List.mem_singleton.mp hp]; exact hx1
    · have hk₁ : ∀ b o, s.heap.get? b = some o → h₁.get? b = some o := fun b o e => hsb.extBut b o (Nat.ne_of_lt (Heap.lt_size e)) (Heap.get?_push_of_some _ e)
      show codeAny _ _ (.expr body (PySem.W.envX q scope s.heap.objs.size f (.ref c') [(nm, cc)])) _ _
      have one : ∀ z c, ([(nm, cc)] : List (Str × Addr)).lookup z = some c → z = nm ∧ c = cc := fun z c e => by
        rw [List.lookup_cons] at e
        cases hz : z == nm with
        | true => rw [hz] at e; exact ⟨eq_of_beq hz, (Option.some.inj e).symm⟩
        | false => rw [hz] at e; cases e
      have J : Inv (lamX X A [x, nm] (PySem.W.envX q scope s.heap.objs.size f (.ref c') [(nm, cc)]) s H) [] [some y, some v] H { s with heap := h₁, toks := s.toks + [(x, u)].length } := by
        refine ⟨⟨I.ok.mod, hkind, rfl, rfl, Nat.le_refl _, fun a b c e1 e2 => (one _ _ e1).1.trans (one _ _ e2).1.symm, fun z hz => ?_, fun z c e1 e2 => Bool.noConfusion e1, fun _ => hd, Around.frames_deeper hA, .inr ⟨rfl, rfl⟩,
          fun b z => absurd (show b ∈ ([] : List Addr) from z) (by simp), I.bs, Nat.le_trans I.ok.bsz I.sz, fun b _ _ z => absurd (show b ∈ ([] : List Addr) from z) (by simp), fun b z => absurd (show b ∈ ([] : List Addr) from z) (by simp), I.stack, I.stkFree⟩,
          rfl, I.bare, Un.kept hk₁, ⟨_, hn, fun i n v' e1 e2 e3 => ?_⟩, fun z c e => ?_, I.hok.fresh (Nat.le_refl _), fun z c e => ?_, fun p hp => absurd (show p ∈ ([] : List (Addr × Obj)) from hp) (by simp), I.hok.kept hk₁, rfl⟩
        · have hz' : scope.names.lookup z = some .cell ∨ scope.names.lookup z = some .free := hz
          have hm : (z, NameKind.cell) ∈ scope.names ∨ (z, NameKind.free) ∈ scope.names := hz'.imp PySem.mem_of_lookup PySem.mem_of_lookup
          rw [hnames] at hm
          have hzn : z = nm := by
            rcases hm with hm | hm
            · rcases List.mem_cons.mp hm with e | e
              · cases e
              · cases List.mem_singleton.mp e
            · rcases List.mem_cons.mp hm with e | e
              · cases e
              · exact (Prod.mk.inj (List.mem_singleton.mp e)).1
          exact ⟨cc, by rw [hzn]; show ([(nm, cc)] : List (Str × Addr)).lookup nm = _; simp⟩
        · match i, e1, e2 with
          | 0, e1, e2 =>
            cases e1
            cases e2
            exact ⟨u, ru, .inl ⟨hx1, by simp⟩⟩
          | 1, e1, e2 =>
            cases e1
            cases e2
            obtain ⟨o, g, d⟩ := hcell
            exact ⟨u', rv, .inr ⟨.inr hx2, cc, by show ([(nm, cc)] : List (Str × Addr)).lookup nm = _; simp, o, hk₁ _ _ g, d⟩⟩
          | i + 2, e1, e2 => cases e1
        · obtain ⟨o, g, d⟩ := hcell
          rw [(one z c e).2]
          exact ⟨some u', o, hk₁ _ _ g, d⟩
        · rw [(one z c e).2]
          exact I.freeC nm cc hcc
      refine PySem.W.kla_codeExpr (wpAny_mono (hb (PySem.W.envX q scope s.heap.objs.size f (.ref c') [(nm, cc)]) s H rfl [] _ [some y, some v] H Q J h) (fun u2 s' hq => ?_) fun _ _ z => z.elim)
      obtain ⟨v', H', J', r', q'⟩ := hq
      exact I.after ⟨v', H', J'.os, J'.bare, J'.base, J'.hok, r', q'⟩
  · cases r with
    | error e => exact False.elim hq
    | ok fl =>
      cases fl with
      | ret u => exact hq
      | next => exact False.elim hq
      | brk => exact False.elim hq
      | cont => exact False.elim hq
end
end L2
set_option Elab.async false
set_option linter.all false
set_option maxRecDepth 100000
namespace L2
open PySem PySem.Spec PyProof.Rows
section
variable {prog : Program} {w : World} {A : Around} {E : Value → Shared → Prop} {s : Shared}
theorem collect_rng {Q : List Value → Shared → Prop} {r : Addr} {a b c : Int} {t u v : Tok} {n : Nat} (hh : A.handled = none) (hr : IsRange s.heap r a b c t u v) (hsmall : Builtin.Range.small a b c = true)
    (hn : Builtin.Range.rangeSize a b c = n) (hlen : n ≤ 2 ^ 24)
    (hQ : ∀ h' tk acc, (∀ b o, s.heap.get? b = some o → h'.get? b = some o) → s.heap.objs.size ≤ h'.objs.size → ItemsOf (fun i v => ∃ t, v = .int (a + i * c) t) acc n → Q acc.toList { s with heap := h', toks := tk }) :
    wpAny (model prog w) A (collect (.ref r)) Q E s := by
  unfold collect
  refine wpAny_bind (wpAny_runValue (codeAny_builtin F.entry_proto_collect ?_))
  rw [Around.under_plainId F.plain_proto_collect _]
  show wpAny _ A.in1 (newList [] >>= fun l => again (.builtin "list.__iadd__" ⟨[l, .ref r], []⟩)) _ _ s
  refine wpAny_bind (wpAny_newObj_type ?_)
  refine wpAny_pure ⟨plainId_quiet F.plain_list_iadd _, codeAny_builtin F.entry_list_iadd ?_⟩
  rw [Around.under_plainId F.plain_list_iadd _]
  have hS₁ : (s.heap.push { cls := .type "list", data := .seq ([] : List Value).toArray }).get? s.heap.objs.size = some { cls := .type "list", data := .seq ([] : List Value).toArray } := Heap.get?_push_size _ rfl
  show wpAny _ A.in1 (Builtin.List.listExtendWith (.ref s.heap.objs.size) (.ref r) (.ref s.heap.objs.size)) _ _ _
  have fin : ∀ (r : Result) (s' : Shared), (∃ h' tk acc' c', r = .ok (.ret (.ref s.heap.objs.size)) ∧ s' = { s with heap := h', toks := tk } ∧ (∀ b o, b ≠ s.heap.objs.size → (s.heap.push { cls := .type "list", data := .seq ([] : List Value).toArray }).get? b = some o → h'.get? b = some o) ∧
      h'.get? s.heap.objs.size = some { cls := .type "list", dict := none, data := .seq acc' c', slots := #[] } ∧ ItemsOf (fun i v => ∃ t, v = .int (a + i * c) t) acc' n) → ∃ h' tk acc' c', r = .ok (.ret (.ref s.heap.objs.size)) ∧ s' = { s with heap := h', toks := tk } ∧
      h'.get? s.heap.objs.size = some { cls := .type "list", dict := none, data := .seq acc' c', slots := #[] } ∧ Q acc'.toList s' := by
    rintro r s' ⟨h', tk, acc', c', e1, e2, hk, hS', hacc⟩
    refine ⟨h', tk, acc', c', e1, e2, hS', ?_⟩
    rw [e2]
    exact hQ h' tk acc' (fun b o e => hk b o (Nat.ne_of_lt (Heap.lt_size e)) (Heap.get?_push_of_some _ e)) (Nat.le_of_lt (Heap.lt_size hS')) hacc
  refine wpAny_mono (wpAny_extend_range (s := { s with heap := s.heap.push { cls := .type "list", data := .seq ([] : List Value).toArray } }) (R := fun r s' => ∃ h' tk acc' c', r = .ok (.ret (.ref s.heap.objs.size)) ∧ s' = { s with heap := h', toks := tk } ∧ (∀ b o, b ≠ s.heap.objs.size → (s.heap.push { cls := .type "list", data := .seq ([] : List Value).toArray }).get? b = some o → h'.get? b = some o) ∧
      h'.get? s.heap.objs.size = some { cls := .type "list", dict := none, data := .seq acc' c', slots := #[] } ∧ ItemsOf (fun i v => ∃ t, v = .int (a + i * c) t) acc' n) hh (Heap.get?_push_of_some _ hr) hsmall hn hlen s.heap.objs.size (.ref s.heap.objs.size) 0 hS₁
    fun h' tk acc' c' hk hS' hacc => ⟨h', tk, acc', c', rfl, rfl, hk, hS', hacc⟩) (fun f s' hf => ?_) fun e s' hf => ?_
  · cases f with
    | done f =>
      obtain ⟨h', tk, acc', c', e1, e2, hS', q⟩ := fin _ _ hf
      cases e1
      subst e2
      show wpAny _ A (load s.heap.objs.size >>= _) _ _ _
      exact wpAny_bind (wpAny_load hS' (wpAny_pure q))
    | again c' =>
      refine ⟨hf.1, codeAny_mono hf.2 fun r s' hr => ?_⟩
      obtain ⟨h', tk, acc', c', e1, e2, hS', q⟩ := fin _ _ hr
      subst e1 e2
      show wpAny _ A (load s.heap.objs.size >>= _) _ _ _
      exact wpAny_bind (wpAny_load hS' (wpAny_pure q))
  · obtain ⟨h', tk, acc', c', e1, _⟩ := hf
    cases e1
end
theorem keyed_zip {items : List Value} {ns : List Int} (hi : IntsAre items ns) {g : Int → Int} {keys : Array Value} (hk : IntsAre keys.toList (ns.map g)) {p : Keyed} (hp : p ∈ keys.toList.zip items) :
    ∃ z, z ∈ ns ∧ numOf p.2 = z ∧ numOf p.1 = g z ∧ ∃ t, p.2 = .int z t := by
  obtain ⟨i, hl, e⟩ := List.getElem_of_mem hp
  have h1 := hi.length
  have h2 := hk.length
  rw [List.length_map] at h2
  rw [List.length_zip] at hl
  have hn : i < ns.length := by omega
  obtain ⟨t1, e1⟩ := hi.get i ns[i] (List.getElem?_eq_getElem hn)
  obtain ⟨t2, e2⟩ := hk.get i (g ns[i]) (by rw [List.getElem?_map, List.getElem?_eq_getElem hn]; rfl)
  rw [List.getElem_zip] at e
  have e1' : items[i]'(by omega) = .int ns[i] t1 := Option.some.inj ((List.getElem?_eq_getElem _).symm.trans e1)
  have e2' : keys.toList[i]'(by omega) = .int (g ns[i]) t2 := Option.some.inj ((List.getElem?_eq_getElem _).symm.trans e2)
  rw [e1', e2'] at e
  subst e
  exact ⟨ns[i], List.getElem_mem hn, rfl, rfl, t1, rfl⟩
theorem srt_out {items : List Value} {ns : List Int} (hi : IntsAre items ns) {g : Int → Int} {keys : Array Value} (hk : IntsAre keys.toList (ns.map g)) {xs : Array Keyed} (hp : xs.Perm (keys.zip items.toArray)) (hs : Stab.St xs xs.size) :
    ∃ ns' : List Int, IntsAre (xs.map (·.2)).toList ns' ∧ ns'.Perm ns ∧ ns'.Pairwise (fun x y => g x < g y ∨ (g x = g y ∧ x < y)) := by
  have hl : xs.toList.Perm (keys.toList.zip items) := by rw [← ksk_zip]; exact Array.perm_iff_toList_perm.mp hp
  have al : ∀ p ∈ xs.toList, ∃ z, z ∈ ns ∧ numOf p.2 = z ∧ numOf p.1 = g z ∧ ∃ t, p.2 = .int z t := fun p h => keyed_zip hi hk (hl.mem_iff.mp h)
  have len : keys.toList.length = items.length := by rw [hk.length, List.length_map, hi.length]
  refine ⟨xs.toList.map fun p => numOf p.2, ?_, ?_, ?_⟩
  · rw [Array.toList_map]
    have := intsAre_map (xs.toList.map (·.2)) fun v hv => by
      obtain ⟨p, hp', rfl⟩ := List.mem_map.mp hv
      obtain ⟨z, _, _, _, t, e⟩ := al p hp'
      exact ⟨z, t, e⟩
    rw [List.map_map] at this
    exact this
  · have h1 := hl.map fun p : Keyed => numOf p.2
    have h2 : (keys.toList.zip items).map (fun p : Keyed => numOf p.2) = ns := by
      rw [← hi.nums, show (fun p : Keyed => numOf p.2) = numOf ∘ Prod.snd from rfl, ← List.map_map, List.map_snd_zip (by omega)]
    rw [h2] at h1
    exact h1
  · rw [List.pairwise_map, List.pairwise_iff_getElem]
    intro i j h1 h2 hij
    have h1' : i < xs.size := by simpa using h1
    have h2' : j < xs.size := by simpa using h2
    have q := hs i j hij h2'
    obtain ⟨z1, _, a1, b1, _⟩ := al xs.toList[i] (List.getElem_mem h1)
    obtain ⟨z2, _, a2, b2, _⟩ := al xs.toList[j] (List.getElem_mem h2)
    rw [a1, a2]
    unfold Stab.Lx at q
    rw [K_eq h1', K_eq h2'] at q
    unfold Stab.V at q
    rw [getElem?_pos xs i h1', getElem?_pos xs j h2'] at q
    simp only [Array.getElem_toList] at a1 a2 b1 b2
    simp only [a1, a2, b1, b2] at q
    exact q
theorem srt_inc {items : List Value} {ns : List Int} (hi : IntsAre items ns) (inc : ns.Pairwise (· < ·)) {keys : Array Value} (hl : keys.size = items.length) : Stab.Inc (keys.zip items.toArray) := by
  intro i j hij hj
  have hz : (keys.zip items.toArray).size = items.length := by rw [Array.size_zip, hl, List.size_toArray, Nat.min_self]
  have h1 := hi.length
  have val : ∀ k (hk : k < items.length), Stab.V (keys.zip items.toArray) k = ns[k]'(by omega) := fun k hk => by
    obtain ⟨t, e⟩ := hi.get k ns[k] (List.getElem?_eq_getElem (by omega))
    unfold Stab.V
    rw [getElem?_pos (keys.zip items.toArray) k (by omega)]
    simp only [Array.getElem_zip, List.getElem_toArray]
    rw [Option.some.inj ((List.getElem?_eq_getElem hk).symm.trans e)]
    rfl
  rw [val i (by omega), val j (by omega)]
  exact List.pairwise_iff_getElem.mp inc i j (by omega) (by omega) hij
section
variable {X : Cx} {A : Around} {pins : List (Addr × Obj)} {σ : St} {E : Value → Shared → Prop} {a kS f : Addr} {items : List Value} {ns : List Int} {g : Int → Int} {e1 : Nat} {Pst : PySem.Fin → Shared → Prop}
theorem srt_tail {H : Hp} {s : Shared} {st : SortSt} {keys : Array Value} (hi : IntsAre items ns) (h64 : ns.length < 64) (hk : IntsAre keys.toList (ns.map g))
    (I : Inv X ((a, seqObj "list" #[] e1) :: pins) σ (upd H kS (.lst (vI (ns.map g)))) s) (hkS : H kS = none) (a0 : X.s₀.heap.objs.size ≤ a) (aC : ∀ x c, X.env.cells.lookup x = some c → c ≠ a) (aP : ∀ p ∈ X.pn ++ pins, p.1 ≠ a)
    (hp : (arrOf st).Perm (keys.zip items.toArray)) (hs : Stab.St (arrOf st) (arrOf st).size) (hfl : failedOf st = none)
    (k : ∀ (H' : Hp) (s' : Shared) (ns' : List Int), Same H H' → H a = none → H' a = some (.lst (vI ns')) → ns'.Perm ns → ns'.Pairwise (fun x y => g x < g y ∨ (g x = g y ∧ x < y)) → Inv X pins σ H' s' → Pst (.done (.ret .none)) s') :
    wpAny (model X.prog X.w) A (ksk_tail a false e1 (.ref kS) st) Pst E s := by
  have hsz : sizeLine = 16777216 := sizeLine_eq
  obtain ⟨ns', o1, o2, o3⟩ := srt_out hi hk hp hs
  have pa := I.pin (a, seqObj "list" #[] e1) (List.mem_append_right _ List.mem_cons_self)
  obtain ⟨ga, na, aL, aF, _⟩ := pa
  have hak : a ≠ kS := fun z => by
    have na' : upd H kS (.lst (vI (ns.map g))) a = none := na
    rw [z, upd_same] at na'
    cases na'
  have hHa : H a = none := by
    have na' : upd H kS (.lst (vI (ns.map g))) a = none := na
    rw [upd_ne hak] at na'
    exact na'
  obtain ⟨z, its, n, rv, hl, gk⟩ := I.lstM (l := kS) upd_same
  have hil : its.length = ns.length := by rw [← hl, vI_len, List.length_map]
  have s1 := Heap.SameBut.update s.heap kS (Obj.mapSeq fun _ => (#[] : Array Value))
  have I1 : Inv X ((a, seqObj "list" #[] e1) :: pins) σ (upd (upd H kS (.lst (vI (ns.map g)))) kS (.lst [])) { s with heap := s.heap.update kS (Obj.mapSeq fun _ => (#[] : Array Value)), toks := s.toks } :=
    I.lset (its' := []) (f := fun _ => #[]) upd_same gk rfl .nil (Nat.zero_le _)
  rw [upd_upd] at I1
  have ga1 : (s.heap.update kS (Obj.mapSeq fun _ => (#[] : Array Value))).get? a = some (seqObj "list" #[] e1) := (s1.2 a hak).trans ga
  have osz : ((arrOf st).map (·.2)).size = ns'.length := by rw [← o1.length, Array.length_toList]
  have o2l := o2.length_eq
  unfold ksk_tail
  try dsimp only
  refine wpAny_bind (listUpdate_at gk rfl ?_ (by rw [List.size_toArray]; omega) (Nat.zero_le _))
  refine wpAny_bind (wpAny_letGo ?_)
  refine wpAny_bind (seqEpoch_at ga1 rfl ?_)
  refine wpAny_bind (listUpdate_at ga1 rfl ?_ (Nat.zero_le _) (by simp only [Bool.false_eq_true, if_false]; rw [osz]; omega))
  rw [hfl]
  simp only [bne_self_eq_false, Bool.false_eq_true, if_false]
  refine wpAny_pure ?_
  have I1' : Inv X pins σ (upd H kS (.lst [])) { s with heap := s.heap.update kS (Obj.mapSeq fun _ => (#[] : Array Value)), toks := s.toks } := I1.pins_of fun p hp => I1.pin p (List.mem_append_right _ (List.mem_cons_of_mem _ hp))
  have ha1 : upd H kS (.lst []) a = none := by rw [upd_ne hak]; exact hHa
  generalize hh1 : s.heap.update kS (Obj.mapSeq fun _ => (#[] : Array Value)) = h1 at ga1 I1' ⊢
  have s2 := Heap.SameBut.update h1 a (Obj.mapSeq fun _ => (arrOf st).map (·.2))
  obtain ⟨c2, hc2⟩ : ∃ c2, (h1.update a (Obj.mapSeq fun _ => (arrOf st).map (·.2))).get? a = some (seqObj "list" ((arrOf st).map (·.2)) c2) := ⟨_, get?_update_seq ga1 fun _ => (arrOf st).map (·.2)⟩
  have nit : ∀ b u, upd H kS (.lst []) b = some u → b ≠ a := fun b u e z => by rw [z, ha1] at e; cases e
  have J : Inv X pins σ (upd (upd H kS (.lst [])) a (.lst (vI ns'))) { s with heap := h1.update a (Obj.mapSeq fun _ => (arrOf st).map (·.2)), toks := s.toks } := by
    refine Inv.step (s := { s with heap := h1, toks := s.toks }) I1' (g' := s.gens) (d' := s.drawn) (ch := [a]) (fun b hb => ?_) (fun b o _ _ hc e _ => (s2.2 b (fun z => hc (by simp [z]))).trans e) (fun b o _ _ hc e _ => ⟨o.slots, (s2.2 b (fun z => hc (by simp [z]))).trans e⟩)
      (fun b o hc e n => by rw [upd_ne (fun z => hc (by simp [z]))]; exact n) (fun b o hc e => ⟨o, (s2.2 b (fun z => hc (by simp [z]))).trans e⟩) (fun b xs e => by rw [upd_ne (nit b _ e)]; exact e) (fun b o u e => by rw [upd_ne (nit b _ e)]; exact e)
      (fun b ps e => ⟨#[], by rw [upd_ne (nit b _ e), e]; simp⟩) (fun m hm => hm.sameBut s2 (Ne.symm aL)) (fun b u e => ?_) I1'.bare
    · have e : b = a := by simpa using hb
      rw [e]
      exact ⟨.inr a0, aL, aC, aP⟩
    · by_cases hb : b = a
      · rw [hb, upd_same] at e
        cases e
        rw [hb]
        exact ⟨by rw [vI_len]; omega, ((arrOf st).map (·.2)).toList, c2, vals_ints o1, hc2⟩
      · rw [upd_ne hb] at e
        refine (I1'.hok b u e).stay (fun c v hc q => (s2.2 c ?_).trans q) (fun c q => by rw [upd_ne (nit c _ q)]; exact q) fun c xs q => by rw [upd_ne (nit c _ q)]; exact q
        rcases hc with z | z
        · rw [z]; exact hb
        · exact nit c _ z
  refine k _ _ ns' (fun b o h => ?_) hHa upd_same o2 o3 J
  rw [upd_ne (fun z => by rw [z, hHa] at h; cases h), upd_ne (fun z => by rw [z, hkS] at h; cases h)]
  exact h
theorem srt_end {H : Hp} {s : Shared} {keys : Array Value} (hi : IntsAre items ns) (inc : ns.Pairwise (· < ·)) (h64 : ns.length < 64) (hk : IntsAre keys.toList (ns.map g))
    (I : Inv X ((a, seqObj "list" #[] e1) :: pins) σ (upd H kS (.lst (vI (ns.map g)))) s) (hkS : H kS = none) (a0 : X.s₀.heap.objs.size ≤ a) (aC : ∀ x c, X.env.cells.lookup x = some c → c ≠ a) (aP : ∀ p ∈ X.pn ++ pins, p.1 ≠ a)
    (k : ∀ (H' : Hp) (s' : Shared) (ns' : List Int), Same H H' → H a = none → H' a = some (.lst (vI ns')) → ns'.Perm ns → ns'.Pairwise (fun x y => g x < g y ∨ (g x = g y ∧ x < y)) → Inv X pins σ H' s' → Pst (.done (.ret .none)) s') :
    wpAny (model X.prog X.w) A (ksk_end a false items.toArray e1 (.ref kS) keys) Pst E s := by
  have h1 := hi.length
  have hsz : keys.size = items.length := by
    have h2 := hk.length
    rw [Array.length_toList, List.length_map] at h2
    omega
  have hzs : (keys.zip items.toArray).size = items.length := by rw [Array.size_zip, hsz, List.size_toArray, Nat.min_self]
  unfold ksk_end
  try dsimp only
  simp only [Bool.false_eq_true, if_false]
  by_cases h2 : items.toArray.size < 2
  · rw [if_pos h2, if_pos h2]
    refine wpAny_bind (wpAny_pure ?_)
    rw [StateT.run_pure]
    refine wpAny_bind (wpAny_pure ?_)
    try dsimp only
    refine srt_tail (st := SortSt.mk' general' (keys.zip items.toArray) #[] 7 none) hi h64 hk I hkS a0 aC aP (Array.Perm.refl _) ?_ rfl k
    intro i j hij hj
    have hj2 : j < (keys.zip items.toArray).size := hj
    rw [hzs] at hj2
    rw [List.size_toArray] at h2
    omega
  · rw [if_neg h2, if_neg h2]
    rw [List.size_toArray] at h2
    rw [ksk_kind hk (by rw [hsz]; omega)]
    refine wpAny_bind (wpAny_pure ?_)
    refine wpAny_bind (wpAny_mono (Stab.st_sortRuns (a₀ := keys.zip items.toArray) (st := SortSt.mk' oneType' (keys.zip items.toArray) #[] 7 none)
      (Q := fun _ st' => (arrOf st').Perm (keys.zip items.toArray) ∧ failedOf st' = none ∧ Stab.St (arrOf st') (keys.zip items.toArray).size)
      (ksk_intKeys hk) (srt_inc hi inc hsz) ⟨Array.Perm.refl _, rfl, rfl, rfl⟩ rfl (by rw [hzs]; omega) (by rw [hzs]; omega) fun st' a1 a2 a3 => ⟨a1, a2, a3⟩) ?_ fun _ _ e => e)
    rintro ⟨⟨⟩, st'⟩ s' ⟨rfl, hp, hf, hs⟩
    try dsimp only
    exact srt_tail hi h64 hk I hkS a0 aC aP hp (by rw [hp.size_eq]; exact hs) hf k
theorem srt_tree {H : Hp} {s : Shared} {n0 : Nat} (I : Inv X pins σ H s) (ha : H a = none) (hoa : s.heap.get? a = some (seqObj "list" items.toArray n0)) (a0 : X.s₀.heap.objs.size ≤ a) (aL : a ≠ X.env.locals) (aF : a ∉ X.fs)
    (aC : ∀ x c, X.env.cells.lookup x = some c → c ≠ a) (aP : ∀ p ∈ X.pn ++ pins, p.1 ≠ a) (hi : IntsAre items ns) (inc : ns.Pairwise (· < ·)) (h64 : ns.length < 64)
    (turn : ∀ (z : Int) (t : Tok) (pl : List (Addr × Obj)) (H' : Hp) (s' : Shared), z ∈ ns → Same H H' → Inv X (pl ++ pins) σ H' s' →
      wpAny (model X.prog X.w) A (call (.ref f) [.int z t]) (fun u s'' => (∃ t', u = .int (g z) t') ∧ Inv X (pl ++ pins) σ H' s'') (fun _ _ => False) s')
    (k : ∀ (H' : Hp) (s' : Shared) (ns' : List Int), Same H H' → H a = none → H' a = some (.lst (vI ns')) → ns'.Perm ns → ns'.Pairwise (fun x y => g x < g y ∨ (g x = g y ∧ x < y)) → Inv X pins σ H' s' → Pst (.done (.ret .none)) s') :
    wpAny (model X.prog X.w) A (ksk_tree a (.ref f) false) Pst E s := by
  have hsz : sizeLine = 16777216 := sizeLine_eq
  have hl := hi.length
  have s1 := Heap.SameBut.update s.heap a (Obj.mapSeq fun _ => (#[] : Array Value))
  obtain ⟨e1, ho1⟩ : ∃ e1, (s.heap.update a (Obj.mapSeq fun _ => (#[] : Array Value))).get? a = some (seqObj "list" #[] e1) := ⟨_, get?_update_seq hoa fun _ => #[]⟩
  have alt : a < s.heap.objs.size := Heap.lt_size hoa
  unfold ksk_tree
  refine wpAny_bind (listItems_at hoa rfl ?_)
  refine wpAny_bind (listUpdate_at hoa rfl ?_ (by rw [List.size_toArray]; omega) (Nat.zero_le _))
  refine wpAny_bind (seqEpoch_at ho1 rfl ?_)
  refine wpAny_bind (wpAny_newTuple ?_ (by show items.length ≤ _; omega))
  refine wpAny_bind (wpAny_newList ?_ (Nat.zero_le _))
  refine wpAny_holding ?_
  have I1 : Inv X pins σ H { s with heap := s.heap.update a (Obj.mapSeq fun _ => (#[] : Array Value)), toks := s.toks } := I.turned (it := a) (fun b o hb e => (s1.2 b hb).trans e) ha aL (.inr a0) aC aP
  have I2 : Inv X pins σ H { s with heap := (s.heap.update a (Obj.mapSeq fun _ => (#[] : Array Value))).push (seqObj "tuple" items.toArray 0), toks := s.toks } := I1.kept (t' := s.toks) fun b u e => Heap.get?_push_of_some _ e
  have I3 := I2.lnew (its := []) (ys := []) (t' := s.toks) .nil (Nat.zero_le _)
  have ho3 := Heap.get?_push_of_some { cls := .type "list", data := .seq ([] : List Value).toArray } (Heap.get?_push_of_some (seqObj "tuple" items.toArray 0) ho1)
  have hkn := I2.fresh
  dsimp only at I3 ho3 hkn ⊢
  generalize hkS : ((s.heap.update a (Obj.mapSeq fun _ => (#[] : Array Value))).push (seqObj "tuple" items.toArray 0)).objs.size = kS at I3 hkn ⊢
  have hak : a ≠ kS := by
    rw [← hkS, size_push', Heap.size_update]
    exact Nat.ne_of_lt (Nat.lt_succ_of_lt alt)
  have I4 : Inv X ((a, seqObj "list" #[] e1) :: pins) σ (upd H kS (.lst (vI ((ns.map g).take 0)))) { s with heap := ((s.heap.update a (Obj.mapSeq fun _ => (#[] : Array Value))).push (seqObj "tuple" items.toArray 0)).push { cls := .type "list", data := .seq ([] : List Value).toArray }, toks := s.toks } :=
    I3.pins_of fun p hp => by
      rcases List.mem_cons.mp hp with rfl | hp
      · exact ⟨ho3, by rw [upd_ne hak]; exact ha, aL, aF, fun v z => by cases z⟩
      · exact I3.pin p (List.mem_append_right _ hp)
  have sameU : ∀ l, Same H (upd H kS (.lst l)) := fun l b o h => by rw [upd_ne (fun z => by rw [z, hkn] at h; cases h)]; exact h
  unfold ksk_rest
  refine wpAny_bind (wpAny_rule ?_)
  first
    | rw [List.forIn_toArray]
    | (rw [← Array.forIn_toList]; simp only [List.toList_toArray])
    | rw [← Array.forIn_toList]
  refine wpAny_bind (ksk_fold (fun i s' => Inv X ((a, seqObj "list" #[] e1) :: pins) σ (upd H kS (.lst (vI ((ns.map g).take i)))) s') items 0 _ I4 ?step ?done)
  case step =>
    rintro j x s' hx J
    simp only [Nat.zero_add] at J ⊢
    have hj : j < items.length := (List.getElem?_eq_some_iff.mp hx).1
    obtain ⟨z, t, rfl, hz⟩ := hi.at j x hx
    refine wpAny_bind (wpAny_attempt (wpAny_mono (turn z t [(a, seqObj "list" #[] e1)] _ s' (List.mem_of_getElem? hz) (sameU _) J) (fun u s'' he => ?_) fun _ _ hF => hF.elim))
    obtain ⟨⟨t', rfl⟩, J2⟩ := he
    try dsimp only
    obtain ⟨_, its, n, rv, hl2, gk⟩ := J2.lstM (l := kS) upd_same
    have hil : its.length ≤ ns.length := by
      rw [← hl2, vI_len, List.length_take, List.length_map]
      exact Nat.min_le_right _ _
    refine wpAny_bind (listUpdate_at gk rfl ?_ (by rw [List.size_toArray]; omega) (Nat.le_trans (Nat.le_of_eq (Array.size_push ..)) (by rw [List.size_toArray]; omega)))
    refine wpAny_pure ⟨rfl, ?_⟩
    have ek : (ns.map g).take (j + 1) = (ns.map g).take j ++ [g z] := by rw [List.take_add_one, List.getElem?_map, hz]; rfl
    have J3 := J2.lset (its' := its ++ [.int (g z) t']) (ys := vI ((ns.map g).take (j + 1))) (f := (·.push (.int (g z) t'))) (t' := s''.toks) upd_same gk (by simp) (by
      rw [ek]
      unfold vI
      rw [List.map_append]
      exact rv.append (.cons ⟨t', rfl⟩ .nil)) (by rw [vI_len, List.length_take, List.length_map]; have := Nat.min_le_right (j + 1) ns.length; omega)
    rw [upd_upd] at J3
    exact J3
  case done =>
    rintro s' J
    have e3 : (ns.map g).take (0 + items.length) = ns.map g := List.take_of_length_le (by rw [List.length_map]; omega)
    rw [e3] at J
    obtain ⟨_, its, n, rv, hl2, gk⟩ := J.lstM (l := kS) upd_same
    try dsimp only
    refine wpAny_bind (listItems_at gk rfl ?_)
    exact srt_end hi inc h64 (by simpa using intsAre_of rv) J hkn a0 aC aP k
end
end L2
set_option Elab.async false
set_option linter.all false
set_option maxRecDepth 100000
namespace L2
open PySem PySem.Spec PyProof.Rows
section
variable {X : Cx} {K : PySem.W.Frag}
def tSortKey (K : PySem.W.Frag) (P : Addr) (q : Str) (j : Nat) (te : TE) : TE := fun σ H Q => te σ H fun x H1 => ∃ (p : Addr) (lo hi : Int) (n : Nat) (a : Addr) (ks : List Int), x = .ref p ∧ H1 p = some (rngO p lo hi 1) ∧ Builtin.Range.small lo hi 1 = true ∧
  Builtin.Range.rangeSize lo hi 1 = (n : Int) ∧ n < 64 ∧ σ[j]? = some (some (.ref a)) ∧ SqL K H1 a (vI ks) ∧ 0 ≤ lo ∧ lo.toNat + n ≤ ks.length ∧ Tb P q H1 ∧
  ∀ l H2 ns', SameT H1 H2 → Tb P q H2 → H1 l = none → H2 l = some (.lst (vI ns')) → ns'.Perm (rngL lo 1 n) →
    ns'.Pairwise (fun x y => -(ks.getD x.toNat 0) < -(ks.getD y.toNat 0) ∨ (-(ks.getD x.toNat 0) = -(ks.getD y.toNat 0) ∧ x < y)) → Q (.ref l) H2
theorem rngL_inc (lo : Int) (n : Nat) : (rngL lo 1 n).Pairwise (· < ·) := by
  unfold rngL
  rw [List.pairwise_map]
  exact List.pairwise_lt_range.imp fun {a b} h => by omega
theorem rngL_len (lo : Int) (n : Nat) : (rngL lo 1 n).length = n := by unfold rngL; rw [List.length_map, List.length_range]
theorem items_rng {lo : Int} {n : Nat} {acc : Array Value} (h : ItemsOf (fun i v => ∃ t, v = .int (lo + i * 1) t) acc n) : IntsAre acc.toList (rngL lo 1 n) := by
  refine intsAre_of (vals_ptw _ _ (by rw [List.length_map, rngL_len, Array.length_toList, h.1]) fun i x u e1 e2 => ?_)
  obtain ⟨z, hz1, rfl⟩ := vI_got e1
  obtain ⟨t', rfl⟩ := h.2 i u (by rw [← Array.getElem?_toList]; exact e2)
  have hin : i < n := by
    have := (List.getElem?_eq_some_iff.mp e1).1
    rwa [List.length_map, rngL_len] at this
  unfold rngL at hz1
  rw [List.getElem?_map, List.getElem?_range hin] at hz1
  cases hz1
  exact ⟨t', rfl⟩
theorem clos_one {scope : Scope} {env : Env} {x nm : Str} {cc : Addr} (hnames : scope.names = [(x, .local), (nm, .free)]) (hcc : env.cells.lookup nm = some cc) : closureFor scope env = pure [(nm, cc)] := by
  have hc : cellOf env nm = pure cc := by unfold cellOf; rw [hcc]
  unfold closureFor
  rw [hnames]
  simp only [List.forIn_cons, List.forIn_nil, hc, pure_bind, show (NameKind.local == NameKind.free) = false from rfl, show (NameKind.free == NameKind.free) = true from rfl, if_true, if_false, Bool.false_eq_true]
theorem pe_sortKey {P c : Addr} {q x nm : Str} {j : Nat} {e : Expr} {te : TE} {p1 pos kp lpos b1 b2 b3 b4 : Pos} {params : Arguments} {scope : Scope}
    (hg : Gl X "sorted") (hm : X.mg "sorted" = none) (he : PE X e te) (C : PySem.W.CodeHd X.base c P) (B : Bm X.mg X.base) (hr : Room 2 X.A) (hcode : X.env.code = .ref c := by rfl) (hq : X.env.qual ++ "<lambda>" = q := by rfl)
    (hN : X.N[j]? = some nm := by rfl) (hkd : X.env.kindOf nm = some .cell := by rfl) (hnames : scope.names = [(x, .local), (nm, .free)] := by rfl) (hxn : x ≠ nm := by decide) (hkind : scope.kind = .function := by rfl) (hco : scope.isCoroutine = false := by rfl) (hgen : scope.isGenerator = false := by rfl)
    (hdef : defaultsOf params X.env = ([], []) := by rfl)
    (hbind : ∀ (cc c' : Addr) (pm ctv w : Value), bindArgs (PySem.W.kla_fn "<lambda>" q params (.UnaryOp .USub (.Subscript (.Name nm b1) (.Name x b2) b3) b4) scope [(nm, cc)] pm (.ref c') ctv) ⟨[w], []⟩ = pure [(x, w)] := by intros; rfl)
    (hd1 : (x == ("__debug__" : Str)) = false := by decide) (hd2 : (x == ("__classdict__" : Str)) = false := by decide) (hd3 : (nm == ("__debug__" : Str)) = false := by decide) (hd4 : (nm == ("__classdict__" : Str)) = false := by decide)
    (hK : X.K = K := by rfl) (hc : X.calm = true := by rfl)
    (hs : backTo pos (starEach [e] X.env) = (false, eval e X.env) :: backTo pos (starEach [] X.env) := by rfl)
    (hplain : (backTo pos (starEach [e] X.env)).any (·.1) = false := by rfl) :
    PE X (.Call (.Name "sorted" p1) [e] [⟨some "key", .Lambda params (.UnaryOp .USub (.Subscript (.Name nm b1) (.Name x b2) b3) b4) scope lpos, kp⟩] pos) (tSortKey K P q j te) := by
  subst hK
  intro pins s σ H Q I h
  have hsz : sizeLine = 16777216 := sizeLine_eq
  refine wpAny_Call_Name_kw (ld_blt I hg hm bt_sorted ?_ (by decide) (by decide))
  refine callWith_kw ?_ hs hplain rfl rfl
  rw [hs]
  refine Calls.spliced_cons (thn (he pins s σ H _ I h) fun u s1 ⟨y, H1, I1, r1, q1⟩ => Calls.spliced_nil ?_)
  obtain ⟨p, lo, hi, n, a, ks, rfl, hp, hsm, hn, h64, hσ, hS, h0, hlen, tb, k⟩ := q1
  cases r1
  obtain ⟨cc, hcc⟩ := I1.ok.has nm (.inl hkd)
  refine kws_cons (lam_make I1 tb hcode C B hq hdef (clos_one hnames hcc) fun f c' pm ctv H2 s2 t2 tb2 hc2 hz2 I2 => kws_nil ?_)
  show wpAny _ _ (call (.builtin "sorted") [.ref p] [(Str.ofString "key", .ref f)]) _ _ _
  refine call_function_entry_kw kind_sorted plain_sorted entry_sorted (ksk_s1 _ _) ?_
  unfold Builtin.«sorted»
  refine wpAny_bind (m := checkCount "sorted" 1 1 _) (wpAny_pure ?_)
  obtain ⟨⟨t, u, v, hrg⟩, _, _⟩ := I2.hok p _ (t2.ext hp)
  refine wpAny_bind (collect_rng (I2.ok.hd hc) hrg hsm hn (by omega) fun h3 tk3 acc hk3 hz3 hit => ?_)
  have hi3 := items_rng hit
  have hl3 : acc.toList.length = n := by rw [hi3.length, rngL_len]
  refine wpAny_bind (wpAny_newList ?_ (by omega))
  have I3 := I2.kept (t' := tk3) (h' := h3.push { cls := .type "list", data := .seq acc.toList.toArray }) fun b u e => Heap.get?_push_of_some _ (hk3 b u e)
  have hoL : (h3.push { cls := .type "list", data := .seq acc.toList.toArray }).get? h3.objs.size = some (seqObj "list" acc.toList.toArray 0) := Heap.get?_push_size _ rfl
  have hge : s2.heap.objs.size ≤ h3.objs.size := hz3
  have fr2 : H2 h3.objs.size = none := I2.hok.fresh hge
  have fr1 : H1 h3.objs.size = none := I1.hok.fresh (Nat.le_trans hz2 hge)
  refine wpAny_bind (wpAny_holding (wpAny_call_entry_kw slot_list_sort ⟨_, hoL, rfl⟩ entry_list_sort ?body (ksk_l1 _ _)))
  case body =>
    show wpAny (model X.prog X.w) X.A.in1.in1 (Builtin.«list.sort» ⟨[.ref h3.objs.size], [(Str.ofString "key", .ref f)]⟩) _ _ _
    rw [ksk_t1]
    refine srt_tree (g := fun z => -(ks.getD z.toNat 0)) I3 fr2 hoL (Nat.le_trans I2.sz hge) (Nat.ne_of_gt (Nat.lt_of_lt_of_le I2.lt hge)) (I2.nofs hge) (fun z c e => ?_) (fun pp hpp => ?_) hi3 (rngL_inc lo n) (by rw [rngL_len]; exact h64)
      (fun z t pl H' s' hz sm J => ?_) fun H4 s4 ns' sm ha ha4 pm4 pw4 I4 => ⟨_, rfl, ?_⟩
    · obtain ⟨v, hv⟩ := I2.cell z c e
      exact Nat.ne_of_lt (Nat.lt_of_lt_of_le hv.lt hge)
    · exact Nat.ne_of_lt (Nat.lt_of_lt_of_le (Heap.lt_size (I2.pin pp hpp).1) hge)
    · obtain ⟨i, hin, ez⟩ : ∃ i : Nat, i < n ∧ z = lo + i := by
        unfold rngL at hz
        obtain ⟨i, hi1, hi2⟩ := List.mem_map.mp hz
        exact ⟨i, List.mem_range.mp hi1, by omega⟩
      have hzl : z.toNat < ks.length := by omega
      have hx2 : scope.names.lookup nm = some .free := by rw [hnames, List.lookup_cons, beq_false_of_ne (Ne.symm hxn)]; simp
      have hx1 : scope.names.lookup x = some .local := by rw [hnames]; simp
      refine wpAny_mono (lam_call (y := .int z) (v := .ref a) (Q := fun v H'' => v = .int (-(ks.getD z.toNat 0)) ∧ H'' = H') J I.ok.frames (I.ok.hd hc) (by have := hr.dp; show X.A.depth < _; omega)
        (List.mem_append_right _ List.mem_cons_self) (sm _ _ hc2) hN hσ hkd hcc hnames hxn hkind hco hgen (hbind cc c' pm ctv) ⟨t, rfl⟩
        (fun env s H hes => pe_un un_neg (pe_ix (ix_listK (K := X.K)) (pe_var (i := 1) rfl (.inr (.inr (by show env.scope.names.lookup nm = _; rw [hes]; exact hx2))) hd3 hd4) (pe_var (i := 0) rfl (.inl (by show env.scope.names.lookup x = _; rw [hes]; exact hx1)) hd1 hd2) (fun _ _ => rfl)))
        ⟨_, rfl, _, rfl, a, vI ks, z, .int (ks.getD z.toNat 0), rfl, rfl, sm.seq (t2.seq hS), ?_, _, rfl, rfl, rfl⟩) (fun u s'' ⟨v, H'', J2, rv, ev, eh⟩ => ?_) fun _ _ z => z
      · refine atI_of (by omega) ?_
        unfold vI
        rw [List.getElem?_map, List.getElem?_eq_getElem hzl, List.getD_eq_getElem?_getD, List.getElem?_eq_getElem hzl]
        rfl
      · subst ev eh
        exact ⟨rv, J2⟩
    · refine wpAny_pure ⟨_, rfl, .ref h3.objs.size, H4, I4.pins_of fun pp hpp => I4.pin pp (List.mem_append_right _ (List.mem_cons_of_mem _ hpp)), rfl, ?_⟩
      exact k _ H4 ns' (t2.trans sm.toT) (tb2.same sm) fr1 ha4 pm4 pw4
end
end L2
set_option Elab.async false
set_option linter.all false
set_option maxRecDepth 100000
namespace L2
open PySem PySem.Spec PyProof.Rows
theorem tab_in {K : PySem.W.Frag} {x : Str} {f c P : Addr} {fd : FuncData} {oc o1 : Value} {od o2 : Option Addr} {osl o3 : Array (Option Value)} {vs : Array Value} (hn : PySem.W.nsIn K mainGlobals x = some (some (.ref f)))
    (lk : K.lookup f = some ⟨oc, od, .func fd, osl⟩) (hc : fd.code = .ref c) (lc : K.lookup c = some ⟨o1, o2, .fields vs, o3⟩) (hv : (vs[11]? : Option Value) = some (.ref P)) : PySem.W.tabIn K x = some (c, P) := by
  unfold PySem.W.tabIn
  rw [hn]
  simp only [lk, hc, lc, hv]
theorem Fun.okC {P : Program} {w : World} {K : PySem.W.Frag} {mg : Str → Option Value} {base : Heap} {x qual : Str} {st : Stmt} {f c : Addr} {fd : FuncData} {N ps : List Str} {k : Nat} {sp : Sp} (F : Fun K x qual st f fd) (hc : fd.code = .ref c) (S : FnScope N ps (defScope st))
    (len : ∀ vs H Q E, sp vs H Q E → vs.length = ps.length)
    (hbody : ∀ (A : Around) (outer : List Env) (s : Shared) (H : Hp) (vs : List V) (Q : VK) (E : XK), Room k (A.deeper (envOfC qual (defScope st) s.heap.objs.size f (.ref c))) → sp vs H Q E →
      ∃ t, PSs (cxOf CX0 P w K mg base N qual (defScope st) f (.ref c) A outer s H E).nox (defBody st) t ∧ t { nx := fun _ H' => Q .non H', rt := Q } (start N vs) H) : FnOk P w K mg base CX0 (k + 1) f fd ps sp := by
  obtain ⟨oc, od, kV, doc, pm, an, cdv, ct, osl, rfl, lk, hcd⟩ := F.ex
  have e : cdv = .ref c := hc
  subst e
  refine fn_of lk hcd S len fun A outer s H vs Q E hr hsp => ?_
  obtain ⟨t, h, q⟩ := hbody A outer s H vs Q E hr hsp
  exact ⟨t, h.nox, q⟩
theorem law_callT {P : Program} {w : World} {K : PySem.W.Frag} {mg mb : Str → Option Value} {CX : CXT} {k : Nat} {fa a c T : Addr} {q : Str} {fd : FuncData} {x : Str} {sp : Sp} {s₁ : Shared} {vs : List Value} {ns : List Int}
    (KX : K.In s₁.heap) (hns : s₁.heap.Ns mainGlobals mg) (hb : s₁.heap.Ns builtinsNs mb) (hbb : ∀ x : Str, x ≠ "__name__" → mb x = bootBuiltins x) (hlim : s₁.heap.NoLimit) (hg : s₁.gens = #[])
    (ha : s₁.heap.get? a = some { cls := .type "list", data := .seq vs.toArray }) (hi : IntsAre vs ns) (hl : ns.length ≤ sizeLine) (hr : Room k callerA)
    (hC : PySem.W.CodeHd s₁.heap c T) (hT : s₁.heap.get? T = some (PySem.W.tabObj #[])) (hKT : K.lookup T = none) (hbm : Bm mg s₁.heap)
    (F : ∀ base : Heap, K.In base → base.Ns mainGlobals mg → PySem.W.CodeHd base c T → Bm mg base → FnOk P w K mg base CX k fa fd [x] sp) (hbind : ∀ (s : Shared) (u : Value), BindsTo s fd ⟨[u], []⟩ [(x, u)])
    (hsp : ∀ H : Hp, SqL K H a (ns.map V.int) → Tb T q H → sp [.ref a] H (fun v _ => v = .bl true) fun _ _ _ => False)
    (hCX : ∀ H e s', CX [] H s₁ (fun _ _ _ => False) e s' → False) :
    codeAny (model P w) callerA (.call (.ref fa) ⟨[.ref a], []⟩) (fun r s' => r = .ok (.ret (.bool true)) ∧ OldK s₁.heap s'.heap ∧ s'.os = s₁.os ∧ AllBare s'.gens) s₁ := by
  have rv := vals_ints hi
  have lenV := hi.length
  have aT : a ≠ T := fun e => by rw [e, hT] at ha; cases ha
  have core : ∀ H : Hp, H T = some (.tbl #[]) → (∀ b u, H b = some u → b = T ∨ (b = a ∧ ∃ o xs, u = .frz o (.lst xs))) → SqL K H a (ns.map V.int) → HOk P w H s₁.heap → (H a ≠ none → K.lookup a = none) →
      codeAny (model P w) callerA (.call (.ref fa) ⟨[.ref a], []⟩) (fun r s' => r = .ok (.ret (.bool true)) ∧ OldK s₁.heap s'.heap ∧ s'.os = s₁.os ∧ AllBare s'.gens) s₁ := by
    intro H hHT hA hS hok hK
    have base_of : ∀ {b : Addr} {o : Obj}, s₁.heap.get? b = some o → H b = none → (hidT s₁.heap H).get? b = some o := fun e n => hidT_get e n
    have noA : ∀ {b : Addr} {o : Obj}, s₁.heap.get? b = some o → o.cls ≠ .type "list" ∨ (∃ es ep, o.data = .dict es ep) → o.cls ≠ .none ∨ (∃ es ep, o.data = .dict es ep) → H b = none := fun {b o} e d d2 => by
      cases q : H b with
      | none => rfl
      | some u =>
        exfalso
        rcases hA b u q with e' | ⟨e', _⟩
        · rw [e', hT] at e
          cases e
          rcases d2 with d2 | ⟨es, ep, d2⟩
          · exact d2 rfl
          · have d' : Data.fields _ = Data.dict es ep := d2
            cases d'
        · rw [e', ha] at e
          cases e
          rcases d with d | ⟨es, ep, d⟩
          · exact d rfl
          · have d' : Data.seq vs.toArray _ = Data.dict es ep := d
            cases d'
    have nsK : ∀ {b : Addr} {m : Str → Option Value}, s₁.heap.Ns b m → (hidT s₁.heap H).Ns b m := fun {b m} ⟨o, es, ep, e, d, r⟩ => ⟨o, es, ep, base_of e (noA e (.inr ⟨es, ep, d⟩) (.inr ⟨es, ep, d⟩)), d, r⟩
    have hKb : K.In (hidT s₁.heap H) := fun b o e => base_of (KX b o e) (by
      cases q : H b with
      | none => rfl
      | some u =>
        exfalso
        rcases hA b u q with e' | ⟨e', _⟩
        · rw [e', hKT] at e; cases e
        · rw [e', hK (by rw [← e', q]; simp)] at e; cases e)
    have hM : Mod K mg (hidT s₁.heap H) := ⟨hKb, nsK hns, ⟨mb, nsK hb, hbb⟩, let ⟨mc, h1, h2⟩ := hlim; ⟨mc, nsK h1, h2⟩⟩
    have hCb : PySem.W.CodeHd (hidT s₁.heap H) c T := by
      obtain ⟨o, vs', file, tf, flags, tg, inF, text, tt, e1, r1, r⟩ := hC
      exact ⟨o, vs', file, tf, flags, tg, inF, text, tt, base_of e1 (noA e1 (.inl (by rw [r1]; decide)) (.inl (by rw [r1]; intro z; cases z))), r1, r⟩
    have hBb : Bm mg (hidT s₁.heap H) := by
      obtain ⟨bm, ob, b1, b2, b3, b4, r⟩ := hbm
      exact ⟨bm, ob, b1, b2, base_of b3 (noA b3 (.inl (by rw [b4]; decide)) (.inl (by rw [b4]; intro z; cases z))), b4, r⟩
    have e0 : Env0 P w K mg (hidT s₁.heap H) callerA [] s₁ H := ⟨rfl, hM, fun b o e => of_hidT e, Nat.le_of_eq (hidT_size _ _), trivial, fun b hb => absurd (show b ∈ ([] : List Addr) from hb) (by simp), hok, .of_eq hg⟩
    have tb : Tb T q H := ⟨#[], hHT, trivial, fun pos cv e => by cases e⟩
    refine codeAny_mono ((F _ hKb (nsK hns) hCb hBb).run callerA [] s₁ H ⟨[.ref a], []⟩ [.ref a] [.ref a] _ _ hr e0 (hbind s₁ (.ref a)) (.cons rfl .nil) (hsp H hS tb)) fun r s' h => ?_
    cases r with
    | error e => exact (hCX H e s' h).elim
    | ok fl =>
      cases fl with
      | next => exact False.elim h
      | brk => exact False.elim h
      | cont => exact False.elim h
      | ret u =>
        obtain ⟨v, H', os, bare, un, hok', r', q'⟩ := h
        have q2 : v = .bl true := q'
        subst q2
        obtain rfl : u = Value.bool true := r'
        refine ⟨rfl, ⟨fun b o e => ?_, fun b o e => un.there b o e (by simp)⟩, os, bare⟩
        cases q : H b with
        | none => exact .inl (un.keep b o e q (by intro z; exact absurd (show b ∈ ([] : List Addr) from z) (by simp)) (by simp))
        | some u =>
          rcases hA b u q with z | ⟨z, ob, xs, zu⟩
          · subst z
            obtain ⟨more, e2⟩ := un.tbls b #[] hHT
            have e3 : s'.heap.get? b = some (PySem.W.tabObj (#[] ++ more)) := hok' b _ e2
            rw [hT] at e
            cases e
            exact .inr (.inl ⟨(hC.tab hT).isCodeTable, rfl, #[], more, rfl, e3⟩)
          · subst zu
            have z2 := un.frzs b ob _ q
            obtain ⟨e1, _⟩ := hok b _ q
            obtain ⟨e2, _⟩ := hok' b _ z2
            rw [e] at e1; cases e1
            exact .inl e2
  cases hk : K.lookup a with
  | some o =>
    have e := KX a o hk
    rw [ha] at e
    cases e
    refine core (fun b => if b = T then some (.tbl #[]) else none) (if_pos rfl) (fun b u z => ?_) (.inr ⟨_, vs.toArray, _, hk, rfl, rfl, rfl, by rw [List.size_toArray, lenV]; exact hl, by simpa using rv⟩) (fun b u z => ?_) fun z => absurd (if_neg aT) z
    · by_cases hb : b = T
      · exact .inl hb
      · have z' := (if_neg hb).symm.trans z
        cases z'
    · by_cases hb : b = T
      · have z' := (if_pos hb).symm.trans z
        cases z'
        rw [hb]
        exact hT
      · have z' := (if_neg hb).symm.trans z
        cases z'
  | none =>
    refine core (fun b => if b = T then some (.tbl #[]) else if b = a then some (.frz { cls := .type "list", data := .seq vs.toArray } (.lst (ns.map V.int))) else none) (if_pos rfl) (fun b u z => ?_)
      (.inl (.inr ⟨{ cls := .type "list", data := .seq vs.toArray }, (if_neg aT).trans (if_pos rfl)⟩)) (fun b u z => ?_) fun _ => hk
    · by_cases hb : b = T
      · exact .inl hb
      · have z' := (if_neg hb).symm.trans z
        by_cases hb2 : b = a
        · have z2 := (if_pos hb2).symm.trans z'
          exact .inr ⟨hb2, _, _, (Option.some.inj z2).symm⟩
        · have z2 := (if_neg hb2).symm.trans z'
          cases z2
    · by_cases hb : b = T
      · have z' := (if_pos hb).symm.trans z
        cases z'
        rw [hb]
        exact hT
      · have z' := (if_neg hb).symm.trans z
        by_cases hb2 : b = a
        · have z2 := (if_pos hb2).symm.trans z'
          cases z2
          rw [hb2]
          exact ⟨ha, by rw [List.length_map]; exact hl, vs, _, rv, ha⟩
        · have z2 := (if_neg hb2).symm.trans z'
          cases z2
theorem walk_ofT {l : PySem.W.OpenLaw} {n k : Nat} {q : Program} {loose : List Str} {XP : (Str → Option Value) → Heap → Prop} {YP : World → Heap → Prop} {d d' : DefRec} {K : Params → PySem.W.Frag} {CX : CXT} {sp : PySem.W.Frag → Addr → Sp} {x y qn : Str}
    (hn : l.most = some n) (hn2 : n ≤ sizeLine) (hdf : d.params.defaults = []) (hr : Room k callerA)
    (hY : ∀ (w : World) (h : Heap), YP w h → (K w.params).In h) (hrec : (recsOf q).find? (fun e => e.name == y) = some d')
    (F : ∀ (w : World) (mg : Str → Option Value) (fa : Addr) (h : Heap), (K w.params).In h → h.Ns mainGlobals mg → mg d.name = some (.ref fa) →
      ∃ (fd : FuncData) (c T : Addr), (∀ (s : Shared) (u : Value), BindsTo s fd ⟨[u], []⟩ [(x, u)]) ∧ PySem.W.tabIn (K w.params) y = some (c, T) ∧ PySem.W.noTabs (K w.params) = true ∧
        ∀ base : Heap, (K w.params).In base → base.Ns mainGlobals mg → PySem.W.CodeHd base c T → Bm mg base → FnOk l.prog w (K w.params) mg base CX k fa fd [x] (sp (K w.params) T))
    (hsp : ∀ (K : PySem.W.Frag) (T : Addr) (H : Hp) (a : Addr) (ns : List Int), ns.length ≤ n → SqL K H a (ns.map V.int) → Tb T qn H → sp K T [.ref a] H (fun v _ => v = .bl true) fun _ _ _ => False)
    (hCX : ∀ (H : Hp) (s : Shared) (e : Value) (s' : Shared), CX [] H s (fun _ _ _ => False) e s' → False) :
    PySem.W.WalkO q loose XP YP l.row.toRowW d [] (fun f vs => PySem.call f vs) := by
  refine Att.attach_call hn hdf fun w s₀ s₁ mg mb fa o pm cd doc a vs ns G Y ho hd hcd hmg hobj hints hlen hg => ?_
  have KX := hY w _ Y
  obtain ⟨fd, c, T, hb, hT, hKT0, hF⟩ := F w mg fa _ KX G.T.g hmg
  obtain ⟨hC, hT2⟩ := PySem.W.tab_of G.T KX hrec hT
  have hKT : (K w.params).lookup T = none := by
    cases e : (K w.params).lookup T with
    | none => rfl
    | some o =>
      exfalso
      have h1 := KX T o e
      rw [hT2] at h1
      cases h1
      have h2 := List.all_eq_true.mp hKT0 (T, PySem.W.tabObj #[]) (PySem.W.mem_of_lookupK e)
      exact absurd (show false = true from h2) Bool.false_ne_true
  exact law_callT KX G.T.g G.T.b G.T.builtins G.T.nolimit hg hobj hints (Nat.le_trans hlen hn2) hr hC hT2 hKT G.T.bmain hF hb (fun H hS tb => hsp _ T H a ns hlen hS tb) fun H e s' => hCX H s₁ e s'
end L2
set_option Elab.async false
set_option linter.all false
set_option maxRecDepth 100000
set_option maxHeartbeats 4000000
namespace Mine
open PySem L2
def top (i : Nat) : Stmt := PySem.Challenge.pw_heddle_k73_no_cloths_in_layers.main.body.getD i (.Pass ⟨0, 0, 0, 0⟩)
abbrev s_measured : Stmt := top 6
theorem sc_measured : FnScope ["cloth"] ["cloth"] (defScope s_measured) := ⟨rfl, rfl, rfl, by decide +kernel, rfl, by decide +kernel, by decide +kernel⟩
abbrev s_measured_texts : Stmt := top 7
theorem sc_measured_texts : FnScope ["texts", "least", "signs", "ends", "text"] ["texts", "least", "signs"] (defScope s_measured_texts) := ⟨rfl, rfl, rfl, by decide +kernel, rfl, by decide +kernel, by decide +kernel⟩
abbrev s_check_pick : Stmt := top 8
theorem sc_check_pick : FnScope ["text", "ends", "signs", "sign"] ["text", "ends", "signs"] (defScope s_check_pick) := ⟨rfl, rfl, rfl, by decide +kernel, rfl, by decide +kernel, by decide +kernel⟩
abbrev s_check_strand : Stmt := top 9
theorem sc_check_strand : FnScope ["number", "count"] ["number", "count"] (defScope s_check_strand) := ⟨rfl, rfl, rfl, by decide +kernel, rfl, by decide +kernel, by decide +kernel⟩
abbrev s_end_signs : Stmt := top 10
theorem sc_end_signs : FnScope ["cloth", "end"] ["cloth", "end"] (defScope s_end_signs) := ⟨rfl, rfl, rfl, by decide +kernel, rfl, by decide +kernel, by decide +kernel⟩
abbrev s_strand_over : Stmt := top 12
theorem sc_strand_over : FnScope ["cloth", "one", "other", "size"] ["cloth", "one", "other"] (defScope s_strand_over) := ⟨rfl, rfl, rfl, by decide +kernel, rfl, by decide +kernel, by decide +kernel⟩
abbrev s_scores_of : Stmt := top 13
theorem sc_scores_of : FnScope ["cloth", "size", "of_ends"] ["cloth"] (defScope s_scores_of) := ⟨rfl, rfl, rfl, by decide +kernel, rfl, by decide +kernel, by decide +kernel⟩
abbrev s_tops_of : Stmt := top 15
theorem sc_tops_of : FnScope ["cloth", "size", "scores", "end_scores", "pick_scores", "tops", "ends", "picks", "crossings"] ["cloth"] (defScope s_tops_of) := ⟨rfl, rfl, rfl, by decide +kernel, rfl, by decide +kernel, by decide +kernel⟩
abbrev s_layers_of : Stmt := top 16
theorem sc_layers_of : FnScope ["cloth", "size", "scores", "ends", "picks", "tops", "layers", "upper", "lower"] ["cloth"] (defScope s_layers_of) := ⟨rfl, rfl, rfl, by decide +kernel, rfl, by decide +kernel, by decide +kernel⟩
abbrev s_layer_numbers : Stmt := top 17
theorem sc_layer_numbers : FnScope ["cloth", "layers", "numbers", "number", "layer", "strand"] ["cloth"] (defScope s_layer_numbers) := ⟨rfl, rfl, rfl, by decide +kernel, rfl, by decide +kernel, by decide +kernel⟩
abbrev s_check_set : Stmt := top 19
theorem sc_check_set : FnScope ["strands", "count", "k"] ["strands", "count"] (defScope s_check_set) := ⟨rfl, rfl, rfl, by decide +kernel, rfl, by decide +kernel, by decide +kernel⟩
abbrev s_lower_strands : Stmt := top 20
theorem sc_lower_strands : FnScope ["texts", "ends", "lower", "end", "text"] ["texts"] (defScope s_lower_strands) := ⟨rfl, rfl, rfl, by decide +kernel, rfl, by decide +kernel, by decide +kernel⟩
abbrev s_lower_within : Stmt := top 21
theorem sc_lower_within : FnScope ["lower", "strands", "narrowed", "strand"] ["lower", "strands"] (defScope s_lower_within) := ⟨rfl, rfl, rfl, by decide +kernel, rfl, by decide +kernel, by decide +kernel⟩
abbrev s_ways_from : Stmt := top 22
theorem sc_ways_from : FnScope ["lower", "start", "ahead", "found", "place", "one", "other"] ["lower", "start"] (defScope s_ways_from) := ⟨rfl, rfl, rfl, by decide +kernel, rfl, by decide +kernel, by decide +kernel⟩
abbrev s_way_to : Stmt := top 23
theorem sc_way_to : FnScope ["ahead", "goal", "way"] ["ahead", "goal"] (defScope s_way_to) := ⟨rfl, rfl, rfl, by decide +kernel, rfl, by decide +kernel, by decide +kernel⟩
abbrev s_upper_part : Stmt := top 24
theorem sc_upper_part : FnScope ["lower", "strands", "start", "ahead"] ["lower", "strands"] (defScope s_upper_part) := ⟨rfl, rfl, rfl, by decide +kernel, rfl, by decide +kernel, by decide +kernel⟩
abbrev s_way_between : Stmt := top 26
theorem sc_way_between : FnScope ["cloth", "one", "other", "size", "ahead"] ["cloth", "one", "other"] (defScope s_way_between) := ⟨rfl, rfl, rfl, by decide +kernel, rfl, by decide +kernel, by decide +kernel⟩
abbrev s_round_way : Stmt := top 27
theorem sc_round_way : FnScope ["cloth", "strands", "lower", "way", "strand"] ["cloth", "strands"] (defScope s_round_way) := ⟨rfl, rfl, rfl, by decide +kernel, rfl, by decide +kernel, by decide +kernel⟩
abbrev s_lifted_off : Stmt := top 28
theorem sc_lifted_off : FnScope ["cloth", "strands"] ["cloth", "strands"] (defScope s_lifted_off) := ⟨rfl, rfl, rfl, by decide +kernel, rfl, by decide +kernel, by decide +kernel⟩
abbrev s_web_of_set : Stmt := top 29
theorem sc_web_of_set : FnScope ["cloth", "strands", "size"] ["cloth", "strands"] (defScope s_web_of_set) := ⟨rfl, rfl, rfl, by decide +kernel, rfl, by decide +kernel, by decide +kernel⟩
abbrev s_law_at : Stmt := top 31
theorem sc_law_at : FnScope ["script", "k"] ["script", "k"] (defScope s_law_at) := ⟨rfl, rfl, rfl, by decide +kernel, rfl, by decide +kernel, by decide +kernel⟩
abbrev s_law_numbers : Stmt := top 32
theorem sc_law_numbers : FnScope ["script", "picks", "factor", "numbers", "k", "at", "number"] ["script", "picks", "factor"] (defScope s_law_numbers) := ⟨rfl, rfl, rfl, by decide +kernel, rfl, by decide +kernel, by decide +kernel⟩
abbrev s_law_levels : Stmt := top 33
theorem sc_law_levels : FnScope ["script", "strands", "many", "number", "levels", "k"] ["script", "strands", "many"] (defScope s_law_levels) := ⟨rfl, rfl, rfl, by decide +kernel, rfl, by decide +kernel, by decide +kernel⟩
abbrev s_law_text : Stmt := top 34
theorem sc_law_text : FnScope ["number", "pick", "ends", "levels", "signs", "k", "up"] ["number", "pick", "ends", "levels"] (defScope s_law_text) := ⟨rfl, rfl, rfl, by decide +kernel, rfl, by decide +kernel, by decide +kernel⟩
abbrev s_law_cloth : Stmt := top 35
theorem sc_law_cloth : FnScope ["script", "most", "ends", "picks", "factor", "numbers", "levels"] ["script", "most"] (defScope s_law_cloth) := ⟨rfl, rfl, rfl, by decide +kernel, rfl, by decide +kernel, by decide +kernel⟩
abbrev s_law_other_sign : Stmt := top 36
theorem sc_law_other_sign : FnScope ["rows", "cell", "some", "pick", "end", "row", "sign", "text"] ["rows", "cell"] (defScope s_law_other_sign) := ⟨rfl, rfl, rfl, by decide +kernel, rfl, by decide +kernel, by decide +kernel⟩
abbrev s_law_other_length : Stmt := top 37
theorem sc_law_other_length : FnScope ["rows", "cell", "pick", "text"] ["rows", "cell"] (defScope s_law_other_length) := ⟨rfl, rfl, rfl, by decide +kernel, rfl, by decide +kernel, by decide +kernel⟩
abbrev s_law_spoiled : Stmt := top 38
theorem sc_law_spoiled : FnScope ["rows", "cell", "rest"] ["rows", "cell"] (defScope s_law_spoiled) := ⟨rfl, rfl, rfl, by decide +kernel, rfl, by decide +kernel, by decide +kernel⟩
abbrev s_law_called : Stmt := top 39
theorem sc_law_called : FnScope ["way", "rows", "one", "other", "some"] ["way", "rows", "one", "other", "some"] (defScope s_law_called) := ⟨rfl, rfl, rfl, by decide +kernel, rfl, by decide +kernel, by decide +kernel⟩
abbrev s_law_caught : Stmt := top 40
theorem sc_law_caught : FnScope ["way", "rows", "one", "other", "some", "caught", "e"] ["way", "rows", "one", "other", "some"] (defScope s_law_caught) := ⟨rfl, rfl, rfl, by decide +kernel, rfl, by decide +kernel, by decide +kernel⟩
abbrev s_law_refused : Stmt := top 41
theorem sc_law_refused : FnScope ["caught"] ["caught"] (defScope s_law_refused) := ⟨rfl, rfl, rfl, by decide +kernel, rfl, by decide +kernel, by decide +kernel⟩
abbrev s_law : Stmt := top 42
theorem sc_law : FnScope ["script", "rows", "ends", "spoiled", "one", "other", "bad", "way"] ["script"] (defScope s_law) := ⟨rfl, rfl, rfl, by decide +kernel, rfl, by decide +kernel, by decide +kernel⟩
abbrev s_WeaveError_called : Stmt := (clsBody (top 1)).getD 0 (.Pass ⟨0, 0, 0, 0⟩)
abbrev s_NoCloth_called : Stmt := (clsBody (top 2)).getD 0 (.Pass ⟨0, 0, 0, 0⟩)
theorem sc_NoCloth_called : FnScope ["self"] ["self"] (defScope s_NoCloth_called) := ⟨rfl, rfl, rfl, by decide +kernel, rfl, by decide +kernel, by decide +kernel⟩
abbrev s_NoStrand_called : Stmt := (clsBody (top 3)).getD 0 (.Pass ⟨0, 0, 0, 0⟩)
set_option genInjectivity false in
structure Adr where
  f_measured : Addr
  d_measured : FuncData
  f_measured_texts : Addr
  d_measured_texts : FuncData
  f_check_pick : Addr
  d_check_pick : FuncData
  f_check_strand : Addr
  d_check_strand : FuncData
  f_end_signs : Addr
  d_end_signs : FuncData
  f_strand_over : Addr
  d_strand_over : FuncData
  f_scores_of : Addr
  d_scores_of : FuncData
  f_tops_of : Addr
  d_tops_of : FuncData
  f_layers_of : Addr
  d_layers_of : FuncData
  f_layer_numbers : Addr
  d_layer_numbers : FuncData
  f_check_set : Addr
  d_check_set : FuncData
  f_lower_strands : Addr
  d_lower_strands : FuncData
  f_lower_within : Addr
  d_lower_within : FuncData
  f_ways_from : Addr
  d_ways_from : FuncData
  f_way_to : Addr
  d_way_to : FuncData
  f_upper_part : Addr
  d_upper_part : FuncData
  f_way_between : Addr
  d_way_between : FuncData
  f_round_way : Addr
  d_round_way : FuncData
  f_lifted_off : Addr
  d_lifted_off : FuncData
  f_web_of_set : Addr
  d_web_of_set : FuncData
  f_law_at : Addr
  d_law_at : FuncData
  f_law_numbers : Addr
  d_law_numbers : FuncData
  f_law_levels : Addr
  d_law_levels : FuncData
  f_law_text : Addr
  d_law_text : FuncData
  f_law_cloth : Addr
  d_law_cloth : FuncData
  f_law_other_sign : Addr
  d_law_other_sign : FuncData
  f_law_other_length : Addr
  d_law_other_length : FuncData
  f_law_spoiled : Addr
  d_law_spoiled : FuncData
  f_law_called : Addr
  d_law_called : FuncData
  f_law_caught : Addr
  d_law_caught : FuncData
  f_law_refused : Addr
  d_law_refused : FuncData
  f_law : Addr
  d_law : FuncData
  e_WeaveError : Addr
  f_WeaveError_called : Addr
  d_WeaveError_called : FuncData
  e_NoCloth : Addr
  f_NoCloth_called : Addr
  d_NoCloth_called : FuncData
  e_NoStrand : Addr
  f_NoStrand_called : Addr
  d_NoStrand_called : FuncData
structure Txt (K : PySem.W.Frag) (mg : Str → Option Value) (t : Adr) : Prop where
  measured : Df K mg "measured" s_measured ["cloth"] t.f_measured t.d_measured
  measured_texts : Df K mg "measured_texts" s_measured_texts ["texts", "least", "signs"] t.f_measured_texts t.d_measured_texts
  check_pick : Df K mg "check_pick" s_check_pick ["text", "ends", "signs"] t.f_check_pick t.d_check_pick
  check_strand : Df K mg "check_strand" s_check_strand ["number", "count"] t.f_check_strand t.d_check_strand
  end_signs : Df K mg "end_signs" s_end_signs ["cloth", "end"] t.f_end_signs t.d_end_signs
  strand_over : Df K mg "strand_over" s_strand_over ["cloth", "one", "other"] t.f_strand_over t.d_strand_over
  scores_of : Df K mg "scores_of" s_scores_of ["cloth"] t.f_scores_of t.d_scores_of
  tops_of : Df K mg "tops_of" s_tops_of ["cloth"] t.f_tops_of t.d_tops_of
  layers_of : Df K mg "layers_of" s_layers_of ["cloth"] t.f_layers_of t.d_layers_of
  layer_numbers : Df K mg "layer_numbers" s_layer_numbers ["cloth"] t.f_layer_numbers t.d_layer_numbers
  check_set : Df K mg "check_set" s_check_set ["strands", "count"] t.f_check_set t.d_check_set
  lower_strands : Df K mg "lower_strands" s_lower_strands ["texts"] t.f_lower_strands t.d_lower_strands
  lower_within : Df K mg "lower_within" s_lower_within ["lower", "strands"] t.f_lower_within t.d_lower_within
  ways_from : Df K mg "ways_from" s_ways_from ["lower", "start"] t.f_ways_from t.d_ways_from
  way_to : Df K mg "way_to" s_way_to ["ahead", "goal"] t.f_way_to t.d_way_to
  upper_part : Df K mg "upper_part" s_upper_part ["lower", "strands"] t.f_upper_part t.d_upper_part
  way_between : Df K mg "way_between" s_way_between ["cloth", "one", "other"] t.f_way_between t.d_way_between
  round_way : Df K mg "round_way" s_round_way ["cloth", "strands"] t.f_round_way t.d_round_way
  lifted_off : Df K mg "lifted_off" s_lifted_off ["cloth", "strands"] t.f_lifted_off t.d_lifted_off
  web_of_set : Df K mg "web_of_set" s_web_of_set ["cloth", "strands"] t.f_web_of_set t.d_web_of_set
  law_at : Df K mg "_law_at" s_law_at ["script", "k"] t.f_law_at t.d_law_at
  law_numbers : Df K mg "_law_numbers" s_law_numbers ["script", "picks", "factor"] t.f_law_numbers t.d_law_numbers
  law_levels : Df K mg "_law_levels" s_law_levels ["script", "strands", "many"] t.f_law_levels t.d_law_levels
  law_text : Df K mg "_law_text" s_law_text ["number", "pick", "ends", "levels"] t.f_law_text t.d_law_text
  law_cloth : Df K mg "_law_cloth" s_law_cloth ["script", "most"] t.f_law_cloth t.d_law_cloth
  law_other_sign : Df K mg "_law_other_sign" s_law_other_sign ["rows", "cell"] t.f_law_other_sign t.d_law_other_sign
  law_other_length : Df K mg "_law_other_length" s_law_other_length ["rows", "cell"] t.f_law_other_length t.d_law_other_length
  law_spoiled : Df K mg "_law_spoiled" s_law_spoiled ["rows", "cell"] t.f_law_spoiled t.d_law_spoiled
  law_called : Df K mg "_law_called" s_law_called ["way", "rows", "one", "other", "some"] t.f_law_called t.d_law_called
  law_caught : Df K mg "_law_caught" s_law_caught ["way", "rows", "one", "other", "some"] t.f_law_caught t.d_law_caught
  law_refused : Df K mg "_law_refused" s_law_refused ["caught"] t.f_law_refused t.d_law_refused
  law : Df K mg "law" s_law ["script"] t.f_law t.d_law
  b_ValueError : mg "ValueError" = none
  b_enumerate : mg "enumerate" = none
  b_int : mg "int" = none
  b_isinstance : mg "isinstance" = none
  b_len : mg "len" = none
  b_list : mg "list" = none
  b_range : mg "range" = none
  b_reversed : mg "reversed" = none
  b_sorted : mg "sorted" = none
  b_sum : mg "sum" = none
  b_zip : mg "zip" = none
  c_MOST_STRANDS : ∃ tk, mg "MOST_STRANDS" = some (.int 40 tk)
  k_WeaveError : mg "WeaveError" = some (.ref t.e_WeaveError)
  x_WeaveError : Exn K t.e_WeaveError
  m_WeaveError : Mf K "called" "WeaveError.called" s_WeaveError_called ["self"] t.e_WeaveError t.f_WeaveError_called t.d_WeaveError_called
  k_NoCloth : mg "NoCloth" = some (.ref t.e_NoCloth)
  x_NoCloth : Exn K t.e_NoCloth
  m_NoCloth : Mf K "called" "NoCloth.called" s_NoCloth_called ["self"] t.e_NoCloth t.f_NoCloth_called t.d_NoCloth_called
  r_NoCloth_WeaveError : PySem.W.mroIn K t.e_NoCloth (.ref t.e_WeaveError) = some true
  r_NoCloth_NoCloth : PySem.W.mroIn K t.e_NoCloth (.ref t.e_NoCloth) = some true
  r_NoCloth_NoStrand : PySem.W.mroIn K t.e_NoCloth (.ref t.e_NoStrand) = some false
  k_NoStrand : mg "NoStrand" = some (.ref t.e_NoStrand)
  x_NoStrand : Exn K t.e_NoStrand
  m_NoStrand : Mf K "called" "NoStrand.called" s_NoStrand_called ["self"] t.e_NoStrand t.f_NoStrand_called t.d_NoStrand_called
  r_NoStrand_WeaveError : PySem.W.mroIn K t.e_NoStrand (.ref t.e_WeaveError) = some true
  r_NoStrand_NoCloth : PySem.W.mroIn K t.e_NoStrand (.ref t.e_NoCloth) = some false
  r_NoStrand_NoStrand : PySem.W.mroIn K t.e_NoStrand (.ref t.e_NoStrand) = some true
theorem bl1 {fd : FuncData} {ps : List Str} (h : ∀ a0 : Value, bindArgs fd ⟨[a0], []⟩ = pure (ps.zip [a0])) (us : List Value) (hl : us.length = 1) : bindArgs fd ⟨us, []⟩ = pure (ps.zip us) := by
  rcases us with _ | ⟨a0, us⟩
  · cases hl
  rcases us with _ | ⟨b, us⟩
  · exact h a0
  · cases hl
theorem bl2 {fd : FuncData} {ps : List Str} (h : ∀ a0 a1 : Value, bindArgs fd ⟨[a0, a1], []⟩ = pure (ps.zip [a0, a1])) (us : List Value) (hl : us.length = 2) : bindArgs fd ⟨us, []⟩ = pure (ps.zip us) := by
  rcases us with _ | ⟨a0, us⟩
  · cases hl
  rcases us with _ | ⟨a1, us⟩
  · cases hl
  rcases us with _ | ⟨b, us⟩
  · exact h a0 a1
  · cases hl
theorem bl3 {fd : FuncData} {ps : List Str} (h : ∀ a0 a1 a2 : Value, bindArgs fd ⟨[a0, a1, a2], []⟩ = pure (ps.zip [a0, a1, a2])) (us : List Value) (hl : us.length = 3) : bindArgs fd ⟨us, []⟩ = pure (ps.zip us) := by
  rcases us with _ | ⟨a0, us⟩
  · cases hl
  rcases us with _ | ⟨a1, us⟩
  · cases hl
  rcases us with _ | ⟨a2, us⟩
  · cases hl
  rcases us with _ | ⟨b, us⟩
  · exact h a0 a1 a2
  · cases hl
theorem bl4 {fd : FuncData} {ps : List Str} (h : ∀ a0 a1 a2 a3 : Value, bindArgs fd ⟨[a0, a1, a2, a3], []⟩ = pure (ps.zip [a0, a1, a2, a3])) (us : List Value) (hl : us.length = 4) : bindArgs fd ⟨us, []⟩ = pure (ps.zip us) := by
  rcases us with _ | ⟨a0, us⟩
  · cases hl
  rcases us with _ | ⟨a1, us⟩
  · cases hl
  rcases us with _ | ⟨a2, us⟩
  · cases hl
  rcases us with _ | ⟨a3, us⟩
  · cases hl
  rcases us with _ | ⟨b, us⟩
  · exact h a0 a1 a2 a3
  · cases hl
theorem bl5 {fd : FuncData} {ps : List Str} (h : ∀ a0 a1 a2 a3 a4 : Value, bindArgs fd ⟨[a0, a1, a2, a3, a4], []⟩ = pure (ps.zip [a0, a1, a2, a3, a4])) (us : List Value) (hl : us.length = 5) : bindArgs fd ⟨us, []⟩ = pure (ps.zip us) := by
  rcases us with _ | ⟨a0, us⟩
  · cases hl
  rcases us with _ | ⟨a1, us⟩
  · cases hl
  rcases us with _ | ⟨a2, us⟩
  · cases hl
  rcases us with _ | ⟨a3, us⟩
  · cases hl
  rcases us with _ | ⟨a4, us⟩
  · cases hl
  rcases us with _ | ⟨b, us⟩
  · exact h a0 a1 a2 a3 a4
  · cases hl
theorem txt_mk {K : PySem.W.Frag} {h : Heap} {mg : Str → Option Value} {f_measured : Addr} {od_measured an_measured : Option Addr} {sl_measured : Array (Option Value)} {oc_measured kV_measured dc_measured pm_measured cd_measured ct_measured : Value}
    {f_measured_texts : Addr} {od_measured_texts an_measured_texts : Option Addr} {sl_measured_texts : Array (Option Value)} {oc_measured_texts kV_measured_texts dc_measured_texts pm_measured_texts cd_measured_texts ct_measured_texts : Value}
    {f_check_pick : Addr} {od_check_pick an_check_pick : Option Addr} {sl_check_pick : Array (Option Value)} {oc_check_pick kV_check_pick dc_check_pick pm_check_pick cd_check_pick ct_check_pick : Value}
    {f_check_strand : Addr} {od_check_strand an_check_strand : Option Addr} {sl_check_strand : Array (Option Value)} {oc_check_strand kV_check_strand dc_check_strand pm_check_strand cd_check_strand ct_check_strand : Value}
    {f_end_signs : Addr} {od_end_signs an_end_signs : Option Addr} {sl_end_signs : Array (Option Value)} {oc_end_signs kV_end_signs dc_end_signs pm_end_signs cd_end_signs ct_end_signs : Value}
    {f_strand_over : Addr} {od_strand_over an_strand_over : Option Addr} {sl_strand_over : Array (Option Value)} {oc_strand_over kV_strand_over dc_strand_over pm_strand_over cd_strand_over ct_strand_over : Value}
    {f_scores_of : Addr} {od_scores_of an_scores_of : Option Addr} {sl_scores_of : Array (Option Value)} {oc_scores_of kV_scores_of dc_scores_of pm_scores_of cd_scores_of ct_scores_of : Value}
    {f_tops_of : Addr} {od_tops_of an_tops_of : Option Addr} {sl_tops_of : Array (Option Value)} {oc_tops_of kV_tops_of dc_tops_of pm_tops_of cd_tops_of ct_tops_of : Value}
    {f_layers_of : Addr} {od_layers_of an_layers_of : Option Addr} {sl_layers_of : Array (Option Value)} {oc_layers_of kV_layers_of dc_layers_of pm_layers_of cd_layers_of ct_layers_of : Value}
    {f_layer_numbers : Addr} {od_layer_numbers an_layer_numbers : Option Addr} {sl_layer_numbers : Array (Option Value)} {oc_layer_numbers kV_layer_numbers dc_layer_numbers pm_layer_numbers cd_layer_numbers ct_layer_numbers : Value}
    {f_check_set : Addr} {od_check_set an_check_set : Option Addr} {sl_check_set : Array (Option Value)} {oc_check_set kV_check_set dc_check_set pm_check_set cd_check_set ct_check_set : Value}
    {f_lower_strands : Addr} {od_lower_strands an_lower_strands : Option Addr} {sl_lower_strands : Array (Option Value)} {oc_lower_strands kV_lower_strands dc_lower_strands pm_lower_strands cd_lower_strands ct_lower_strands : Value}
    {f_lower_within : Addr} {od_lower_within an_lower_within : Option Addr} {sl_lower_within : Array (Option Value)} {oc_lower_within kV_lower_within dc_lower_within pm_lower_within cd_lower_within ct_lower_within : Value}
    {f_ways_from : Addr} {od_ways_from an_ways_from : Option Addr} {sl_ways_from : Array (Option Value)} {oc_ways_from kV_ways_from dc_ways_from pm_ways_from cd_ways_from ct_ways_from : Value}
    {f_way_to : Addr} {od_way_to an_way_to : Option Addr} {sl_way_to : Array (Option Value)} {oc_way_to kV_way_to dc_way_to pm_way_to cd_way_to ct_way_to : Value}
    {f_upper_part : Addr} {od_upper_part an_upper_part : Option Addr} {sl_upper_part : Array (Option Value)} {oc_upper_part kV_upper_part dc_upper_part pm_upper_part cd_upper_part ct_upper_part : Value}
    {f_way_between : Addr} {od_way_between an_way_between : Option Addr} {sl_way_between : Array (Option Value)} {oc_way_between kV_way_between dc_way_between pm_way_between cd_way_between ct_way_between : Value}
    {f_round_way : Addr} {od_round_way an_round_way : Option Addr} {sl_round_way : Array (Option Value)} {oc_round_way kV_round_way dc_round_way pm_round_way cd_round_way ct_round_way : Value}
    {f_lifted_off : Addr} {od_lifted_off an_lifted_off : Option Addr} {sl_lifted_off : Array (Option Value)} {oc_lifted_off kV_lifted_off dc_lifted_off pm_lifted_off cd_lifted_off ct_lifted_off : Value}
    {f_web_of_set : Addr} {od_web_of_set an_web_of_set : Option Addr} {sl_web_of_set : Array (Option Value)} {oc_web_of_set kV_web_of_set dc_web_of_set pm_web_of_set cd_web_of_set ct_web_of_set : Value}
    {f_law_at : Addr} {od_law_at an_law_at : Option Addr} {sl_law_at : Array (Option Value)} {oc_law_at kV_law_at dc_law_at pm_law_at cd_law_at ct_law_at : Value}
    {f_law_numbers : Addr} {od_law_numbers an_law_numbers : Option Addr} {sl_law_numbers : Array (Option Value)} {oc_law_numbers kV_law_numbers dc_law_numbers pm_law_numbers cd_law_numbers ct_law_numbers : Value}
    {f_law_levels : Addr} {od_law_levels an_law_levels : Option Addr} {sl_law_levels : Array (Option Value)} {oc_law_levels kV_law_levels dc_law_levels pm_law_levels cd_law_levels ct_law_levels : Value}
    {f_law_text : Addr} {od_law_text an_law_text : Option Addr} {sl_law_text : Array (Option Value)} {oc_law_text kV_law_text dc_law_text pm_law_text cd_law_text ct_law_text : Value}
    {f_law_cloth : Addr} {od_law_cloth an_law_cloth : Option Addr} {sl_law_cloth : Array (Option Value)} {oc_law_cloth kV_law_cloth dc_law_cloth pm_law_cloth cd_law_cloth ct_law_cloth : Value}
    {f_law_other_sign : Addr} {od_law_other_sign an_law_other_sign : Option Addr} {sl_law_other_sign : Array (Option Value)} {oc_law_other_sign kV_law_other_sign dc_law_other_sign pm_law_other_sign cd_law_other_sign ct_law_other_sign : Value}
    {f_law_other_length : Addr} {od_law_other_length an_law_other_length : Option Addr} {sl_law_other_length : Array (Option Value)} {oc_law_other_length kV_law_other_length dc_law_other_length pm_law_other_length cd_law_other_length ct_law_other_length : Value}
    {f_law_spoiled : Addr} {od_law_spoiled an_law_spoiled : Option Addr} {sl_law_spoiled : Array (Option Value)} {oc_law_spoiled kV_law_spoiled dc_law_spoiled pm_law_spoiled cd_law_spoiled ct_law_spoiled : Value}
    {f_law_called : Addr} {od_law_called an_law_called : Option Addr} {sl_law_called : Array (Option Value)} {oc_law_called kV_law_called dc_law_called pm_law_called cd_law_called ct_law_called : Value}
    {f_law_caught : Addr} {od_law_caught an_law_caught : Option Addr} {sl_law_caught : Array (Option Value)} {oc_law_caught kV_law_caught dc_law_caught pm_law_caught cd_law_caught ct_law_caught : Value}
    {f_law_refused : Addr} {od_law_refused an_law_refused : Option Addr} {sl_law_refused : Array (Option Value)} {oc_law_refused kV_law_refused dc_law_refused pm_law_refused cd_law_refused ct_law_refused : Value}
    {f_law : Addr} {od_law an_law : Option Addr} {sl_law : Array (Option Value)} {oc_law kV_law dc_law pm_law cd_law ct_law : Value}
    {q_MOST_STRANDS : Tok}
    {e_WeaveError : Addr}
    {e_NoCloth : Addr}
    {e_NoStrand : Addr}
    {f_WeaveError_called : Addr} {od_WeaveError_called an_WeaveError_called : Option Addr} {sl_WeaveError_called : Array (Option Value)} {oc_WeaveError_called kV_WeaveError_called dc_WeaveError_called pm_WeaveError_called cd_WeaveError_called ct_WeaveError_called : Value}
    {f_NoCloth_called : Addr} {od_NoCloth_called an_NoCloth_called : Option Addr} {sl_NoCloth_called : Array (Option Value)} {oc_NoCloth_called kV_NoCloth_called dc_NoCloth_called pm_NoCloth_called cd_NoCloth_called ct_NoCloth_called : Value}
    {f_NoStrand_called : Addr} {od_NoStrand_called an_NoStrand_called : Option Addr} {sl_NoStrand_called : Array (Option Value)} {oc_NoStrand_called kV_NoStrand_called dc_NoStrand_called pm_NoStrand_called cd_NoStrand_called ct_NoStrand_called : Value}
    (X : K.In h) (G : h.Ns mainGlobals mg)
    (a_measured : PySem.W.nsIn K mainGlobals "measured" = some (some (.ref f_measured)))
    (l_measured : K.lookup f_measured = some ⟨oc_measured, od_measured, .func (PySem.W.fnOf "measured" "measured" (defArgs s_measured) (defBody s_measured) (defScope s_measured) .none kV_measured dc_measured pm_measured an_measured cd_measured ct_measured), sl_measured⟩)
    (c_measured : PySem.W.codeIn K cd_measured "measured" = true)
    (k_measured : PySem.W.keepIn K (.ref f_measured) = true)
    (a_measured_texts : PySem.W.nsIn K mainGlobals "measured_texts" = some (some (.ref f_measured_texts)))
    (l_measured_texts : K.lookup f_measured_texts = some ⟨oc_measured_texts, od_measured_texts, .func (PySem.W.fnOf "measured_texts" "measured_texts" (defArgs s_measured_texts) (defBody s_measured_texts) (defScope s_measured_texts) .none kV_measured_texts dc_measured_texts pm_measured_texts an_measured_texts cd_measured_texts ct_measured_texts), sl_measured_texts⟩)
    (c_measured_texts : PySem.W.codeIn K cd_measured_texts "measured_texts" = true)
    (k_measured_texts : PySem.W.keepIn K (.ref f_measured_texts) = true)
    (a_check_pick : PySem.W.nsIn K mainGlobals "check_pick" = some (some (.ref f_check_pick)))
    (l_check_pick : K.lookup f_check_pick = some ⟨oc_check_pick, od_check_pick, .func (PySem.W.fnOf "check_pick" "check_pick" (defArgs s_check_pick) (defBody s_check_pick) (defScope s_check_pick) .none kV_check_pick dc_check_pick pm_check_pick an_check_pick cd_check_pick ct_check_pick), sl_check_pick⟩)
    (c_check_pick : PySem.W.codeIn K cd_check_pick "check_pick" = true)
    (k_check_pick : PySem.W.keepIn K (.ref f_check_pick) = true)
    (a_check_strand : PySem.W.nsIn K mainGlobals "check_strand" = some (some (.ref f_check_strand)))
    (l_check_strand : K.lookup f_check_strand = some ⟨oc_check_strand, od_check_strand, .func (PySem.W.fnOf "check_strand" "check_strand" (defArgs s_check_strand) (defBody s_check_strand) (defScope s_check_strand) .none kV_check_strand dc_check_strand pm_check_strand an_check_strand cd_check_strand ct_check_strand), sl_check_strand⟩)
    (c_check_strand : PySem.W.codeIn K cd_check_strand "check_strand" = true)
    (k_check_strand : PySem.W.keepIn K (.ref f_check_strand) = true)
    (a_end_signs : PySem.W.nsIn K mainGlobals "end_signs" = some (some (.ref f_end_signs)))
    (l_end_signs : K.lookup f_end_signs = some ⟨oc_end_signs, od_end_signs, .func (PySem.W.fnOf "end_signs" "end_signs" (defArgs s_end_signs) (defBody s_end_signs) (defScope s_end_signs) .none kV_end_signs dc_end_signs pm_end_signs an_end_signs cd_end_signs ct_end_signs), sl_end_signs⟩)
    (c_end_signs : PySem.W.codeIn K cd_end_signs "end_signs" = true)
    (k_end_signs : PySem.W.keepIn K (.ref f_end_signs) = true)
    (a_strand_over : PySem.W.nsIn K mainGlobals "strand_over" = some (some (.ref f_strand_over)))
    (l_strand_over : K.lookup f_strand_over = some ⟨oc_strand_over, od_strand_over, .func (PySem.W.fnOf "strand_over" "strand_over" (defArgs s_strand_over) (defBody s_strand_over) (defScope s_strand_over) .none kV_strand_over dc_strand_over pm_strand_over an_strand_over cd_strand_over ct_strand_over), sl_strand_over⟩)
    (c_strand_over : PySem.W.codeIn K cd_strand_over "strand_over" = true)
    (k_strand_over : PySem.W.keepIn K (.ref f_strand_over) = true)
    (a_scores_of : PySem.W.nsIn K mainGlobals "scores_of" = some (some (.ref f_scores_of)))
    (l_scores_of : K.lookup f_scores_of = some ⟨oc_scores_of, od_scores_of, .func (PySem.W.fnOf "scores_of" "scores_of" (defArgs s_scores_of) (defBody s_scores_of) (defScope s_scores_of) .none kV_scores_of dc_scores_of pm_scores_of an_scores_of cd_scores_of ct_scores_of), sl_scores_of⟩)
    (c_scores_of : PySem.W.codeIn K cd_scores_of "scores_of" = true)
    (k_scores_of : PySem.W.keepIn K (.ref f_scores_of) = true)
    (a_tops_of : PySem.W.nsIn K mainGlobals "tops_of" = some (some (.ref f_tops_of)))
    (l_tops_of : K.lookup f_tops_of = some ⟨oc_tops_of, od_tops_of, .func (PySem.W.fnOf "tops_of" "tops_of" (defArgs s_tops_of) (defBody s_tops_of) (defScope s_tops_of) .none kV_tops_of dc_tops_of pm_tops_of an_tops_of cd_tops_of ct_tops_of), sl_tops_of⟩)
    (c_tops_of : PySem.W.codeIn K cd_tops_of "tops_of" = true)
    (k_tops_of : PySem.W.keepIn K (.ref f_tops_of) = true)
    (a_layers_of : PySem.W.nsIn K mainGlobals "layers_of" = some (some (.ref f_layers_of)))
    (l_layers_of : K.lookup f_layers_of = some ⟨oc_layers_of, od_layers_of, .func (PySem.W.fnOf "layers_of" "layers_of" (defArgs s_layers_of) (defBody s_layers_of) (defScope s_layers_of) .none kV_layers_of dc_layers_of pm_layers_of an_layers_of cd_layers_of ct_layers_of), sl_layers_of⟩)
    (c_layers_of : PySem.W.codeIn K cd_layers_of "layers_of" = true)
    (k_layers_of : PySem.W.keepIn K (.ref f_layers_of) = true)
    (a_layer_numbers : PySem.W.nsIn K mainGlobals "layer_numbers" = some (some (.ref f_layer_numbers)))
    (l_layer_numbers : K.lookup f_layer_numbers = some ⟨oc_layer_numbers, od_layer_numbers, .func (PySem.W.fnOf "layer_numbers" "layer_numbers" (defArgs s_layer_numbers) (defBody s_layer_numbers) (defScope s_layer_numbers) .none kV_layer_numbers dc_layer_numbers pm_layer_numbers an_layer_numbers cd_layer_numbers ct_layer_numbers), sl_layer_numbers⟩)
    (c_layer_numbers : PySem.W.codeIn K cd_layer_numbers "layer_numbers" = true)
    (k_layer_numbers : PySem.W.keepIn K (.ref f_layer_numbers) = true)
    (a_check_set : PySem.W.nsIn K mainGlobals "check_set" = some (some (.ref f_check_set)))
    (l_check_set : K.lookup f_check_set = some ⟨oc_check_set, od_check_set, .func (PySem.W.fnOf "check_set" "check_set" (defArgs s_check_set) (defBody s_check_set) (defScope s_check_set) .none kV_check_set dc_check_set pm_check_set an_check_set cd_check_set ct_check_set), sl_check_set⟩)
    (c_check_set : PySem.W.codeIn K cd_check_set "check_set" = true)
    (k_check_set : PySem.W.keepIn K (.ref f_check_set) = true)
    (a_lower_strands : PySem.W.nsIn K mainGlobals "lower_strands" = some (some (.ref f_lower_strands)))
    (l_lower_strands : K.lookup f_lower_strands = some ⟨oc_lower_strands, od_lower_strands, .func (PySem.W.fnOf "lower_strands" "lower_strands" (defArgs s_lower_strands) (defBody s_lower_strands) (defScope s_lower_strands) .none kV_lower_strands dc_lower_strands pm_lower_strands an_lower_strands cd_lower_strands ct_lower_strands), sl_lower_strands⟩)
    (c_lower_strands : PySem.W.codeIn K cd_lower_strands "lower_strands" = true)
    (k_lower_strands : PySem.W.keepIn K (.ref f_lower_strands) = true)
    (a_lower_within : PySem.W.nsIn K mainGlobals "lower_within" = some (some (.ref f_lower_within)))
    (l_lower_within : K.lookup f_lower_within = some ⟨oc_lower_within, od_lower_within, .func (PySem.W.fnOf "lower_within" "lower_within" (defArgs s_lower_within) (defBody s_lower_within) (defScope s_lower_within) .none kV_lower_within dc_lower_within pm_lower_within an_lower_within cd_lower_within ct_lower_within), sl_lower_within⟩)
    (c_lower_within : PySem.W.codeIn K cd_lower_within "lower_within" = true)
    (k_lower_within : PySem.W.keepIn K (.ref f_lower_within) = true)
    (a_ways_from : PySem.W.nsIn K mainGlobals "ways_from" = some (some (.ref f_ways_from)))
    (l_ways_from : K.lookup f_ways_from = some ⟨oc_ways_from, od_ways_from, .func (PySem.W.fnOf "ways_from" "ways_from" (defArgs s_ways_from) (defBody s_ways_from) (defScope s_ways_from) .none kV_ways_from dc_ways_from pm_ways_from an_ways_from cd_ways_from ct_ways_from), sl_ways_from⟩)
    (c_ways_from : PySem.W.codeIn K cd_ways_from "ways_from" = true)
    (k_ways_from : PySem.W.keepIn K (.ref f_ways_from) = true)
    (a_way_to : PySem.W.nsIn K mainGlobals "way_to" = some (some (.ref f_way_to)))
    (l_way_to : K.lookup f_way_to = some ⟨oc_way_to, od_way_to, .func (PySem.W.fnOf "way_to" "way_to" (defArgs s_way_to) (defBody s_way_to) (defScope s_way_to) .none kV_way_to dc_way_to pm_way_to an_way_to cd_way_to ct_way_to), sl_way_to⟩)
    (c_way_to : PySem.W.codeIn K cd_way_to "way_to" = true)
    (k_way_to : PySem.W.keepIn K (.ref f_way_to) = true)
    (a_upper_part : PySem.W.nsIn K mainGlobals "upper_part" = some (some (.ref f_upper_part)))
    (l_upper_part : K.lookup f_upper_part = some ⟨oc_upper_part, od_upper_part, .func (PySem.W.fnOf "upper_part" "upper_part" (defArgs s_upper_part) (defBody s_upper_part) (defScope s_upper_part) .none kV_upper_part dc_upper_part pm_upper_part an_upper_part cd_upper_part ct_upper_part), sl_upper_part⟩)
    (c_upper_part : PySem.W.codeIn K cd_upper_part "upper_part" = true)
    (k_upper_part : PySem.W.keepIn K (.ref f_upper_part) = true)
    (a_way_between : PySem.W.nsIn K mainGlobals "way_between" = some (some (.ref f_way_between)))
    (l_way_between : K.lookup f_way_between = some ⟨oc_way_between, od_way_between, .func (PySem.W.fnOf "way_between" "way_between" (defArgs s_way_between) (defBody s_way_between) (defScope s_way_between) .none kV_way_between dc_way_between pm_way_between an_way_between cd_way_between ct_way_between), sl_way_between⟩)
    (c_way_between : PySem.W.codeIn K cd_way_between "way_between" = true)
    (k_way_between : PySem.W.keepIn K (.ref f_way_between) = true)
    (a_round_way : PySem.W.nsIn K mainGlobals "round_way" = some (some (.ref f_round_way)))
    (l_round_way : K.lookup f_round_way = some ⟨oc_round_way, od_round_way, .func (PySem.W.fnOf "round_way" "round_way" (defArgs s_round_way) (defBody s_round_way) (defScope s_round_way) .none kV_round_way dc_round_way pm_round_way an_round_way cd_round_way ct_round_way), sl_round_way⟩)
    (c_round_way : PySem.W.codeIn K cd_round_way "round_way" = true)
    (k_round_way : PySem.W.keepIn K (.ref f_round_way) = true)
    (a_lifted_off : PySem.W.nsIn K mainGlobals "lifted_off" = some (some (.ref f_lifted_off)))
    (l_lifted_off : K.lookup f_lifted_off = some ⟨oc_lifted_off, od_lifted_off, .func (PySem.W.fnOf "lifted_off" "lifted_off" (defArgs s_lifted_off) (defBody s_lifted_off) (defScope s_lifted_off) .none kV_lifted_off dc_lifted_off pm_lifted_off an_lifted_off cd_lifted_off ct_lifted_off), sl_lifted_off⟩)
    (c_lifted_off : PySem.W.codeIn K cd_lifted_off "lifted_off" = true)
    (k_lifted_off : PySem.W.keepIn K (.ref f_lifted_off) = true)
    (a_web_of_set : PySem.W.nsIn K mainGlobals "web_of_set" = some (some (.ref f_web_of_set)))
    (l_web_of_set : K.lookup f_web_of_set = some ⟨oc_web_of_set, od_web_of_set, .func (PySem.W.fnOf "web_of_set" "web_of_set" (defArgs s_web_of_set) (defBody s_web_of_set) (defScope s_web_of_set) .none kV_web_of_set dc_web_of_set pm_web_of_set an_web_of_set cd_web_of_set ct_web_of_set), sl_web_of_set⟩)
    (c_web_of_set : PySem.W.codeIn K cd_web_of_set "web_of_set" = true)
    (k_web_of_set : PySem.W.keepIn K (.ref f_web_of_set) = true)
    (a_law_at : PySem.W.nsIn K mainGlobals "_law_at" = some (some (.ref f_law_at)))
    (l_law_at : K.lookup f_law_at = some ⟨oc_law_at, od_law_at, .func (PySem.W.fnOf "_law_at" "_law_at" (defArgs s_law_at) (defBody s_law_at) (defScope s_law_at) .none kV_law_at dc_law_at pm_law_at an_law_at cd_law_at ct_law_at), sl_law_at⟩)
    (c_law_at : PySem.W.codeIn K cd_law_at "_law_at" = true)
    (k_law_at : PySem.W.keepIn K (.ref f_law_at) = true)
    (a_law_numbers : PySem.W.nsIn K mainGlobals "_law_numbers" = some (some (.ref f_law_numbers)))
    (l_law_numbers : K.lookup f_law_numbers = some ⟨oc_law_numbers, od_law_numbers, .func (PySem.W.fnOf "_law_numbers" "_law_numbers" (defArgs s_law_numbers) (defBody s_law_numbers) (defScope s_law_numbers) .none kV_law_numbers dc_law_numbers pm_law_numbers an_law_numbers cd_law_numbers ct_law_numbers), sl_law_numbers⟩)
    (c_law_numbers : PySem.W.codeIn K cd_law_numbers "_law_numbers" = true)
    (k_law_numbers : PySem.W.keepIn K (.ref f_law_numbers) = true)
    (a_law_levels : PySem.W.nsIn K mainGlobals "_law_levels" = some (some (.ref f_law_levels)))
    (l_law_levels : K.lookup f_law_levels = some ⟨oc_law_levels, od_law_levels, .func (PySem.W.fnOf "_law_levels" "_law_levels" (defArgs s_law_levels) (defBody s_law_levels) (defScope s_law_levels) .none kV_law_levels dc_law_levels pm_law_levels an_law_levels cd_law_levels ct_law_levels), sl_law_levels⟩)
    (c_law_levels : PySem.W.codeIn K cd_law_levels "_law_levels" = true)
    (k_law_levels : PySem.W.keepIn K (.ref f_law_levels) = true)
    (a_law_text : PySem.W.nsIn K mainGlobals "_law_text" = some (some (.ref f_law_text)))
    (l_law_text : K.lookup f_law_text = some ⟨oc_law_text, od_law_text, .func (PySem.W.fnOf "_law_text" "_law_text" (defArgs s_law_text) (defBody s_law_text) (defScope s_law_text) .none kV_law_text dc_law_text pm_law_text an_law_text cd_law_text ct_law_text), sl_law_text⟩)
    (c_law_text : PySem.W.codeIn K cd_law_text "_law_text" = true)
    (k_law_text : PySem.W.keepIn K (.ref f_law_text) = true)
    (a_law_cloth : PySem.W.nsIn K mainGlobals "_law_cloth" = some (some (.ref f_law_cloth)))
    (l_law_cloth : K.lookup f_law_cloth = some ⟨oc_law_cloth, od_law_cloth, .func (PySem.W.fnOf "_law_cloth" "_law_cloth" (defArgs s_law_cloth) (defBody s_law_cloth) (defScope s_law_cloth) .none kV_law_cloth dc_law_cloth pm_law_cloth an_law_cloth cd_law_cloth ct_law_cloth), sl_law_cloth⟩)
    (c_law_cloth : PySem.W.codeIn K cd_law_cloth "_law_cloth" = true)
    (k_law_cloth : PySem.W.keepIn K (.ref f_law_cloth) = true)
    (a_law_other_sign : PySem.W.nsIn K mainGlobals "_law_other_sign" = some (some (.ref f_law_other_sign)))
    (l_law_other_sign : K.lookup f_law_other_sign = some ⟨oc_law_other_sign, od_law_other_sign, .func (PySem.W.fnOf "_law_other_sign" "_law_other_sign" (defArgs s_law_other_sign) (defBody s_law_other_sign) (defScope s_law_other_sign) .none kV_law_other_sign dc_law_other_sign pm_law_other_sign an_law_other_sign cd_law_other_sign ct_law_other_sign), sl_law_other_sign⟩)
    (c_law_other_sign : PySem.W.codeIn K cd_law_other_sign "_law_other_sign" = true)
    (k_law_other_sign : PySem.W.keepIn K (.ref f_law_other_sign) = true)
    (a_law_other_length : PySem.W.nsIn K mainGlobals "_law_other_length" = some (some (.ref f_law_other_length)))
    (l_law_other_length : K.lookup f_law_other_length = some ⟨oc_law_other_length, od_law_other_length, .func (PySem.W.fnOf "_law_other_length" "_law_other_length" (defArgs s_law_other_length) (defBody s_law_other_length) (defScope s_law_other_length) .none kV_law_other_length dc_law_other_length pm_law_other_length an_law_other_length cd_law_other_length ct_law_other_length), sl_law_other_length⟩)
    (c_law_other_length : PySem.W.codeIn K cd_law_other_length "_law_other_length" = true)
    (k_law_other_length : PySem.W.keepIn K (.ref f_law_other_length) = true)
    (a_law_spoiled : PySem.W.nsIn K mainGlobals "_law_spoiled" = some (some (.ref f_law_spoiled)))
    (l_law_spoiled : K.lookup f_law_spoiled = some ⟨oc_law_spoiled, od_law_spoiled, .func (PySem.W.fnOf "_law_spoiled" "_law_spoiled" (defArgs s_law_spoiled) (defBody s_law_spoiled) (defScope s_law_spoiled) .none kV_law_spoiled dc_law_spoiled pm_law_spoiled an_law_spoiled cd_law_spoiled ct_law_spoiled), sl_law_spoiled⟩)
    (c_law_spoiled : PySem.W.codeIn K cd_law_spoiled "_law_spoiled" = true)
    (k_law_spoiled : PySem.W.keepIn K (.ref f_law_spoiled) = true)
    (a_law_called : PySem.W.nsIn K mainGlobals "_law_called" = some (some (.ref f_law_called)))
    (l_law_called : K.lookup f_law_called = some ⟨oc_law_called, od_law_called, .func (PySem.W.fnOf "_law_called" "_law_called" (defArgs s_law_called) (defBody s_law_called) (defScope s_law_called) .none kV_law_called dc_law_called pm_law_called an_law_called cd_law_called ct_law_called), sl_law_called⟩)
    (c_law_called : PySem.W.codeIn K cd_law_called "_law_called" = true)
    (k_law_called : PySem.W.keepIn K (.ref f_law_called) = true)
    (a_law_caught : PySem.W.nsIn K mainGlobals "_law_caught" = some (some (.ref f_law_caught)))
    (l_law_caught : K.lookup f_law_caught = some ⟨oc_law_caught, od_law_caught, .func (PySem.W.fnOf "_law_caught" "_law_caught" (defArgs s_law_caught) (defBody s_law_caught) (defScope s_law_caught) .none kV_law_caught dc_law_caught pm_law_caught an_law_caught cd_law_caught ct_law_caught), sl_law_caught⟩)
    (c_law_caught : PySem.W.codeIn K cd_law_caught "_law_caught" = true)
    (k_law_caught : PySem.W.keepIn K (.ref f_law_caught) = true)
    (a_law_refused : PySem.W.nsIn K mainGlobals "_law_refused" = some (some (.ref f_law_refused)))
    (l_law_refused : K.lookup f_law_refused = some ⟨oc_law_refused, od_law_refused, .func (PySem.W.fnOf "_law_refused" "_law_refused" (defArgs s_law_refused) (defBody s_law_refused) (defScope s_law_refused) .none kV_law_refused dc_law_refused pm_law_refused an_law_refused cd_law_refused ct_law_refused), sl_law_refused⟩)
    (c_law_refused : PySem.W.codeIn K cd_law_refused "_law_refused" = true)
    (k_law_refused : PySem.W.keepIn K (.ref f_law_refused) = true)
    (a_law : PySem.W.nsIn K mainGlobals "law" = some (some (.ref f_law)))
    (l_law : K.lookup f_law = some ⟨oc_law, od_law, .func (PySem.W.fnOf "law" "law" (defArgs s_law) (defBody s_law) (defScope s_law) .none kV_law dc_law pm_law an_law cd_law ct_law), sl_law⟩)
    (c_law : PySem.W.codeIn K cd_law "law" = true)
    (k_law : PySem.W.keepIn K (.ref f_law) = true)
    (z_ValueError : PySem.W.nsIn K mainGlobals "ValueError" = some none)
    (z_enumerate : PySem.W.nsIn K mainGlobals "enumerate" = some none)
    (z_int : PySem.W.nsIn K mainGlobals "int" = some none)
    (z_isinstance : PySem.W.nsIn K mainGlobals "isinstance" = some none)
    (z_len : PySem.W.nsIn K mainGlobals "len" = some none)
    (z_list : PySem.W.nsIn K mainGlobals "list" = some none)
    (z_range : PySem.W.nsIn K mainGlobals "range" = some none)
    (z_reversed : PySem.W.nsIn K mainGlobals "reversed" = some none)
    (z_sorted : PySem.W.nsIn K mainGlobals "sorted" = some none)
    (z_sum : PySem.W.nsIn K mainGlobals "sum" = some none)
    (z_zip : PySem.W.nsIn K mainGlobals "zip" = some none)
    (x_MOST_STRANDS : PySem.W.nsIn K mainGlobals "MOST_STRANDS" = some (some (.int 40 q_MOST_STRANDS)))
    (n_WeaveError : PySem.W.nsIn K mainGlobals "WeaveError" = some (some (.ref e_WeaveError)))
    (n_NoCloth : PySem.W.nsIn K mainGlobals "NoCloth" = some (some (.ref e_NoCloth)))
    (n_NoStrand : PySem.W.nsIn K mainGlobals "NoStrand" = some (some (.ref e_NoStrand)))
    (y1_WeaveError : PySem.W.excIn K e_WeaveError vE vN = true)
    (y2_WeaveError : PySem.W.findIn K (.ref e_WeaveError) "__getattribute__" = some (some (.builtin "BaseException.__getattribute__")))
    (y3_WeaveError : PySem.W.findIn K (.ref e_WeaveError) "__getattr__" = some none)
    (y4_WeaveError : PySem.W.findIn K (.ref e_WeaveError) "__class__" = some (some (.builtin "object.__class__")))
    (y5_WeaveError : PySem.W.specialIn K (.builtin "object.__class__") "__get__" = some (some (.builtin "getset_descriptor.__get__")))
    (y6_WeaveError : PySem.W.takesIn K (.builtin "object.__class__") = some true)
    (y7_WeaveError : PySem.W.mroIn K e_WeaveError (.type "object") = some true)
    (y8_WeaveError : PySem.W.mroIn K e_WeaveError (.type "BaseException") = some true)
    (y9_WeaveError : PySem.W.isClsIn K e_WeaveError = true)
    (y10_WeaveError : PySem.W.typeIn K (.ref e_WeaveError) = some (.type "type"))
    (y11_WeaveError : PySem.W.mroIn K e_WeaveError (.type "ValueError") = some true)
    (y1_NoCloth : PySem.W.excIn K e_NoCloth vE vN = true)
    (y2_NoCloth : PySem.W.findIn K (.ref e_NoCloth) "__getattribute__" = some (some (.builtin "BaseException.__getattribute__")))
    (y3_NoCloth : PySem.W.findIn K (.ref e_NoCloth) "__getattr__" = some none)
    (y4_NoCloth : PySem.W.findIn K (.ref e_NoCloth) "__class__" = some (some (.builtin "object.__class__")))
    (y7_NoCloth : PySem.W.mroIn K e_NoCloth (.type "object") = some true)
    (y8_NoCloth : PySem.W.mroIn K e_NoCloth (.type "BaseException") = some true)
    (y9_NoCloth : PySem.W.isClsIn K e_NoCloth = true)
    (y10_NoCloth : PySem.W.typeIn K (.ref e_NoCloth) = some (.type "type"))
    (y11_NoCloth : PySem.W.mroIn K e_NoCloth (.type "ValueError") = some true)
    (r_NoCloth_WeaveError : PySem.W.mroIn K e_NoCloth (.ref e_WeaveError) = some true)
    (r_NoCloth_NoCloth : PySem.W.mroIn K e_NoCloth (.ref e_NoCloth) = some true)
    (r_NoCloth_NoStrand : PySem.W.mroIn K e_NoCloth (.ref e_NoStrand) = some false)
    (y1_NoStrand : PySem.W.excIn K e_NoStrand vE vN = true)
    (y2_NoStrand : PySem.W.findIn K (.ref e_NoStrand) "__getattribute__" = some (some (.builtin "BaseException.__getattribute__")))
    (y3_NoStrand : PySem.W.findIn K (.ref e_NoStrand) "__getattr__" = some none)
    (y4_NoStrand : PySem.W.findIn K (.ref e_NoStrand) "__class__" = some (some (.builtin "object.__class__")))
    (y7_NoStrand : PySem.W.mroIn K e_NoStrand (.type "object") = some true)
    (y8_NoStrand : PySem.W.mroIn K e_NoStrand (.type "BaseException") = some true)
    (y9_NoStrand : PySem.W.isClsIn K e_NoStrand = true)
    (y10_NoStrand : PySem.W.typeIn K (.ref e_NoStrand) = some (.type "type"))
    (y11_NoStrand : PySem.W.mroIn K e_NoStrand (.type "ValueError") = some true)
    (r_NoStrand_WeaveError : PySem.W.mroIn K e_NoStrand (.ref e_WeaveError) = some true)
    (r_NoStrand_NoCloth : PySem.W.mroIn K e_NoStrand (.ref e_NoCloth) = some false)
    (r_NoStrand_NoStrand : PySem.W.mroIn K e_NoStrand (.ref e_NoStrand) = some true)
    (fm_WeaveError : PySem.W.findIn K (.ref e_WeaveError) "called" = some (some (.ref f_WeaveError_called)))
    (gm_WeaveError : PySem.W.isFn K (.ref f_WeaveError_called) = true)
    (lm_WeaveError : K.lookup f_WeaveError_called = some ⟨oc_WeaveError_called, od_WeaveError_called, .func (PySem.W.fnOf "called" "WeaveError.called" (defArgs s_WeaveError_called) (defBody s_WeaveError_called) (defScope s_WeaveError_called) .none kV_WeaveError_called dc_WeaveError_called pm_WeaveError_called an_WeaveError_called cd_WeaveError_called ct_WeaveError_called), sl_WeaveError_called⟩)
    (cm_WeaveError : PySem.W.codeIn K cd_WeaveError_called "WeaveError.called" = true)
    (km_WeaveError : PySem.W.keepIn K (.ref f_WeaveError_called) = true)
    (fm_NoCloth : PySem.W.findIn K (.ref e_NoCloth) "called" = some (some (.ref f_NoCloth_called)))
    (gm_NoCloth : PySem.W.isFn K (.ref f_NoCloth_called) = true)
    (lm_NoCloth : K.lookup f_NoCloth_called = some ⟨oc_NoCloth_called, od_NoCloth_called, .func (PySem.W.fnOf "called" "NoCloth.called" (defArgs s_NoCloth_called) (defBody s_NoCloth_called) (defScope s_NoCloth_called) .none kV_NoCloth_called dc_NoCloth_called pm_NoCloth_called an_NoCloth_called cd_NoCloth_called ct_NoCloth_called), sl_NoCloth_called⟩)
    (cm_NoCloth : PySem.W.codeIn K cd_NoCloth_called "NoCloth.called" = true)
    (km_NoCloth : PySem.W.keepIn K (.ref f_NoCloth_called) = true)
    (fm_NoStrand : PySem.W.findIn K (.ref e_NoStrand) "called" = some (some (.ref f_NoStrand_called)))
    (gm_NoStrand : PySem.W.isFn K (.ref f_NoStrand_called) = true)
    (lm_NoStrand : K.lookup f_NoStrand_called = some ⟨oc_NoStrand_called, od_NoStrand_called, .func (PySem.W.fnOf "called" "NoStrand.called" (defArgs s_NoStrand_called) (defBody s_NoStrand_called) (defScope s_NoStrand_called) .none kV_NoStrand_called dc_NoStrand_called pm_NoStrand_called an_NoStrand_called cd_NoStrand_called ct_NoStrand_called), sl_NoStrand_called⟩)
    (cm_NoStrand : PySem.W.codeIn K cd_NoStrand_called "NoStrand.called" = true)
    (km_NoStrand : PySem.W.keepIn K (.ref f_NoStrand_called) = true) :
    Txt K mg ⟨f_measured, PySem.W.fnOf "measured" "measured" (defArgs s_measured) (defBody s_measured) (defScope s_measured) .none kV_measured dc_measured pm_measured an_measured cd_measured ct_measured, f_measured_texts, PySem.W.fnOf "measured_texts" "measured_texts" (defArgs s_measured_texts) (defBody s_measured_texts) (defScope s_measured_texts) .none kV_measured_texts dc_measured_texts pm_measured_texts an_measured_texts cd_measured_texts ct_measured_texts, f_check_pick, PySem.W.fnOf "check_pick" "check_pick" (defArgs s_check_pick) (defBody s_check_pick) (defScope s_check_pick) .none kV_check_pick dc_check_pick pm_check_pick an_check_pick cd_check_pick ct_check_pick, f_check_strand, PySem.W.fnOf "check_strand" "check_strand" (defArgs s_check_strand) (defBody s_check_strand) (defScope s_check_strand) .none kV_check_strand dc_check_strand pm_check_strand an_check_strand cd_check_strand ct_check_strand, f_end_signs, PySem.W.fnOf "end_signs" "end_signs" (defArgs s_end_signs) (defBody s_end_signs) (defScope s_end_signs) .none kV_end_signs dc_end_signs pm_end_signs an_end_signs cd_end_signs ct_end_signs, f_strand_over, PySem.W.fnOf "strand_over" "strand_over" (defArgs s_strand_over) (defBody s_strand_over) (defScope s_strand_over) .none kV_strand_over dc_strand_over pm_strand_over an_strand_over cd_strand_over ct_strand_over, f_scores_of, PySem.W.fnOf "scores_of" "scores_of" (defArgs s_scores_of) (defBody s_scores_of) (defScope s_scores_of) .none kV_scores_of dc_scores_of pm_scores_of an_scores_of cd_scores_of ct_scores_of, f_tops_of, PySem.W.fnOf "tops_of" "tops_of" (defArgs s_tops_of) (defBody s_tops_of) (defScope s_tops_of) .none kV_tops_of dc_tops_of pm_tops_of an_tops_of cd_tops_of ct_tops_of, f_layers_of, PySem.W.fnOf "layers_of" "layers_of" (defArgs s_layers_of) (defBody s_layers_of) (defScope s_layers_of) .none kV_layers_of dc_layers_of pm_layers_of an_layers_of cd_layers_of ct_layers_of, f_layer_numbers, PySem.W.fnOf "layer_numbers" "layer_numbers" (defArgs s_layer_numbers) (defBody s_layer_numbers) (defScope s_layer_numbers) .none kV_layer_numbers dc_layer_numbers pm_layer_numbers an_layer_numbers cd_layer_numbers ct_layer_numbers, f_check_set, PySem.W.fnOf "check_set" "check_set" (defArgs s_check_set) (defBody s_check_set) (defScope s_check_set) .none kV_check_set dc_check_set pm_check_set an_check_set cd_check_set ct_check_set, f_lower_strands, PySem.W.fnOf "lower_strands" "lower_strands" (defArgs s_lower_strands) (defBody s_lower_strands) (defScope s_lower_strands) .none kV_lower_strands dc_lower_strands pm_lower_strands an_lower_strands cd_lower_strands ct_lower_strands, f_lower_within, PySem.W.fnOf "lower_within" "lower_within" (defArgs s_lower_within) (defBody s_lower_within) (defScope s_lower_within) .none kV_lower_within dc_lower_within pm_lower_within an_lower_within cd_lower_within ct_lower_within, f_ways_from, PySem.W.fnOf "ways_from" "ways_from" (defArgs s_ways_from) (defBody s_ways_from) (defScope s_ways_from) .none kV_ways_from dc_ways_from pm_ways_from an_ways_from cd_ways_from ct_ways_from, f_way_to, PySem.W.fnOf "way_to" "way_to" (defArgs s_way_to) (defBody s_way_to) (defScope s_way_to) .none kV_way_to dc_way_to pm_way_to an_way_to cd_way_to ct_way_to, f_upper_part, PySem.W.fnOf "upper_part" "upper_part" (defArgs s_upper_part) (defBody s_upper_part) (defScope s_upper_part) .none kV_upper_part dc_upper_part pm_upper_part an_upper_part cd_upper_part ct_upper_part, f_way_between, PySem.W.fnOf "way_between" "way_between" (defArgs s_way_between) (defBody s_way_between) (defScope s_way_between) .none kV_way_between dc_way_between pm_way_between an_way_between cd_way_between ct_way_between, f_round_way, PySem.W.fnOf "round_way" "round_way" (defArgs s_round_way) (defBody s_round_way) (defScope s_round_way) .none kV_round_way dc_round_way pm_round_way an_round_way cd_round_way ct_round_way, f_lifted_off, PySem.W.fnOf "lifted_off" "lifted_off" (defArgs s_lifted_off) (defBody s_lifted_off) (defScope s_lifted_off) .none kV_lifted_off dc_lifted_off pm_lifted_off an_lifted_off cd_lifted_off ct_lifted_off, f_web_of_set, PySem.W.fnOf "web_of_set" "web_of_set" (defArgs s_web_of_set) (defBody s_web_of_set) (defScope s_web_of_set) .none kV_web_of_set dc_web_of_set pm_web_of_set an_web_of_set cd_web_of_set ct_web_of_set, f_law_at, PySem.W.fnOf "_law_at" "_law_at" (defArgs s_law_at) (defBody s_law_at) (defScope s_law_at) .none kV_law_at dc_law_at pm_law_at an_law_at cd_law_at ct_law_at, f_law_numbers, PySem.W.fnOf "_law_numbers" "_law_numbers" (defArgs s_law_numbers) (defBody s_law_numbers) (defScope s_law_numbers) .none kV_law_numbers dc_law_numbers pm_law_numbers an_law_numbers cd_law_numbers ct_law_numbers, f_law_levels, PySem.W.fnOf "_law_levels" "_law_levels" (defArgs s_law_levels) (defBody s_law_levels) (defScope s_law_levels) .none kV_law_levels dc_law_levels pm_law_levels an_law_levels cd_law_levels ct_law_levels, f_law_text, PySem.W.fnOf "_law_text" "_law_text" (defArgs s_law_text) (defBody s_law_text) (defScope s_law_text) .none kV_law_text dc_law_text pm_law_text an_law_text cd_law_text ct_law_text, f_law_cloth, PySem.W.fnOf "_law_cloth" "_law_cloth" (defArgs s_law_cloth) (defBody s_law_cloth) (defScope s_law_cloth) .none kV_law_cloth dc_law_cloth pm_law_cloth an_law_cloth cd_law_cloth ct_law_cloth, f_law_other_sign, PySem.W.fnOf "_law_other_sign" "_law_other_sign" (defArgs s_law_other_sign) (defBody s_law_other_sign) (defScope s_law_other_sign) .none kV_law_other_sign dc_law_other_sign pm_law_other_sign an_law_other_sign cd_law_other_sign ct_law_other_sign, f_law_other_length, PySem.W.fnOf "_law_other_length" "_law_other_length" (defArgs s_law_other_length) (defBody s_law_other_length) (defScope s_law_other_length) .none kV_law_other_length dc_law_other_length pm_law_other_length an_law_other_length cd_law_other_length ct_law_other_length, f_law_spoiled, PySem.W.fnOf "_law_spoiled" "_law_spoiled" (defArgs s_law_spoiled) (defBody s_law_spoiled) (defScope s_law_spoiled) .none kV_law_spoiled dc_law_spoiled pm_law_spoiled an_law_spoiled cd_law_spoiled ct_law_spoiled, f_law_called, PySem.W.fnOf "_law_called" "_law_called" (defArgs s_law_called) (defBody s_law_called) (defScope s_law_called) .none kV_law_called dc_law_called pm_law_called an_law_called cd_law_called ct_law_called, f_law_caught, PySem.W.fnOf "_law_caught" "_law_caught" (defArgs s_law_caught) (defBody s_law_caught) (defScope s_law_caught) .none kV_law_caught dc_law_caught pm_law_caught an_law_caught cd_law_caught ct_law_caught, f_law_refused, PySem.W.fnOf "_law_refused" "_law_refused" (defArgs s_law_refused) (defBody s_law_refused) (defScope s_law_refused) .none kV_law_refused dc_law_refused pm_law_refused an_law_refused cd_law_refused ct_law_refused, f_law, PySem.W.fnOf "law" "law" (defArgs s_law) (defBody s_law) (defScope s_law) .none kV_law dc_law pm_law an_law cd_law ct_law, e_WeaveError, f_WeaveError_called, PySem.W.fnOf "called" "WeaveError.called" (defArgs s_WeaveError_called) (defBody s_WeaveError_called) (defScope s_WeaveError_called) .none kV_WeaveError_called dc_WeaveError_called pm_WeaveError_called an_WeaveError_called cd_WeaveError_called ct_WeaveError_called, e_NoCloth, f_NoCloth_called, PySem.W.fnOf "called" "NoCloth.called" (defArgs s_NoCloth_called) (defBody s_NoCloth_called) (defScope s_NoCloth_called) .none kV_NoCloth_called dc_NoCloth_called pm_NoCloth_called an_NoCloth_called cd_NoCloth_called ct_NoCloth_called, e_NoStrand, f_NoStrand_called, PySem.W.fnOf "called" "NoStrand.called" (defArgs s_NoStrand_called) (defBody s_NoStrand_called) (defScope s_NoStrand_called) .none kV_NoStrand_called dc_NoStrand_called pm_NoStrand_called an_NoStrand_called cd_NoStrand_called ct_NoStrand_called⟩ :=
  ⟨⟨fun_mk (st := s_measured) l_measured c_measured k_measured, PySem.W.mg_of X G a_measured, (fun_mk (st := s_measured) l_measured c_measured k_measured).binds (ps := ["cloth"]) fun _ _ _ _ _ _ us hl => bl1 (fun _ => rfl) us hl⟩,
   ⟨fun_mk (st := s_measured_texts) l_measured_texts c_measured_texts k_measured_texts, PySem.W.mg_of X G a_measured_texts, (fun_mk (st := s_measured_texts) l_measured_texts c_measured_texts k_measured_texts).binds (ps := ["texts", "least", "signs"]) fun _ _ _ _ _ _ us hl => bl3 (fun _ _ _ => rfl) us hl⟩,
   ⟨fun_mk (st := s_check_pick) l_check_pick c_check_pick k_check_pick, PySem.W.mg_of X G a_check_pick, (fun_mk (st := s_check_pick) l_check_pick c_check_pick k_check_pick).binds (ps := ["text", "ends", "signs"]) fun _ _ _ _ _ _ us hl => bl3 (fun _ _ _ => rfl) us hl⟩,
   ⟨fun_mk (st := s_check_strand) l_check_strand c_check_strand k_check_strand, PySem.W.mg_of X G a_check_strand, (fun_mk (st := s_check_strand) l_check_strand c_check_strand k_check_strand).binds (ps := ["number", "count"]) fun _ _ _ _ _ _ us hl => bl2 (fun _ _ => rfl) us hl⟩,
   ⟨fun_mk (st := s_end_signs) l_end_signs c_end_signs k_end_signs, PySem.W.mg_of X G a_end_signs, (fun_mk (st := s_end_signs) l_end_signs c_end_signs k_end_signs).binds (ps := ["cloth", "end"]) fun _ _ _ _ _ _ us hl => bl2 (fun _ _ => rfl) us hl⟩,
   ⟨fun_mk (st := s_strand_over) l_strand_over c_strand_over k_strand_over, PySem.W.mg_of X G a_strand_over, (fun_mk (st := s_strand_over) l_strand_over c_strand_over k_strand_over).binds (ps := ["cloth", "one", "other"]) fun _ _ _ _ _ _ us hl => bl3 (fun _ _ _ => rfl) us hl⟩,
   ⟨fun_mk (st := s_scores_of) l_scores_of c_scores_of k_scores_of, PySem.W.mg_of X G a_scores_of, (fun_mk (st := s_scores_of) l_scores_of c_scores_of k_scores_of).binds (ps := ["cloth"]) fun _ _ _ _ _ _ us hl => bl1 (fun _ => rfl) us hl⟩,
   ⟨fun_mk (st := s_tops_of) l_tops_of c_tops_of k_tops_of, PySem.W.mg_of X G a_tops_of, (fun_mk (st := s_tops_of) l_tops_of c_tops_of k_tops_of).binds (ps := ["cloth"]) fun _ _ _ _ _ _ us hl => bl1 (fun _ => rfl) us hl⟩,
   ⟨fun_mk (st := s_layers_of) l_layers_of c_layers_of k_layers_of, PySem.W.mg_of X G a_layers_of, (fun_mk (st := s_layers_of) l_layers_of c_layers_of k_layers_of).binds (ps := ["cloth"]) fun _ _ _ _ _ _ us hl => bl1 (fun _ => rfl) us hl⟩,
   ⟨fun_mk (st := s_layer_numbers) l_layer_numbers c_layer_numbers k_layer_numbers, PySem.W.mg_of X G a_layer_numbers, (fun_mk (st := s_layer_numbers) l_layer_numbers c_layer_numbers k_layer_numbers).binds (ps := ["cloth"]) fun _ _ _ _ _ _ us hl => bl1 (fun _ => rfl) us hl⟩,
   ⟨fun_mk (st := s_check_set) l_check_set c_check_set k_check_set, PySem.W.mg_of X G a_check_set, (fun_mk (st := s_check_set) l_check_set c_check_set k_check_set).binds (ps := ["strands", "count"]) fun _ _ _ _ _ _ us hl => bl2 (fun _ _ => rfl) us hl⟩,
   ⟨fun_mk (st := s_lower_strands) l_lower_strands c_lower_strands k_lower_strands, PySem.W.mg_of X G a_lower_strands, (fun_mk (st := s_lower_strands) l_lower_strands c_lower_strands k_lower_strands).binds (ps := ["texts"]) fun _ _ _ _ _ _ us hl => bl1 (fun _ => rfl) us hl⟩,
   ⟨fun_mk (st := s_lower_within) l_lower_within c_lower_within k_lower_within, PySem.W.mg_of X G a_lower_within, (fun_mk (st := s_lower_within) l_lower_within c_lower_within k_lower_within).binds (ps := ["lower", "strands"]) fun _ _ _ _ _ _ us hl => bl2 (fun _ _ => rfl) us hl⟩,
   ⟨fun_mk (st := s_ways_from) l_ways_from c_ways_from k_ways_from, PySem.W.mg_of X G a_ways_from, (fun_mk (st := s_ways_from) l_ways_from c_ways_from k_ways_from).binds (ps := ["lower", "start"]) fun _ _ _ _ _ _ us hl => bl2 (fun _ _ => rfl) us hl⟩,
   ⟨fun_mk (st := s_way_to) l_way_to c_way_to k_way_to, PySem.W.mg_of X G a_way_to, (fun_mk (st := s_way_to) l_way_to c_way_to k_way_to).binds (ps := ["ahead", "goal"]) fun _ _ _ _ _ _ us hl => bl2 (fun _ _ => rfl) us hl⟩,
   ⟨fun_mk (st := s_upper_part) l_upper_part c_upper_part k_upper_part, PySem.W.mg_of X G a_upper_part, (fun_mk (st := s_upper_part) l_upper_part c_upper_part k_upper_part).binds (ps := ["lower", "strands"]) fun _ _ _ _ _ _ us hl => bl2 (fun _ _ => rfl) us hl⟩,
   ⟨fun_mk (st := s_way_between) l_way_between c_way_between k_way_between, PySem.W.mg_of X G a_way_between, (fun_mk (st := s_way_between) l_way_between c_way_between k_way_between).binds (ps := ["cloth", "one", "other"]) fun _ _ _ _ _ _ us hl => bl3 (fun _ _ _ => rfl) us hl⟩,
   ⟨fun_mk (st := s_round_way) l_round_way c_round_way k_round_way, PySem.W.mg_of X G a_round_way, (fun_mk (st := s_round_way) l_round_way c_round_way k_round_way).binds (ps := ["cloth", "strands"]) fun _ _ _ _ _ _ us hl => bl2 (fun _ _ => rfl) us hl⟩,
   ⟨fun_mk (st := s_lifted_off) l_lifted_off c_lifted_off k_lifted_off, PySem.W.mg_of X G a_lifted_off, (fun_mk (st := s_lifted_off) l_lifted_off c_lifted_off k_lifted_off).binds (ps := ["cloth", "strands"]) fun _ _ _ _ _ _ us hl => bl2 (fun _ _ => rfl) us hl⟩,
   ⟨fun_mk (st := s_web_of_set) l_web_of_set c_web_of_set k_web_of_set, PySem.W.mg_of X G a_web_of_set, (fun_mk (st := s_web_of_set) l_web_of_set c_web_of_set k_web_of_set).binds (ps := ["cloth", "strands"]) fun _ _ _ _ _ _ us hl => bl2 (fun _ _ => rfl) us hl⟩,
   ⟨fun_mk (st := s_law_at) l_law_at c_law_at k_law_at, PySem.W.mg_of X G a_law_at, (fun_mk (st := s_law_at) l_law_at c_law_at k_law_at).binds (ps := ["script", "k"]) fun _ _ _ _ _ _ us hl => bl2 (fun _ _ => rfl) us hl⟩,
   ⟨fun_mk (st := s_law_numbers) l_law_numbers c_law_numbers k_law_numbers, PySem.W.mg_of X G a_law_numbers, (fun_mk (st := s_law_numbers) l_law_numbers c_law_numbers k_law_numbers).binds (ps := ["script", "picks", "factor"]) fun _ _ _ _ _ _ us hl => bl3 (fun _ _ _ => rfl) us hl⟩,
   ⟨fun_mk (st := s_law_levels) l_law_levels c_law_levels k_law_levels, PySem.W.mg_of X G a_law_levels, (fun_mk (st := s_law_levels) l_law_levels c_law_levels k_law_levels).binds (ps := ["script", "strands", "many"]) fun _ _ _ _ _ _ us hl => bl3 (fun _ _ _ => rfl) us hl⟩,
   ⟨fun_mk (st := s_law_text) l_law_text c_law_text k_law_text, PySem.W.mg_of X G a_law_text, (fun_mk (st := s_law_text) l_law_text c_law_text k_law_text).binds (ps := ["number", "pick", "ends", "levels"]) fun _ _ _ _ _ _ us hl => bl4 (fun _ _ _ _ => rfl) us hl⟩,
   ⟨fun_mk (st := s_law_cloth) l_law_cloth c_law_cloth k_law_cloth, PySem.W.mg_of X G a_law_cloth, (fun_mk (st := s_law_cloth) l_law_cloth c_law_cloth k_law_cloth).binds (ps := ["script", "most"]) fun _ _ _ _ _ _ us hl => bl2 (fun _ _ => rfl) us hl⟩,
   ⟨fun_mk (st := s_law_other_sign) l_law_other_sign c_law_other_sign k_law_other_sign, PySem.W.mg_of X G a_law_other_sign, (fun_mk (st := s_law_other_sign) l_law_other_sign c_law_other_sign k_law_other_sign).binds (ps := ["rows", "cell"]) fun _ _ _ _ _ _ us hl => bl2 (fun _ _ => rfl) us hl⟩,
   ⟨fun_mk (st := s_law_other_length) l_law_other_length c_law_other_length k_law_other_length, PySem.W.mg_of X G a_law_other_length, (fun_mk (st := s_law_other_length) l_law_other_length c_law_other_length k_law_other_length).binds (ps := ["rows", "cell"]) fun _ _ _ _ _ _ us hl => bl2 (fun _ _ => rfl) us hl⟩,
   ⟨fun_mk (st := s_law_spoiled) l_law_spoiled c_law_spoiled k_law_spoiled, PySem.W.mg_of X G a_law_spoiled, (fun_mk (st := s_law_spoiled) l_law_spoiled c_law_spoiled k_law_spoiled).binds (ps := ["rows", "cell"]) fun _ _ _ _ _ _ us hl => bl2 (fun _ _ => rfl) us hl⟩,
   ⟨fun_mk (st := s_law_called) l_law_called c_law_called k_law_called, PySem.W.mg_of X G a_law_called, (fun_mk (st := s_law_called) l_law_called c_law_called k_law_called).binds (ps := ["way", "rows", "one", "other", "some"]) fun _ _ _ _ _ _ us hl => bl5 (fun _ _ _ _ _ => rfl) us hl⟩,
   ⟨fun_mk (st := s_law_caught) l_law_caught c_law_caught k_law_caught, PySem.W.mg_of X G a_law_caught, (fun_mk (st := s_law_caught) l_law_caught c_law_caught k_law_caught).binds (ps := ["way", "rows", "one", "other", "some"]) fun _ _ _ _ _ _ us hl => bl5 (fun _ _ _ _ _ => rfl) us hl⟩,
   ⟨fun_mk (st := s_law_refused) l_law_refused c_law_refused k_law_refused, PySem.W.mg_of X G a_law_refused, (fun_mk (st := s_law_refused) l_law_refused c_law_refused k_law_refused).binds (ps := ["caught"]) fun _ _ _ _ _ _ us hl => bl1 (fun _ => rfl) us hl⟩,
   ⟨fun_mk (st := s_law) l_law c_law k_law, PySem.W.mg_of X G a_law, (fun_mk (st := s_law) l_law c_law k_law).binds (ps := ["script"]) fun _ _ _ _ _ _ us hl => bl1 (fun _ => rfl) us hl⟩,
   PySem.W.mg_none_of X G z_ValueError,
   PySem.W.mg_none_of X G z_enumerate,
   PySem.W.mg_none_of X G z_int,
   PySem.W.mg_none_of X G z_isinstance,
   PySem.W.mg_none_of X G z_len,
   PySem.W.mg_none_of X G z_list,
   PySem.W.mg_none_of X G z_range,
   PySem.W.mg_none_of X G z_reversed,
   PySem.W.mg_none_of X G z_sorted,
   PySem.W.mg_none_of X G z_sum,
   PySem.W.mg_none_of X G z_zip,
   ⟨_, PySem.W.mg_of X G x_MOST_STRANDS⟩,
   PySem.W.mg_of X G n_WeaveError,
   exn_mk y1_WeaveError y2_WeaveError y3_WeaveError y4_WeaveError y5_WeaveError y6_WeaveError y7_WeaveError y8_WeaveError y9_WeaveError y10_WeaveError y11_WeaveError,
   ⟨fun_mk (st := s_WeaveError_called) lm_WeaveError cm_WeaveError km_WeaveError, ⟨fm_WeaveError, gm_WeaveError, km_WeaveError⟩, (fun_mk (st := s_WeaveError_called) lm_WeaveError cm_WeaveError km_WeaveError).binds (ps := ["self"]) fun _ _ _ _ _ _ us hl => match us, hl with | [_], _ => rfl⟩,
   PySem.W.mg_of X G n_NoCloth,
   exn_mk y1_NoCloth y2_NoCloth y3_NoCloth y4_NoCloth y5_WeaveError y6_WeaveError y7_NoCloth y8_NoCloth y9_NoCloth y10_NoCloth y11_NoCloth,
   ⟨fun_mk (st := s_NoCloth_called) lm_NoCloth cm_NoCloth km_NoCloth, ⟨fm_NoCloth, gm_NoCloth, km_NoCloth⟩, (fun_mk (st := s_NoCloth_called) lm_NoCloth cm_NoCloth km_NoCloth).binds (ps := ["self"]) fun _ _ _ _ _ _ us hl => match us, hl with | [_], _ => rfl⟩,
   r_NoCloth_WeaveError,
   r_NoCloth_NoCloth,
   r_NoCloth_NoStrand,
   PySem.W.mg_of X G n_NoStrand,
   exn_mk y1_NoStrand y2_NoStrand y3_NoStrand y4_NoStrand y5_WeaveError y6_WeaveError y7_NoStrand y8_NoStrand y9_NoStrand y10_NoStrand y11_NoStrand,
   ⟨fun_mk (st := s_NoStrand_called) lm_NoStrand cm_NoStrand km_NoStrand, ⟨fm_NoStrand, gm_NoStrand, km_NoStrand⟩, (fun_mk (st := s_NoStrand_called) lm_NoStrand cm_NoStrand km_NoStrand).binds (ps := ["self"]) fun _ _ _ _ _ _ us hl => match us, hl with | [_], _ => rfl⟩,
   r_NoStrand_WeaveError,
   r_NoStrand_NoCloth,
   r_NoStrand_NoStrand⟩
section
variable {P : Program} {w : World} {K : PySem.W.Frag} {mg : Str → Option Value} {base : Heap} {t : Adr}
def sp_called (z : Str) : Sp := fun vs H Q _ => ∃ v, vs = [v] ∧ Q (.str z) H
theorem ok_NoCloth_called (T : Txt K mg t) : FnOk P w K mg base CX0 1 t.f_NoCloth_called t.d_NoCloth_called ["self"] (sp_called "NoCloth") :=
  T.m_NoCloth.F.ok sc_NoCloth_called (fun vs H Q E h => by obtain ⟨v, rfl, _⟩ := h; rfl) fun cdv A outer s H vs Q E hr h => by
    obtain ⟨v, rfl, k⟩ := h
    exact ⟨_, pss_one (ps_ret pe_str), k⟩
end
section
variable {P : Program} {w : World} {K : PySem.W.Frag} {mg : Str → Option Value} {base : Heap} {t : Adr}
theorem z0 (i : Nat) : (0 + (i : Int)).toNat = i := by omega
theorem sg_eq {c d : Nat} : (V.str ⟨#[c]⟩ : V) = V.str ⟨#[d]⟩ ↔ c = d :=
  ⟨fun z => by injection z with z; exact (List.cons.inj (tx_inj (a := [c]) (b := [d]) z)).1, fun z => by rw [z]⟩
theorem e35 : (V.str ⟨#[35]⟩ : V) = V.str "#" := congrArg V.str (by decide +kernel)
theorem e46 : (V.str ⟨#[46]⟩ : V) = V.str "." := congrArg V.str (by decide +kernel)
theorem small40 {n : Nat} (h : n ≤ 40) : n ≤ sizeLine := Nat.le_trans h (by decide)
theorem occ {c : Nat} (h : Sg c) : (!(!(Builtin.Str.occurrences "#." ⟨#[c]⟩ 0 (Str.length "#.") 1).isEmpty)) = false := by
  rcases h with h | h <;> subst h <;> decide +kernel
def sp_check_pick : Sp := fun vs H Q _ => ∃ (t : List Nat), vs = [.str (tx t), .int (t.length : Int), .str "#."] ∧ (∀ c ∈ t, Sg c) ∧ t.length ≤ 40 ∧ Q .non H
theorem ok_check_pick (T : Txt K mg t) : FnOk P w K mg base CX0 1 t.f_check_pick t.d_check_pick ["text", "ends", "signs"] sp_check_pick := by
  refine T.check_pick.F.ok sc_check_pick (fun vs H Q E h => ?_) (fun cdv A outer s H vs Q E hr h => ?_)
  · obtain ⟨t, rfl, _⟩ := h
    rfl
  · obtain ⟨t, rfl, hsg, hl, k⟩ := h
    refine ⟨_, (pss_cons (ps_if (pt_cmpR op_ne (pe_callB call_len_str rfl T.b_len bt_len (pa_cons (pv 0) pa_nil)) (pv 1) (nomark _))
        (pss_one ps_never)
        pss_nil)
      (pss_one (ps_for PassesOwn.never rfl (pi_str (pv 0)) (pg_name (i := 3) sc_check_pick.nd rfl (Or.inl rfl))
        (pss_one (ps_if (pt_cmpR op_notin_str (pv 3) (pv 2) rfl)
          (pss_one ps_never)
          pss_nil))))), ?_⟩
    refine ⟨_, rfl, _, rfl, (by rw [tx_len]; exact small40 hl), _, rfl, rfl, _, rfl, ?_⟩
    refine iteNS (by rw [tx_len]) ?_
    refine ⟨_, rfl, _, rfl, for_str (z := tx t) (fun i σ H2 => ∃ v, σ = [some (.str (tx t)), some (.int (t.length : Int)), some (.str "#."), v] ∧ H2 = H) ⟨none, rfl, rfl⟩ ?_ ?_⟩
    · rintro i c σ H2 hc ⟨v, rfl, rfl⟩
      rw [tx_get] at hc
      refine ⟨_, rfl, _, rfl, _, _, rfl, rfl, _, rfl, ?_⟩
      rw [occ (hsg c (List.mem_of_getElem? hc))]
      exact iteF ⟨_, rfl, rfl⟩
    · rintro σ H2 ⟨v, rfl, rfl⟩
      exact k
def sp_measured_texts (K : PySem.W.Frag) : Sp := fun vs H Q _ => ∃ (a : Addr) (cl : List (List Nat)) (m n : Nat), vs = [.ref a, .int 1, .str "#."] ∧ SqL K H a (vS cl) ∧ Cl cl m n ∧ ∀ p, H p = none → Q (.ref p) (upd H p (.tup [.int (m : Int), .int (n : Int)]))
theorem ok_measured_texts (T : Txt K mg t) : FnOk P w K mg base CX0 2 t.f_measured_texts t.d_measured_texts ["texts", "least", "signs"] (sp_measured_texts K) := by
  have G_check_pick : FnOk P w K mg base CX0 1 t.f_check_pick t.d_check_pick _ _ := ok_check_pick T
  refine T.measured_texts.F.ok sc_measured_texts (fun vs H Q E h => ?_) (fun cdv A outer s H vs Q E hr h => ?_)
  · obtain ⟨a, cl, m, n, rfl, _⟩ := h
    rfl
  · obtain ⟨a, cl, m, n, rfl, hS, C, k⟩ := h
    have hlen : (vS cl).length = n := by rw [vS_len, C.hn]
    have h0 : 0 < cl.length := by rw [C.hn]; exact C.n1
    have hm0 := C.hm cl[0] (List.getElem_mem h0)
    have c1 := C.n1
    have c2 := C.n40
    have c3 := C.m1
    have c4 := C.m40
    refine ⟨_, (pss_cons (ps_if (PW.pt (pw_or (pt_cmpR op_lt (pe_callB (call_len_seqK (K := K)) rfl T.b_len bt_len (pa_cons (pv 0) pa_nil)) (pv 1) (nomark _)) (pw_or1 (pt_cmpR op_gt (pe_callB (call_len_seqK (K := K)) rfl T.b_len bt_len (pa_cons (pv 0) pa_nil)) (pe_glob (v := .int 40) rfl T.c_MOST_STRANDS.choose_spec ⟨_, rfl⟩) (nomark _)))))
        (pss_one ps_never)
        pss_nil)
      (pss_cons (ps_set (i := 3) sc_measured_texts.nd rfl (Or.inl rfl) (pe_callB call_len_str rfl T.b_len bt_len (pa_cons (pe_ix (ix_listK (K := K)) (pv 0) pe_int (fun _ _ => rfl)) pa_nil)))
      (pss_cons (ps_if (PW.pt (pw_or (pt_cmpR op_lt (pv 3) (pv 1) (nomark _)) (pw_or1 (pt_cmpR op_gt (pv 3) (pe_glob (v := .int 40) rfl T.c_MOST_STRANDS.choose_spec ⟨_, rfl⟩) (nomark _)))))
        (pss_one ps_never)
        pss_nil)
      (pss_cons (ps_for PassesOwn.never rfl (pi_listK (K := K) (pv 0)) (pg_name (i := 4) sc_measured_texts.nd rfl (Or.inl rfl))
        (pss_one (ps_expr (pe_call (G_check_pick.mono (by decide)) hr rfl T.check_pick.m T.check_pick.F.kp T.check_pick.b .nil pass0 (pa_cons (pv 4) (pa_cons (pv 3) (pa_cons (pv 2) pa_nil)))))))
      (pss_one (ps_ret (pe_tup (pa_cons (pv 3) (pa_cons (pe_callB (call_len_seqK (K := K)) rfl T.b_len bt_len (pa_cons (pv 0) pa_nil)) pa_nil))))))))), ?_⟩
    refine ⟨_, rfl, _, _, rfl, .inl hS, _, rfl, _, _, rfl, rfl, _, rfl, ?_⟩
    refine iteDn (by rw [hlen]; omega) ?_
    refine ⟨_, rfl, _, _, rfl, .inl hS, _, _, rfl, rfl, _, rfl, ?_⟩
    refine iteDn (by rw [hlen]; omega) ?_
    refine ⟨_, rfl, _, _, _, _, rfl, rfl, hS, atI_of (by decide) (vS_get (List.getElem?_eq_getElem h0)), _, rfl, (by rw [tx_len, hm0]; exact small40 c4), ?_⟩
    rw [tx_len, hm0]
    refine ⟨_, rfl, _, rfl, _, _, rfl, rfl, _, rfl, ?_⟩
    refine iteDn (by omega) ?_
    refine ⟨_, rfl, _, _, rfl, rfl, _, rfl, ?_⟩
    refine iteDn (by omega) ?_
    refine ⟨_, rfl, _, rfl, ⟨_, hS⟩, for_list (K := K) (a := a) (xs := vS cl) (fun i σ H2 => ∃ v, σ = [some (.ref a), some (.int 1), some (.str "#."), some (.int (m : Int)), v] ∧ H2 = H) ⟨none, rfl, rfl⟩ (fun i σ H2 _ ⟨_, _, e⟩ => e ▸ hS) ?_ ?_⟩
    · rintro i x σ H2 hx ⟨v, rfl, rfl⟩
      obtain ⟨t, ht, rfl⟩ := vS_got hx
      have htm := List.mem_of_getElem? ht
      refine ⟨_, rfl, _, rfl, _, rfl, t, ?_, C.sg t htm, ?_, ⟨_, rfl, rfl⟩⟩
      · rw [C.hm t htm]; rfl
      · rw [C.hm t htm]; exact c4
    · rintro σ H2 ⟨v, rfl, rfl⟩
      refine ⟨_, rfl, _, rfl, _, _, rfl, .inl hS, (by show 2 ≤ sizeLine; decide), fun p hp => ?_⟩
      rw [hlen]
      exact k p hp
def sp_measured (K : PySem.W.Frag) : Sp := fun vs H Q _ => ∃ (a : Addr) (cl : List (List Nat)) (m n : Nat), vs = [.ref a] ∧ SqL K H a (vS cl) ∧ Cl cl m n ∧ ∀ p, H p = none → Q (.ref p) (upd H p (.tup [.int (m : Int), .int (n : Int)]))
theorem ok_measured (T : Txt K mg t) : FnOk P w K mg base CX0 3 t.f_measured t.d_measured ["cloth"] (sp_measured K) := by
  have G_measured_texts : FnOk P w K mg base CX0 2 t.f_measured_texts t.d_measured_texts _ _ := ok_measured_texts T
  refine T.measured.F.ok sc_measured (fun vs H Q E h => ?_) (fun cdv A outer s H vs Q E hr h => ?_)
  · obtain ⟨a, cl, m, n, rfl, _⟩ := h
    rfl
  · obtain ⟨a, cl, m, n, rfl, hS, C, k⟩ := h
    exact ⟨_, (pss_one (ps_ret (pe_call (G_measured_texts.mono (by decide)) hr rfl T.measured_texts.m T.measured_texts.F.kp T.measured_texts.b .nil pass0 (pa_cons (pv 0) (pa_cons pe_int (pa_cons pe_str pa_nil)))))), _, rfl, a, cl, m, n, rfl, hS, C, k⟩
def sp_end_signs (K : PySem.W.Frag) : Sp := fun vs H Q _ => ∃ (a : Addr) (cl : List (List Nat)) (m n e : Nat), vs = [.ref a, .int (e : Int)] ∧ SqL K H a (vS cl) ∧ Cl cl m n ∧ e < m ∧ ∀ H', Same H H' → Q (.str (tx (col cl e))) H'
theorem ok_end_signs (T : Txt K mg t) : FnOk P w K mg base CX0 1 t.f_end_signs t.d_end_signs ["cloth", "end"] (sp_end_signs K) := by
  refine T.end_signs.F.ok sc_end_signs (fun vs H Q E h => ?_) (fun cdv A outer s H vs Q E hr h => ?_)
  · obtain ⟨a, cl, m, n, e, rfl, _⟩ := h
    rfl
  · obtain ⟨a, cl, m, n, e, rfl, hS, C, he, k⟩ := h
    have c2 := C.n40
    have c4 := C.m40
    refine ⟨_, (pss_one (ps_ret (pe_bmK (K := K) PySem.F.plainAttrs_str PySem.F.slot_str_join PySem.F.type_str_join (mt_joinK (K := K)) pe_str (pa_cons (pe_comp (CompOk.mk (caps := [1]) (Nc := ["text", "end"]) rfl (by decide +kernel) (by decide +kernel) (comp_fr (sc0 := defScope s_end_signs) rfl (by decide +kernel)) rfl rfl rfl (by decide +kernel) (fun k j h => match k, h with | 0, h => by obtain rfl := Option.some.inj h; exact ⟨_, rfl, rfl, rfl⟩ | _ + 1, h => by simp at h)) rfl (pi_listK (K := K) (pv 0)) (fun _ _ _ _ _ => .nil) (fun _ _ _ _ _ => (pe_ix ix_str (pv 0) (pv 1) (fun _ _ => rfl)))) pa_nil)))), ?_⟩
    refine ⟨rfl, _, rfl, _, rfl, ⟨_, hS⟩, comp_list (K := K) (a := a) (xs := vS cl) (fun i ys H2 => H2 = H ∧ ys = vS ((cl.take i).map fun t => [t.getD e 0])) ⟨rfl, rfl⟩ ?_ ?_ ?_ ?_⟩
    · rintro i ys H2 hi ⟨rfl, rfl⟩
      refine ⟨hS, ?_⟩
      rw [vS_len, List.length_map, List.length_take]
      omega
    · rw [vS_len, C.hn]; exact small40 c2
    · rintro i x ys H2 hi hx ⟨rfl, rfl⟩
      obtain ⟨t, ht, rfl⟩ := vS_got hx
      have htm := List.mem_of_getElem? ht
      have htl := C.hm t htm
      have hel : e < t.length := by omega
      refine CTurn.no ?_
      refine ⟨_, rfl, _, rfl, _, _, t[e], rfl, rfl, (by rw [tx_len, htl]; exact small40 c4), (by rw [tx_list]; exact atI_nat (List.getElem?_eq_getElem hel)), ?_⟩
      refine CN.of hi ⟨rfl, ?_⟩
      rw [tx_one, vS_app, List.take_add_one, ht, List.map_append]
      simp [List.getD, hel]
    · rintro ys H2 p ⟨rfl, rfl⟩ hp
      rw [vS_len, List.take_length]
      refine ⟨_, _, ((cl.map fun t => [t.getD e 0]).map tx), rfl, rfl, SqL.of (by rw [upd_same, vS_map]), ?_, ?_⟩
      · have e1 := sum1 (fun t : List Nat => t.getD e 0) cl
        rw [e1, List.length_map, List.length_map, C.hn]
        have : n * (Str.length "") = 0 := by rw [show Str.length "" = 0 from by decide +kernel]; omega
        omega
      · rw [show (("" : Str)) = tx [] from by decide +kernel, tx_join]
        have e2 : (cl.map fun t => [t.getD e 0]).flatten = col cl e := flat1 (fun t : List Nat => t.getD e 0) cl
        rw [e2]
        exact k _ (.upd hp)
theorem rep_vI (m : Nat) (z : Int) : (List.replicate m [V.int z]).flatten = vI (List.replicate m z) := by
  induction m with
  | zero => rfl
  | succ m ih => rw [List.replicate_succ, List.flatten_cons, ih, List.replicate_succ]; rfl
theorem by_rest2 {G : Prop} {R : Nat → Nat → Prop} (C : Nat → Nat → Prop) (main : (∀ m n, C m n → R m n) → G) (rest : ∀ m n, C m n → R m n) : G := main rest
def sp_at (K : PySem.W.Frag) : Sp := fun vs H Q _ => ∃ (a : Addr) (ns : List Int) (i : Int), vs = [.ref a, .int i] ∧ SqL K H a (vI ns) ∧ 0 ≤ i ∧ ∀ c : Int, Q (.int c) H
theorem ok_law_at (T : Txt K mg t) : FnOk P w K mg base CX0 1 t.f_law_at t.d_law_at ["script", "k"] (sp_at K) := by
  refine T.law_at.F.ok sc_law_at (fun vs H Q E h => ?_) (fun cdv A outer s H vs Q E hr h => ?_)
  · obtain ⟨a, ns, i, rfl, _⟩ := h
    rfl
  · obtain ⟨a, ns, i, rfl, hS, hi, k⟩ := h
    refine ⟨_, (pss_cons (ps_if (pt_cmpR op_lt (pv 1) (pe_callB (call_len_seqK (K := K)) rfl T.b_len bt_len (pa_cons (pv 0) pa_nil)) (nomark _))
        (pss_one (ps_ret (pe_ix (ix_listK (K := K)) (pv 0) (pv 1) (fun _ _ => rfl))))
        pss_nil)
      (pss_one (ps_ret pe_int))), ?_⟩
    refine ⟨_, rfl, _, rfl, _, _, rfl, .inl hS, _, _, rfl, rfl, _, rfl, ?_⟩
    refine ite2D (fun h1 => ?_) (fun h1 => ?_)
    · rw [vI_len] at h1
      have hlt : i.toNat < ns.length := by omega
      exact ⟨_, rfl, _, rfl, _, _, _, _, rfl, rfl, hS, atI_of hi (vI_get (List.getElem?_eq_getElem hlt)), k _⟩
    · exact k 0
def sp_lnumbers (K : PySem.W.Frag) : Sp := fun vs H Q _ => ∃ (a : Addr) (ns : List Int) (m : Nat) (f : Int), vs = [.ref a, .int (m : Int), .int f] ∧ SqL K H a (vI ns) ∧ ns.length ≤ 63 ∧ 1 ≤ m ∧ m ≤ 1000 ∧ 0 ≤ f ∧ f ≤ 48271 ∧
  ∀ (l : Addr) (ks : List Int) (H' : Hp), Same H H' → H l = none → H' l = some (.lst (vI ks)) → ks.length = m → Q (.ref l) H'
theorem ok_law_numbers (T : Txt K mg t) : FnOk P w K mg base CX0 1 t.f_law_numbers t.d_law_numbers ["script", "picks", "factor"] (sp_lnumbers K) := by
  refine T.law_numbers.F.ok sc_law_numbers (fun vs H Q E h => ?_) (fun cdv A outer s H vs Q E hr h => ?_)
  · obtain ⟨a, ns, m, f, rfl, _⟩ := h
    rfl
  · obtain ⟨a, ns, m, f, rfl, hS, hl, hm, hm2, f0, f1, k⟩ := h
    have hsz : sizeLine = 16777216 := sizeLine_eq
    refine ⟨_, (pss_cons (ps_set (i := 3) sc_law_numbers.nd rfl (Or.inl rfl) (pe_op op_rep (pe_lst (pa_cons pe_int pa_nil)) (pv 1)))
      (pss_cons (ps_for PassesOwn.never rfl (pi_range1 rfl T.b_range (pa_cons (pe_callB (call_len_seqK (K := K)) rfl T.b_len bt_len (pa_cons (pv 0) pa_nil)) pa_nil)) (pg_name (i := 4) sc_law_numbers.nd rfl (Or.inl rfl))
        (pss_cons (ps_set (i := 5) sc_law_numbers.nd rfl (Or.inl rfl) (pe_op op_mod (pv 4) (pv 1)))
        (pss_cons (ps_set (i := 6) sc_law_numbers.nd rfl (Or.inl rfl) (pe_op op_add (pe_op op_mul (pe_ix (ix_listK (K := K)) (pv 3) (pv 5) (fun _ _ => rfl)) (pv 2)) (pe_ix (ix_listK (K := K)) (pv 0) (pv 4) (fun _ _ => rfl))))
        (pss_one (ps_asg (pe_op op_mod (pv 6) pe_int) (pg_sub (pv 3) (pv 5) set_list))))))
      (pss_one (ps_ret (pv 3))))), ?_⟩
    refine ⟨(by show 1 ≤ sizeLine; decide), fun p hp => ?_⟩
    refine ⟨_, rfl, _, _, _, rfl, rfl, upd_same, (by omega), (by omega), (by show 1 * ((m : Int).toNat) ≤ sizeLine; omega), fun q hq => ?_⟩
    rw [Int.toNat_natCast, rep_vI]
    have s1 : Same H (upd H p (.lst [.int 0])) := .upd hp
    have nq : H q = none := s1.free hq
    have s2 : Same H (upd (upd H p (.lst [.int 0])) q (.lst (vI (List.replicate m 0)))) := s1.new hq
    refine ⟨_, rfl, _, _, rfl, .inl (s2.seq hS), _, rfl, (by omega), (by rw [vI_len]; omega), ?_⟩
    rw [Int.toNat_natCast, vI_len]
    refine for_range (lo := 0) (n := ns.length) (fun i σ H2 => ∃ (ks : List Int) (v1 v2 v3 : Option V), σ = [some (.ref a), some (.int (m : Int)), some (.int f), some (.ref q), v1, v2, v3] ∧ Same H H2 ∧ H2 q = some (.lst (vI ks)) ∧ ks.length = m)
      ⟨_, none, none, none, rfl, s2, upd_same, by rw [List.length_replicate]⟩ ?_ ?_
    · rintro i σ H2 hi ⟨ks, v1, v2, v3, rfl, s3, hq2, hkl⟩
      have hix : (0 + (i : Int)) % (m : Int) = ((i % m : Nat) : Int) := by rw [Int.zero_add]; omega
      have hlt : i % m < ks.length := by rw [hkl]; exact Nat.mod_lt _ (by omega)
      have e1 : (vI ks)[((0 + (i : Int)) % (m : Int)).toNat]? = some (.int ks[i % m]) := by
        rw [hix, Int.toNat_natCast]
        exact vI_get (List.getElem?_eq_getElem hlt)
      have e2 : (vI ns)[(0 + (i : Int)).toNat]? = some (.int ns[i]) := by
        rw [Int.zero_add, Int.toNat_natCast]
        exact vI_get (List.getElem?_eq_getElem hi)
      have n1 : 0 ≤ (0 + (i : Int)) % (m : Int) := by rw [hix]; omega
      refine ⟨_, rfl, _, rfl, _, _, rfl, rfl, (by show (0 : Int) < m; omega), ?_⟩
      refine ⟨_, rfl, _, rfl, _, _, _, _, rfl, rfl, SqL.of hq2, atI_of n1 e1, _, rfl, _, _, rfl, rfl, .inr ⟨by omega, by omega⟩, ?_⟩
      refine ⟨_, rfl, _, rfl, _, _, _, _, rfl, rfl, s3.seq hS, atI_of (by omega) e2, _, _, rfl, rfl, ?_⟩
      refine ⟨_, rfl, _, _, rfl, rfl, (by show (0 : Int) < 1099511627776; decide), ?_⟩
      refine ⟨_, rfl, _, rfl, _, _, _, _, rfl, rfl, hq2, ixN_of n1 (by rw [vI_len, hkl, hix]; omega), ?_⟩
      rw [vI_set]
      exact ⟨_, _, _, _, rfl, s3.over nq, upd_same, by rw [List.length_set]; exact hkl⟩
    · rintro σ H2 ⟨ks, v1, v2, v3, rfl, s3, hq2, hkl⟩
      exact ⟨_, rfl, k q ks H2 s3 nq hq2 hkl⟩
def sp_levels (K : PySem.W.Frag) : Sp := fun vs H Q _ => ∃ (a : Addr) (ns : List Int) (m : Nat) (y : Int), vs = [.ref a, .int (m : Int), .int y] ∧ SqL K H a (vI ns) ∧ m ≤ 1000 ∧ 0 < y ∧
  ∀ (l : Addr) (ks : List Int) (H' : Hp), Same H H' → H l = none → H' l = some (.lst (vI ks)) → ks.length = m → Q (.ref l) H'
theorem ok_law_levels (T : Txt K mg t) : FnOk P w K mg base CX0 2 t.f_law_levels t.d_law_levels ["script", "strands", "many"] (sp_levels K) := by
  have G_law_at : FnOk P w K mg base CX0 1 t.f_law_at t.d_law_at _ _ := ok_law_at T
  refine T.law_levels.F.ok sc_law_levels (fun vs H Q E h => ?_) (fun cdv A outer s H vs Q E hr h => ?_)
  · obtain ⟨a, ns, m, y, rfl, _⟩ := h
    rfl
  · obtain ⟨a, ns, m, y, rfl, hS, hm, hy, k⟩ := h
    have hsz : sizeLine = 16777216 := sizeLine_eq
    refine ⟨_, (pss_cons (ps_set (i := 3) sc_law_levels.nd rfl (Or.inl rfl) (pe_op op_mod (pe_op op_add (pe_call (G_law_at.mono (by decide)) hr rfl T.law_at.m T.law_at.F.kp T.law_at.b .nil pass0 (pa_cons (pv 0) (pa_cons pe_int pa_nil))) pe_int) pe_int))
      (pss_cons (ps_set (i := 4) sc_law_levels.nd rfl (Or.inl rfl) (pe_lst pa_nil))
      (pss_cons (ps_for PassesOwn.never rfl (pi_range1 rfl T.b_range (pa_cons (pv 1) pa_nil)) (pg_name (i := 5) sc_law_levels.nd rfl (Or.inl rfl))
        (pss_cons (ps_set (i := 3) sc_law_levels.nd rfl (Or.inl rfl) (pe_op op_mod (pe_op op_add (pe_op op_mul (pv 3) pe_int) pe_int) pe_int))
        (pss_one (ps_expr (pe_bmK (K := K) PySem.F.plainAttrs_list PySem.F.slot_list_append PySem.F.type_list_append mt_append (pv 4) (pa_cons (pe_op op_mod (pe_op op_fdiv (pv 3) pe_int) (pv 2)) pa_nil))))))
      (pss_one (ps_ret (pv 4)))))), ?_⟩
    refine ⟨_, rfl, a, ns, 3, rfl, hS, by decide, fun c => ?_⟩
    refine ⟨_, _, rfl, rfl, _, _, rfl, rfl, (by show (0 : Int) < 2147483647; decide), ?_⟩
    refine ⟨Nat.zero_le _, fun q hq => ?_⟩
    refine ⟨_, rfl, _, rfl, (by omega), (by omega), ?_⟩
    rw [Int.toNat_natCast]
    refine for_range (lo := 0) (n := m) (fun i σ H2 => ∃ (z : Int) (ks : List Int) (v1 : Option V), σ = [some (.ref a), some (.int (m : Int)), some (.int y), some (.int z), some (.ref q), v1] ∧ Same H H2 ∧ H2 q = some (.lst (vI ks)) ∧ ks.length = i)
      ⟨_, [], none, rfl, .upd hq, upd_same, rfl⟩ ?_ ?_
    · rintro i σ H2 hi ⟨z, ks, v1, rfl, s2, hq2, hkl⟩
      refine ⟨_, rfl, _, _, rfl, rfl, .inr ⟨by decide, by decide⟩, _, _, rfl, rfl, _, _, rfl, rfl, (by show (0 : Int) < 2147483647; decide), ?_⟩
      refine ⟨_, rfl, .inl ⟨rfl, _, SqL.of hq2⟩, _, rfl, _, _, rfl, rfl, ⟨by decide, by decide⟩, _, rfl, _, _, rfl, rfl, hy, _, _, _, rfl, rfl, hq2, (by rw [vI_len, hkl]; omega), ?_⟩
      rw [vI_app]
      exact ⟨_, _, _, rfl, s2.over hq, upd_same, by rw [List.length_append, hkl]; rfl⟩
    · rintro σ H2 ⟨z, ks, v1, rfl, s2, hq2, hkl⟩
      exact ⟨_, rfl, k q ks H2 s2 hq hq2 hkl⟩
theorem dot_at (b : Bool) : atI ((".#" : Str)).cps.toList (if b = true then 1 else 0) = some (if b = true then 35 else 46) := by cases b <;> decide +kernel
theorem sg_b (b : Bool) : Sg (if b = true then 35 else 46) := by cases b <;> unfold Sg <;> simp
theorem sg_add {u : List Nat} {c : Nat} (h : ∀ d ∈ u, Sg d) (hc : Sg c) : ∀ d ∈ u ++ [c], Sg d := fun d hd => by
  rcases List.mem_append.mp hd with h1 | h1
  · exact h d h1
  · rw [List.mem_singleton.mp h1]; exact hc
def sp_text : Sp := fun vs H Q _ => ∃ (z : Int) (p m : Nat) (l : Addr) (ks : List Int), vs = [.int z, .int (p : Int), .int (m : Int), .ref l] ∧ H l = some (.lst (vI ks)) ∧ m + p < ks.length ∧ m ≤ 40 ∧
  ∀ u : List Nat, u.length = m → (∀ c ∈ u, Sg c) → Q (.str (tx u)) H
theorem ok_law_text (T : Txt K mg t) : FnOk P w K mg base CX0 1 t.f_law_text t.d_law_text ["number", "pick", "ends", "levels"] sp_text := by
  refine T.law_text.F.ok sc_law_text (fun vs H Q E h => ?_) (fun cdv A outer s H vs Q E hr h => ?_)
  · obtain ⟨z, p, m, l, ks, rfl, _⟩ := h
    rfl
  · obtain ⟨z, p, m, l, ks, rfl, hl, hp, hm, k⟩ := h
    have hsz : sizeLine = 16777216 := sizeLine_eq
    refine ⟨_, (pss_cons (ps_set (i := 4) sc_law_text.nd rfl (Or.inl rfl) pe_str)
      (pss_cons (ps_for PassesOwn.never rfl (pi_range1 rfl T.b_range (pa_cons (pv 2) pa_nil)) (pg_name (i := 5) sc_law_text.nd rfl (Or.inl rfl))
        (pss_cons (ps_set (i := 6) sc_law_text.nd rfl (Or.inl rfl) (pe_cmpR op_eq (pe_op op_mod (pv 0) pe_int) pe_int (nomark _)))
        (pss_cons (ps_if (pt_cmpR op_ne (pe_ix (ix_listK (K := K)) (pv 3) (pv 5) (fun _ _ => rfl)) (pe_ix (ix_listK (K := K)) (pv 3) (pe_op op_add (pv 2) (pv 1)) (fun _ _ => rfl)) (nomark _))
          (pss_one (ps_set (i := 6) sc_law_text.nd rfl (Or.inl rfl) (pe_cmpR op_lt (pe_ix (ix_listK (K := K)) (pv 3) (pv 5) (fun _ _ => rfl)) (pe_ix (ix_listK (K := K)) (pv 3) (pe_op op_add (pv 2) (pv 1)) (fun _ _ => rfl)) (nomark _))))
          pss_nil)
        (pss_cons (ps_set (i := 4) sc_law_text.nd rfl (Or.inl rfl) (pe_op op_add_str (pv 4) (pe_ix ix_str pe_str (pe_callTy call_int1 rfl T.b_int bt_int (pa_cons (pv 6) pa_nil)) (fun _ _ => rfl))))
        (pss_one (ps_set (i := 0) sc_law_text.nd rfl (Or.inl rfl) (pe_op op_fdiv (pv 0) pe_int)))))))
      (pss_one (ps_ret (pv 4))))), ?_⟩
    refine ⟨_, rfl, _, rfl, (by omega), (by omega), ?_⟩
    rw [Int.toNat_natCast]
    refine for_range (lo := 0) (n := m) (fun i σ H2 => ∃ (z : Int) (u : List Nat) (v1 v2 : Option V), σ = [some (.int z), some (.int (p : Int)), some (.int (m : Int)), some (.ref l), some (.str (tx u)), v1, v2] ∧ H2 = H ∧ u.length = i ∧ ∀ c ∈ u, Sg c)
      ⟨z, [], none, none, by rw [show (("" : Str)) = tx [] from by decide +kernel]; rfl, rfl, rfl, fun _ h => absurd h (by simp)⟩ ?_ ?_
    · rintro i σ H2 hi ⟨z, u, v1, v2, rfl, rfl, hul, hus⟩
      have e1 : atI (vI ks) (0 + (i : Int)) = some (.int ks[i]) := atI_of (by omega) (by rw [z0]; exact vI_get (List.getElem?_eq_getElem (by omega)))
      have e2 : atI (vI ks) ((m : Int) + (p : Int)) = some (.int ks[m + p]) := atI_of (by omega) (by rw [show ((m : Int) + (p : Int)).toNat = m + p by omega]; exact vI_get (List.getElem?_eq_getElem hp))
      have sm : ∀ c : Nat, (tx u).length + (⟨#[c]⟩ : Str).length ≤ sizeLine := fun c => by
        rw [tx_len, tx_one, tx_len, hul]
        show i + 1 ≤ sizeLine
        omega
      refine ⟨_, rfl, _, _, rfl, rfl, (by show (0 : Int) < 2; decide), rfl, ?_⟩
      refine ⟨_, rfl, _, rfl, _, _, _, _, rfl, rfl, SqL.of hl, e1, _, rfl, _, rfl, _, rfl, _, _, rfl, rfl, _, _, _, _, rfl, rfl, SqL.of hl, e2, rfl, _, rfl, ?_⟩
      refine iteB (fun _ => ?_) (fun _ => ?_)
      · refine ⟨_, rfl, _, rfl, _, _, _, _, rfl, rfl, SqL.of hl, e1, _, rfl, _, rfl, _, rfl, _, _, rfl, rfl, _, _, _, _, rfl, rfl, SqL.of hl, e2, _, _, rfl, rfl, ?_⟩
        refine ⟨_, rfl, _, rfl, .inr ⟨_, rfl, _, _, _, rfl, rfl, (by decide +kernel), dot_at _, _, _, rfl, rfl, sm _, ?_⟩⟩
        rw [tx_one, tx_app]
        refine ⟨_, rfl, _, _, rfl, rfl, ⟨by decide, by decide⟩, ?_⟩
        exact ⟨_, _, _, _, rfl, rfl, by rw [List.length_append, hul]; rfl, sg_add hus (sg_b _)⟩
      · refine ⟨_, rfl, _, rfl, .inr ⟨_, rfl, _, _, _, rfl, rfl, (by decide +kernel), dot_at _, _, _, rfl, rfl, sm _, ?_⟩⟩
        rw [tx_one, tx_app]
        refine ⟨_, rfl, _, _, rfl, rfl, ⟨by decide, by decide⟩, ?_⟩
        exact ⟨_, _, _, _, rfl, rfl, by rw [List.length_append, hul]; rfl, sg_add hus (sg_b _)⟩
    · rintro σ H2 ⟨z, u, v1, v2, rfl, rfl, hul, hus⟩
      exact ⟨_, rfl, k u hul hus⟩
theorem pick3 {z : Int} (h0 : 0 ≤ z) (h3 : z < 3) : ∃ f : Int, atI [V.int 1, V.int 3, V.int 48271] z = some (.int f) ∧ 0 ≤ f ∧ f ≤ 48271 := by
  have : z = 0 ∨ z = 1 ∨ z = 2 := by omega
  rcases this with e | e | e <;> subst e
  · exact ⟨1, rfl, by decide, by decide⟩
  · exact ⟨3, rfl, by decide, by decide⟩
  · exact ⟨48271, rfl, by decide, by decide⟩
theorem one_of (c : Int) {z : Int} (hz : 0 < z) (hz2 : z ≤ 30) : ∃ m : Nat, 1 + c % z = (m : Int) ∧ 1 ≤ m ∧ m ≤ 30 := by
  have h1 := Int.emod_nonneg c (show z ≠ 0 by omega)
  have h2 := Int.emod_lt_of_pos c hz
  exact ⟨(1 + c % z).toNat, by omega, by omega, by omega⟩
def sp_cloth (K : PySem.W.Frag) : Sp := fun vs H Q _ => ∃ (a : Addr) (ns : List Int) (y : Int), vs = [.ref a, .int y] ∧ SqL K H a (vI ns) ∧ ns.length ≤ 63 ∧ 0 < y ∧ y ≤ 30 ∧
  ∀ (l : Addr) (cl : List (List Nat)) (m n : Nat) (H' : Hp), Same H H' → H l = none → H' l = some (.lst (vS cl)) → Cl cl m n → m ≤ 30 → n ≤ 30 → Q (.ref l) H'
theorem ok_law_cloth (T : Txt K mg t) : FnOk P w K mg base CX0 3 t.f_law_cloth t.d_law_cloth ["script", "most"] (sp_cloth K) := by
  have G_law_at : FnOk P w K mg base CX0 1 t.f_law_at t.d_law_at _ _ := ok_law_at T
  have G_law_numbers : FnOk P w K mg base CX0 1 t.f_law_numbers t.d_law_numbers _ _ := ok_law_numbers T
  have G_law_levels : FnOk P w K mg base CX0 2 t.f_law_levels t.d_law_levels _ _ := ok_law_levels T
  have G_law_text : FnOk P w K mg base CX0 1 t.f_law_text t.d_law_text _ _ := ok_law_text T
  refine T.law_cloth.F.ok sc_law_cloth (fun vs H Q E h => ?_) (fun cdv A outer s H vs Q E hr h => ?_)
  · obtain ⟨a, ns, y, rfl, _⟩ := h
    rfl
  · obtain ⟨a, ns, y, rfl, hS, hl, y0, y40, k⟩ := h
    have hsz : sizeLine = 16777216 := sizeLine_eq
    refine ⟨_, (pss_cons (ps_set (i := 2) sc_law_cloth.nd rfl (Or.inr rfl) (pe_op op_add pe_int (pe_op op_mod (pe_call (G_law_at.mono (by decide)) hr rfl T.law_at.m T.law_at.F.kp T.law_at.b .nil pass0 (pa_cons (pv 0) (pa_cons pe_int pa_nil))) pe_int)))
      (pss_cons (ps_set (i := 3) sc_law_cloth.nd rfl (Or.inl rfl) (pe_op op_add pe_int (pe_op op_mod (pe_call (G_law_at.mono (by decide)) hr rfl T.law_at.m T.law_at.F.kp T.law_at.b .nil pass0 (pa_cons (pv 0) (pa_cons pe_int pa_nil))) pe_int)))
      (pss_cons (ps_if (pt_cmpR op_eq (pe_op op_mod (pe_call (G_law_at.mono (by decide)) hr rfl T.law_at.m T.law_at.F.kp T.law_at.b .nil pass0 (pa_cons (pv 0) (pa_cons pe_int pa_nil))) pe_int) pe_int (nomark _))
        (pss_cons (ps_set (i := 2) sc_law_cloth.nd rfl (Or.inr rfl) (pe_op op_add pe_int (pe_op op_mod (pe_call (G_law_at.mono (by decide)) hr rfl T.law_at.m T.law_at.F.kp T.law_at.b .nil pass0 (pa_cons (pv 0) (pa_cons pe_int pa_nil))) (pv 1))))
        (pss_one (ps_set (i := 3) sc_law_cloth.nd rfl (Or.inl rfl) (pe_op op_add pe_int (pe_op op_mod (pe_call (G_law_at.mono (by decide)) hr rfl T.law_at.m T.law_at.F.kp T.law_at.b .nil pass0 (pa_cons (pv 0) (pa_cons pe_int pa_nil))) (pv 1))))))
        pss_nil)
      (pss_cons (ps_set (i := 4) sc_law_cloth.nd rfl (Or.inl rfl) (pe_ix (ix_listK (K := K)) (pe_lst (pa_cons pe_int (pa_cons pe_int (pa_cons pe_int pa_nil)))) (pe_op op_mod (pe_op op_fdiv (pe_call (G_law_at.mono (by decide)) hr rfl T.law_at.m T.law_at.F.kp T.law_at.b .nil pass0 (pa_cons (pv 0) (pa_cons pe_int pa_nil))) pe_int) pe_int) (fun _ _ => rfl)))
      (pss_cons (ps_set (i := 5) sc_law_cloth.nd rfl (Or.inr rfl) (pe_call (G_law_numbers.mono (by decide)) hr rfl T.law_numbers.m T.law_numbers.F.kp T.law_numbers.b .nil pass0 (pa_cons (pv 0) (pa_cons (pv 3) (pa_cons (pv 4) pa_nil)))))
      (pss_cons (ps_set (i := 6) sc_law_cloth.nd rfl (Or.inr rfl) (pe_call (G_law_levels.mono (by decide)) hr rfl T.law_levels.m T.law_levels.F.kp T.law_levels.b .nil pass0 (pa_cons (pv 0) (pa_cons (pe_op op_add (pv 2) (pv 3)) (pa_cons (pe_op op_add pe_int (pe_op op_mod (pe_op op_fdiv (pe_call (G_law_at.mono (by decide)) hr rfl T.law_at.m T.law_at.F.kp T.law_at.b .nil pass0 (pa_cons (pv 0) (pa_cons pe_int pa_nil))) pe_int) pe_int)) pa_nil)))))
      (pss_one (ps_ret (pe_comp (CompOk.mk (caps := [2, 5, 6]) (Nc := ["j", "ends", "numbers", "levels"]) rfl (by decide +kernel) (by decide +kernel) (comp_fr (sc0 := defScope s_law_cloth) rfl (by decide +kernel)) rfl rfl rfl (by decide +kernel) (fun k j h => match k, h with | 0, h => by obtain rfl := Option.some.inj h; exact ⟨_, rfl, rfl, rfl⟩ | 1, h => by obtain rfl := Option.some.inj h; exact ⟨_, rfl, rfl, rfl⟩ | 2, h => by obtain rfl := Option.some.inj h; exact ⟨_, rfl, rfl, rfl⟩ | _ + 3, h => by simp at h)) rfl (pi_range1 rfl T.b_range (pa_cons (pv 3) pa_nil)) (fun _ _ _ _ _ => .nil) (fun _ _ _ _ _ => (pe_call (G_law_text.mono (by decide)) hr rfl T.law_text.m T.law_text.F.kp T.law_text.b .nil pass0 (pa_cons (pe_ix (ix_listK (K := K)) (pv 2) (pv 0) (fun _ _ => rfl)) (pa_cons (pv 0) (pa_cons (pv 1) (pa_cons (pv 3) pa_nil))))))))))))))), ?_⟩
    refine ⟨_, rfl, a, ns, 0, rfl, hS, by decide, fun c0 => ?_⟩
    refine ⟨_, _, rfl, rfl, (by show (0 : Int) < 7; decide), _, _, rfl, rfl, ?_⟩
    refine ⟨_, rfl, a, ns, 1, rfl, hS, by decide, fun c1 => ?_⟩
    refine ⟨_, _, rfl, rfl, (by show (0 : Int) < 7; decide), _, _, rfl, rfl, ?_⟩
    obtain ⟨m0, em0, m01, m02⟩ := one_of c0 (z := 7) (by decide) (by decide)
    obtain ⟨n0, en0, n01, n02⟩ := one_of c1 (z := 7) (by decide) (by decide)
    dsimp only
    rw [em0, en0]
    apply by_rest2 (fun m n => 1 ≤ m ∧ m ≤ 30 ∧ 1 ≤ n ∧ n ≤ 30)
    · intro rest
      refine ⟨_, rfl, a, ns, 2, rfl, hS, by decide, fun c2 => ?_⟩
      refine ⟨_, _, rfl, rfl, (by show (0 : Int) < 7; decide), rfl, _, rfl, ?_⟩
      refine ite2D (fun _ => ?_) (fun _ => ?_)
      · refine ⟨_, rfl, a, ns, 0, rfl, hS, by decide, fun c0 => ?_⟩
        refine ⟨_, rfl, _, _, rfl, rfl, y0, _, _, rfl, rfl, ?_⟩
        refine ⟨_, rfl, a, ns, 1, rfl, hS, by decide, fun c1 => ?_⟩
        refine ⟨_, rfl, _, _, rfl, rfl, y0, _, _, rfl, rfl, ?_⟩
        obtain ⟨m1, em1, m11, m12⟩ := one_of c0 y0 y40
        obtain ⟨n1, en1, n11, n12⟩ := one_of c1 y0 y40
        dsimp only
        rw [em1, en1]
        exact rest m1 n1 ⟨m11, m12, n11, n12⟩
      · exact rest m0 n0 ⟨m01, m02, n01, n02⟩
    · rintro m n ⟨m1, m40, n1, n40⟩
      refine ⟨(by show 3 ≤ sizeLine; decide), fun p hp => ?_⟩
      have s1 : Same H (upd H p (.lst [.int 1, .int 3, .int 48271])) := .upd hp
      refine ⟨_, rfl, a, ns, 2, rfl, s1.seq hS, by decide, fun c2 => ?_⟩
      obtain ⟨f, ef, f0, f1⟩ := pick3 (z := c2 / 7 % 3) (Int.emod_nonneg _ (by decide)) (Int.emod_lt_of_pos _ (by decide))
      refine ⟨_, _, rfl, rfl, ⟨by decide, by decide⟩, _, _, rfl, rfl, (by show (0 : Int) < 3; decide), _, _, _, _, rfl, rfl, SqL.of upd_same, ef, ?_⟩
      refine ⟨_, rfl, _, rfl, _, rfl, a, ns, n, f, rfl, s1.seq hS, hl, n1, by omega, f0, f1, fun ln ks H2 s2 nln hln hkl => ?_⟩
      have u2 := s1.trans s2
      refine ⟨_, rfl, _, rfl, _, rfl, _, _, rfl, rfl, _, rfl, a, ns, 2, rfl, u2.seq hS, by decide, fun c3 => ?_⟩
      refine ⟨_, _, rfl, rfl, ⟨by decide, by decide⟩, _, _, rfl, rfl, (by show (0 : Int) < 4; decide), _, _, rfl, rfl, ?_⟩
      refine ⟨a, ns, m + n, 1 + c3 / 21 % 4, (by rw [Int.natCast_add]; rfl), u2.seq hS, by omega, ?_, fun ll ls H3 s3 nll hll hlsl => ?_⟩
      · have := Int.emod_nonneg (c3 / 21) (show (4 : Int) ≠ 0 by decide)
        omega
      have u3 := u2.trans s3
      refine ⟨_, rfl, _, rfl, (by omega), (by omega), ?_⟩
      rw [Int.toNat_natCast]
      refine comp_range (lo := 0) (n := n) (fun i ys H4 => H4 = H3 ∧ ∃ cl : List (List Nat), ys = vS cl ∧ cl.length = i ∧ (∀ t ∈ cl, t.length = m) ∧ ∀ t ∈ cl, ∀ c ∈ t, Sg c) ⟨rfl, [], rfl, rfl, fun _ h => absurd h (by simp), fun _ h => absurd h (by simp)⟩ ?_ ?_ ?_ ?_
      · rintro i ys H4 hi ⟨rfl, cl, rfl, hcl, _⟩
        rw [vS_len, hcl]
        exact Nat.le_refl _
      · omega
      · rintro i ys H4 hi ⟨rfl, cl, rfl, hcl, hcm, hcs⟩
        refine CTurn.no ?_
        have e1 : atI (vI ks) (0 + (i : Int)) = some (.int ks[i]) := atI_of (by omega) (by rw [z0]; exact vI_get (List.getElem?_eq_getElem (by omega)))
        refine ⟨_, rfl, _, rfl, _, _, _, _, rfl, rfl, SqL.of (s3 _ _ hln), e1, _, rfl, _, rfl, _, rfl, _, i, m, ll, ls, (by rw [Int.zero_add] <;> rfl), hll, by omega, by omega, fun u hu hus => ?_⟩
        refine CN.of hi ⟨rfl, cl ++ [u], vS_app _ _, by rw [List.length_append, hcl]; rfl, fun t ht => ?_, fun t ht => ?_⟩
        · rcases List.mem_append.mp ht with h | h
          · exact hcm t h
          · rw [List.mem_singleton.mp h]; exact hu
        · rcases List.mem_append.mp ht with h | h
          · exact hcs t h
          · rw [List.mem_singleton.mp h]; exact hus
      · rintro ys H4 q ⟨rfl, cl, rfl, hcl, hcm, hcs⟩ hq
        exact k q cl m n _ (u3.new hq) (u3.free hq) upd_same ⟨hcl, hcm, hcs, m1, by omega, n1, by omega⟩ m40 n40
def sp_scores (K : PySem.W.Frag) : Sp := fun vs H Q _ => ∃ (a : Addr) (cl : List (List Nat)) (m n : Nat), vs = [.ref a] ∧ SqL K H a (vS cl) ∧ Cl cl m n ∧ ∀ l H', Same H H' → H l = none → H' l = some (.lst (vI (scores cl m))) → Q (.ref l) H'
theorem ok_scores_of (T : Txt K mg t) : FnOk P w K mg base CX0 4 t.f_scores_of t.d_scores_of ["cloth"] (sp_scores K) := by
  have G_measured : FnOk P w K mg base CX0 3 t.f_measured t.d_measured _ _ := ok_measured T
  have G_end_signs : FnOk P w K mg base CX0 1 t.f_end_signs t.d_end_signs _ _ := ok_end_signs T
  refine T.scores_of.F.ok sc_scores_of (fun vs H Q E h => ?_) (fun cdv A outer s H vs Q E hr h => ?_)
  · obtain ⟨a, cl, m, n, rfl, _⟩ := h
    rfl
  · obtain ⟨a, cl, m, n, rfl, hS, C, k⟩ := h
    have c2 := C.n40
    have c4 := C.m40
    refine ⟨_, (pss_cons (ps_set (i := 1) sc_scores_of.nd rfl (Or.inl rfl) (pe_call (G_measured.mono (by decide)) hr rfl T.measured.m T.measured.F.kp T.measured.b .nil pass0 (pa_cons (pv 0) pa_nil)))
      (pss_cons (ps_setC (i := 2) (CompOk.mk (caps := [0]) (Nc := ["end", "cloth"]) rfl (by decide +kernel) (by decide +kernel) (comp_fr (sc0 := defScope s_scores_of) rfl (by decide +kernel)) rfl rfl rfl (by decide +kernel) (fun k j h => match k, h with | 0, h => by obtain rfl := Option.some.inj h; exact ⟨_, rfl, rfl, rfl⟩ | _ + 1, h => by simp at h)) rfl sc_scores_of.nd rfl rfl (pi_range1 rfl T.b_range (pa_cons (pe_ix (ix_tupK (K := K)) (pv 1) pe_int (fun _ _ => rfl)) pa_nil)) (fun _ _ _ _ _ => .nil) (fun _ _ _ _ _ => (pe_bmK (K := K) PySem.F.plainAttrs_str PySem.F.slot_str_count PySem.F.type_str_count mt_count (pe_call (G_end_signs.mono (by decide)) hr rfl T.end_signs.m T.end_signs.F.kp T.end_signs.b .nil pass0 (pa_cons (pv 1) (pa_cons (pv 0) pa_nil))) (pa_cons pe_str pa_nil))) rfl)
      (pss_one (ps_ret (pe_op op_cat (pv 2) (pe_comp (CompOk.mk (caps := []) (Nc := ["text"]) rfl (by decide +kernel) (by decide +kernel) (comp_fr (sc0 := defScope s_scores_of) rfl (by decide +kernel)) rfl rfl rfl (by decide +kernel) (fun _ _ h => by simp at h)) rfl (pi_listK (K := K) (pv 0)) (fun _ _ _ _ _ => .nil) (fun _ _ _ _ _ => (pe_bmK (K := K) PySem.F.plainAttrs_str PySem.F.slot_str_count PySem.F.type_str_count mt_count (pv 0) (pa_cons pe_str pa_nil))))))))), ?_⟩
    refine ⟨_, rfl, a, cl, m, n, rfl, hS, C, fun p hp => ?_⟩
    have s1 : Same H (upd H p (.tup [.int (m : Int), .int (n : Int)])) := .upd hp
    have gp : SqT K (upd H p (.tup [.int (m : Int), .int (n : Int)])) p [.int (m : Int), .int (n : Int)] := SqT.of upd_same
    refine ⟨_, rfl, _, _, _, _, rfl, rfl, gp, atI_of (by decide) rfl, _, rfl, (by omega), (by omega), ?_⟩
    rw [Int.toNat_natCast]
    refine comp_range (lo := 0) (n := m) (fun i ys H2 => Same H H2 ∧ ys = vI ((List.range i).map fun e => (((col cl e).count 35 : Nat) : Int))) ⟨s1, rfl⟩ ?_ ?_ ?_ ?_
    · rintro i ys H2 hi ⟨s2, rfl⟩
      rw [vI_len, List.length_map, List.length_range]
      exact Nat.le_refl _
    · exact small40 c4
    · rintro i ys H2 hi ⟨s2, rfl⟩
      refine CTurn.no ?_
      refine ⟨_, rfl, _, rfl, a, cl, m, n, i, (by rw [Int.zero_add] <;> rfl), s2.seq hS, C, hi, fun H3 s3 => ?_⟩
      refine ⟨rfl, col cl i, 35, rfl, (by rw [e35]), ?_⟩
      refine CN.of hi ⟨s2.trans s3, ?_⟩
      rw [vI_app, List.range_succ, List.map_append]
      rfl
    · rintro ys H2 q ⟨s2, rfl⟩ hq
      have s3 : Same H (upd H2 q (.lst (vI ((List.range m).map fun e => (((col cl e).count 35 : Nat) : Int))))) := s2.new hq
      refine ⟨_, rfl, _, rfl, _, rfl, ⟨_, s3.seq hS⟩, comp_list (K := K) (a := a) (xs := vS cl) (fun i ys H4 => H4 = upd H2 q (.lst (vI ((List.range m).map fun e => (((col cl e).count 35 : Nat) : Int)))) ∧ ys = vI ((cl.take i).map fun t => ((t.count 46 : Nat) : Int))) ⟨rfl, rfl⟩ ?_ ?_ ?_ ?_⟩
      · rintro i ys H4 hi ⟨rfl, rfl⟩
        refine ⟨s3.seq hS, ?_⟩
        rw [vI_len, List.length_map, List.length_take]
        omega
      · rw [vS_len, C.hn]; exact small40 c2
      · rintro i x ys H4 hi hx ⟨rfl, rfl⟩
        obtain ⟨t, ht, rfl⟩ := vS_got hx
        refine CTurn.no ?_
        refine ⟨_, rfl, rfl, t, 46, rfl, (by rw [e46]), ?_⟩
        refine CN.of hi ⟨rfl, ?_⟩
        rw [vI_app, List.take_add_one, ht, List.map_append]
        rfl
      · rintro ys H4 q2 ⟨rfl, rfl⟩ hq2
        rw [vS_len, List.take_length]
        have hq4 : (upd (upd H2 q (.lst (vI ((List.range m).map fun e => (((col cl e).count 35 : Nat) : Int))))) q2 (.lst (vI (cl.map fun t => ((t.count 46 : Nat) : Int))))) q = some (.lst (vI ((List.range m).map fun e => (((col cl e).count 35 : Nat) : Int)))) := (Same.upd hq2) _ _ upd_same
        refine ⟨_, _, _, _, rfl, rfl, hq4, upd_same, (by rw [vI_len, vI_len, List.length_map, List.length_map, List.length_range, C.hn, sizeLine_eq]; omega), fun l hl => ?_⟩
        have e : vI ((List.range m).map fun e => (((col cl e).count 35 : Nat) : Int)) ++ vI (cl.map fun t => ((t.count 46 : Nat) : Int)) = vI (scores cl m) := by
          unfold vI scores
          rw [List.map_append]
        rw [e]
        exact k l _ ((s3.new hq2).new hl) ((s3.new hq2).free hl) upd_same
end
end Mine
set_option Elab.async false
set_option linter.all false
set_option maxRecDepth 100000
set_option maxHeartbeats 4000000
namespace Mine
open PySem L2
section
variable {P : Program} {w : World} {K : PySem.W.Frag} {mg : Str → Option Value} {base : Heap} {t : Adr}
structure PL (H : Hp) (l : Addr) (ps : List Addr) (zs : List (Nat × Nat)) : Prop where
  h : H l = some (.lst (ps.map V.ref))
  len : ps.length = zs.length
  at_ : ∀ (i : Nat) (p : Addr) (z : Nat × Nat), ps[i]? = some p → zs[i]? = some z → H p = some (.tup [.int (z.1 : Int), .int (z.2 : Int)])
theorem PL.same {H H' : Hp} {l : Addr} {ps : List Addr} {zs : List (Nat × Nat)} (N : PL H l ps zs) (s : Same H H') : PL H' l ps zs := ⟨s _ _ N.h, N.len, fun i p z e1 e2 => s _ _ (N.at_ i p z e1 e2)⟩
theorem PL.app {H : Hp} {l tp : Addr} {ps : List Addr} {zs : List (Nat × Nat)} {z : Nat × Nat} (N : PL H l ps zs) (ht : H tp = some (.tup [.int (z.1 : Int), .int (z.2 : Int)])) :
    PL (upd H l (.lst (ps.map V.ref ++ [.ref tp]))) l (ps ++ [tp]) (zs ++ [z]) := by
  refine ⟨by rw [upd_same, List.map_append]; rfl, by rw [List.length_append, List.length_append, N.len]; rfl, fun i p y e1 e2 => ?_⟩
  have pl : H p = some (.tup [.int (y.1 : Int), .int (y.2 : Int)]) := by
    by_cases hi : i < ps.length
    · rw [List.getElem?_append_left hi] at e1
      rw [List.getElem?_append_left (by rw [← N.len]; exact hi)] at e2
      exact N.at_ i p y e1 e2
    · have hi2 := (List.getElem?_eq_some_iff.mp e1).1
      rw [List.length_append] at hi2
      have e : i = ps.length := by have : [tp].length = 1 := rfl; omega
      rw [e, List.getElem?_append_right (Nat.le_refl _), Nat.sub_self] at e1
      rw [e, N.len, List.getElem?_append_right (Nat.le_refl _), Nat.sub_self] at e2
      cases e1
      cases e2
      exact ht
  rw [upd_ne (fun e => by rw [e, N.h] at pl; cases pl)]
  exact pl
theorem PL.get {H : Hp} {l : Addr} {ps : List Addr} {zs : List (Nat × Nat)} (N : PL H l ps zs) {i : Nat} {z : Nat × Nat} (h : zs[i]? = some z) : ∃ p, (ps.map V.ref)[i]? = some (.ref p) ∧ H p = some (.tup [.int (z.1 : Int), .int (z.2 : Int)]) := by
  have hi : i < ps.length := by rw [N.len]; exact (List.getElem?_eq_some_iff.mp h).1
  exact ⟨ps[i], by rw [List.getElem?_map, List.getElem?_eq_getElem hi]; rfl, N.at_ i _ z (List.getElem?_eq_getElem hi) h⟩
theorem cutI_to {ks : List Int} {k : Nat} (h : k ≤ ks.length) : cutV (vI ks) none (some (k : Int)) = vI (ks.take k) := by
  unfold cutV
  rw [HT.sIx_none, HT.sIx_nat, List.drop_zero, vI_len, Nat.min_eq_left h, Nat.sub_zero]
  unfold vI
  rw [List.map_take]
theorem cutI_from {ks : List Int} {k : Nat} (h : k ≤ ks.length) : cutV (vI ks) (some (k : Int)) none = vI (ks.drop k) := by
  unfold cutV
  have e1 : HT.sIx (vI ks).length 0 (some (k : Int)) = k := by rw [HT.sIx_nat, vI_len, Nat.min_eq_left h]
  have e2 : HT.sIx (vI ks).length (vI ks).length none = (vI ks).length := rfl
  rw [e1, e2]
  unfold vI
  rw [← List.map_drop]
  exact List.take_of_length_le (by rw [List.length_map, List.length_map, List.length_drop]; omega)
def sp_tops (K : PySem.W.Frag) : Sp := fun vs H Q _ => ∃ (a : Addr) (cl : List (List Nat)) (m n : Nat), vs = [.ref a] ∧ SqL K H a (vS cl) ∧ Cl cl m n ∧
  ∀ l H' ps dA dB, Same H H' → H l = none → dA.Perm (eS cl m) → dB.Perm (pS cl) → dA.Pairwise (· ≥ ·) → dB.Pairwise (· ≥ ·) → PL H' l ps (allT (Pz m n dA dB) n (m + 1)) → Q (.ref l) H'
theorem ok_tops_of (T : Txt K mg t) : FnOk P w K mg base CX0 5 t.f_tops_of t.d_tops_of ["cloth"] (sp_tops K) := by
  have G_measured : FnOk P w K mg base CX0 3 t.f_measured t.d_measured _ _ := ok_measured T
  have G_scores_of : FnOk P w K mg base CX0 4 t.f_scores_of t.d_scores_of _ _ := ok_scores_of T
  refine T.tops_of.F.ok sc_tops_of (fun vs H Q E h => ?_) (fun cdv A outer s H vs Q E hr h => ?_)
  · obtain ⟨a, cl, m, n, rfl, _⟩ := h
    rfl
  · obtain ⟨a, cl, m, n, rfl, hS, C, k⟩ := h
    have c2 := C.n40
    have c4 := C.m40
    have hsz : sizeLine = 16777216 := sizeLine_eq
    refine ⟨_, (pss_cons (ps_set (i := 1) sc_tops_of.nd rfl (Or.inl rfl) (pe_call (G_measured.mono (by decide)) hr rfl T.measured.m T.measured.F.kp T.measured.b .nil pass0 (pa_cons (pv 0) pa_nil)))
      (pss_cons (ps_set (i := 2) sc_tops_of.nd rfl (Or.inl rfl) (pe_call (G_scores_of.mono (by decide)) hr rfl T.scores_of.m T.scores_of.F.kp T.scores_of.b .nil pass0 (pa_cons (pv 0) pa_nil)))
      (pss_cons (ps_set (i := 3) sc_tops_of.nd rfl (Or.inl rfl) (pe_sortR (K := K) rfl T.b_sorted (pe_slice (sl_listK (K := K)) (pv 2) po_none (po_some (pe_ix (ix_tupK (K := K)) (pv 1) pe_int (fun _ _ => rfl))))))
      (pss_cons (ps_set (i := 4) sc_tops_of.nd rfl (Or.inl rfl) (pe_sortR (K := K) rfl T.b_sorted (pe_slice (sl_listK (K := K)) (pv 2) (po_some (pe_ix (ix_tupK (K := K)) (pv 1) pe_int (fun _ _ => rfl))) po_none)))
      (pss_cons (ps_set (i := 5) sc_tops_of.nd rfl (Or.inl rfl) (pe_lst pa_nil))
      (pss_cons (ps_for PassesOwn.never rfl (pi_range1 rfl T.b_range (pa_cons (pe_op op_add (pe_ix (ix_tupK (K := K)) (pv 1) pe_int (fun _ _ => rfl)) pe_int) pa_nil)) (pg_name (i := 6) sc_tops_of.nd rfl (Or.inl rfl))
        (pss_one (ps_for PassesOwn.never rfl (pi_range1 rfl T.b_range (pa_cons (pe_op op_add (pe_ix (ix_tupK (K := K)) (pv 1) pe_int (fun _ _ => rfl)) pe_int) pa_nil)) (pg_name (i := 7) sc_tops_of.nd rfl (Or.inl rfl))
          (pss_cons (ps_set (i := 8) sc_tops_of.nd rfl (Or.inl rfl) (pe_op op_sub (pe_op op_add (pe_op op_mul (pv 6) (pe_ix (ix_tupK (K := K)) (pv 1) pe_int (fun _ _ => rfl))) (pe_op op_mul (pv 7) (pe_ix (ix_tupK (K := K)) (pv 1) pe_int (fun _ _ => rfl)))) (pe_op op_mul (pv 6) (pv 7))))
          (pss_one (ps_if (pt_cmpR op_eq (pe_op op_add (pe_callB (call_sumI (K := K)) rfl T.b_sum bt_sum (pa_cons (pe_slice (sl_listK (K := K)) (pv 3) po_none (po_some (pv 6))) pa_nil)) (pe_callB (call_sumI (K := K)) rfl T.b_sum bt_sum (pa_cons (pe_slice (sl_listK (K := K)) (pv 4) po_none (po_some (pv 7))) pa_nil))) (pv 8) (nomark _))
            (pss_one (ps_expr (pe_bmK (K := K) PySem.F.plainAttrs_list PySem.F.slot_list_append PySem.F.type_list_append mt_append (pv 5) (pa_cons (pe_tup (pa_cons (pv 6) (pa_cons (pv 7) pa_nil))) pa_nil))))
            pss_nil))))))
      (pss_one (ps_ret (pv 5))))))))), ?_⟩
    refine ⟨_, rfl, a, cl, m, n, rfl, hS, C, fun p hp => ?_⟩
    have s1 : Same H (upd H p (.tup [.int (m : Int), .int (n : Int)])) := .upd hp
    have gp1 : (upd H p (.tup [.int (m : Int), .int (n : Int)])) p = some (.tup [.int (m : Int), .int (n : Int)]) := upd_same
    refine ⟨_, rfl, a, cl, m, n, rfl, s1.seq hS, C, fun lf H2 s2 nlf hlf => ?_⟩
    have gp2 := s2 _ _ gp1
    have u2 := s1.trans s2
    have lsc : (scores cl m).length = m + n := by rw [scores_len, C.hn]
    refine ⟨_, rfl, _, rfl, _, _, _, _, rfl, rfl, SqT.of gp2, atI_of (by decide) rfl, _, rfl, _, _, rfl, SqL.of hlf, fun q1 hq1 => ?_⟩
    rw [cutI_to (by omega), scores_take]
    refine ⟨_, _, rfl, SqL.of upd_same, (by rw [eS_len]; omega), fun le dA pA decA hle => ?_⟩
    have u3 : Same H (upd (upd H2 q1 (.lst (vI (eS cl m)))) le (.lst (vI dA))) := (u2.new hq1).new hle
    have s3 : Same H2 (upd (upd H2 q1 (.lst (vI (eS cl m)))) le (.lst (vI dA))) := (Same.upd hq1).new hle
    have gle3 : (upd (upd H2 q1 (.lst (vI (eS cl m)))) le (.lst (vI dA))) le = some (.lst (vI dA)) := upd_same
    generalize hH3 : upd (upd H2 q1 (.lst (vI (eS cl m)))) le (.lst (vI dA)) = H3 at u3 s3 gle3 ⊢
    refine ⟨_, rfl, _, rfl, _, _, _, _, rfl, rfl, SqT.of (s3 _ _ gp2), atI_of (by decide) rfl, _, rfl, _, _, rfl, SqL.of (s3 _ _ hlf), fun q2 hq2 => ?_⟩
    rw [cutI_from (by omega), scores_drop]
    refine ⟨_, _, rfl, SqL.of upd_same, (by rw [pS_len, C.hn]; omega), fun lp dB pB decB hlp => ?_⟩
    have s4 : Same H3 (upd (upd H3 q2 (.lst (vI (pS cl)))) lp (.lst (vI dB))) := (Same.upd hq2).new hlp
    have glp4 : (upd (upd H3 q2 (.lst (vI (pS cl)))) lp (.lst (vI dB))) lp = some (.lst (vI dB)) := upd_same
    generalize hH4 : upd (upd H3 q2 (.lst (vI (pS cl)))) lp (.lst (vI dB)) = H4 at s4 glp4 ⊢
    have u4 := u3.trans s4
    have gp4 := s4 _ _ (s3 _ _ gp2)
    have gle4 := s4 _ _ gle3
    have dAl : dA.length = m := by rw [pA.length_eq, eS_len]
    have dBl : dB.length = n := by rw [pB.length_eq, pS_len, C.hn]
    refine ⟨Nat.zero_le _, fun lt hlt => ?_⟩
    have nlt := u4.free hlt
    have pl0 : PL (upd H4 lt (.lst [])) lt [] (allT (Pz m n dA dB) n 0) := ⟨upd_same, rfl, fun i p z e => by simp at e⟩
    refine ⟨_, rfl, _, _, _, _, rfl, rfl, SqT.of ((Same.upd hlt) _ _ gp4), atI_of (by decide) rfl, _, _, rfl, rfl, _, rfl, (by omega), (by omega), ?_⟩
    rw [show ((m : Int) + 1).toNat = m + 1 by omega]
    refine for_range (lo := 0) (n := m + 1) (fun i σ H5 => ∃ (ps : List Addr) (v6 v7 v8 : Option V), σ = [some (.ref a), some (.ref p), some (.ref lf), some (.ref le), some (.ref lp), some (.ref lt), v6, v7, v8] ∧ Same H4 H5 ∧ PL H5 lt ps (allT (Pz m n dA dB) n i))
      ⟨[], none, none, none, rfl, .upd hlt, pl0⟩ ?_ ?_
    · rintro i σ H5 hi ⟨ps, v6, v7, v8, rfl, s5, N5⟩
      refine ⟨_, rfl, _, _, _, _, rfl, rfl, SqT.of (s5 _ _ gp4), atI_of (by decide) rfl, _, _, rfl, rfl, _, rfl, (by omega), (by omega), ?_⟩
      rw [show ((n : Int) + 1).toNat = n + 1 by omega]
      refine for_range (lo := 0) (n := n + 1) (fun j σ H6 => ∃ (ps : List Addr) (v7 v8 : Option V), σ = [some (.ref a), some (.ref p), some (.ref lf), some (.ref le), some (.ref lp), some (.ref lt), some (.int (0 + (i : Int))), v7, v8] ∧ Same H4 H6 ∧ PL H6 lt ps (allT (Pz m n dA dB) n i ++ rowT (Pz m n dA dB) i j))
        ⟨ps, v7, v8, rfl, s5, by rw [show rowT (Pz m n dA dB) i 0 = [] from rfl, List.append_nil]; exact N5⟩ ?_ ?_
      · rintro j σ H6 hj ⟨ps6, w7, w8, rfl, s6, N6⟩
        have gp6 := s6 _ _ gp4
        refine ⟨_, rfl, _, rfl, _, _, _, _, rfl, rfl, SqT.of gp6, atI_of (by decide) rfl, _, _, rfl, rfl, .inl ⟨by omega, by omega⟩, _, rfl, _, rfl, _, _, _, _, rfl, rfl, SqT.of gp6, atI_of (by decide) rfl, _, _, rfl, rfl, .inl ⟨by omega, by omega⟩, _, _, rfl, rfl, _, rfl, _, rfl, _, _, rfl, rfl, .inl ⟨by omega, by omega⟩, _, _, rfl, rfl, ?_⟩
        refine ⟨_, rfl, _, rfl, _, rfl, _, _, rfl, SqL.of (s6 _ _ gle4), fun c1 hc1 => ?_⟩
        rw [show (0 : Int) + (i : Int) = (i : Int) by omega, cutI_to (by omega)]
        refine ⟨_, _, rfl, SqL.of upd_same, ?_⟩
        have s7 : Same H6 (upd H6 c1 (.lst (vI (dA.take i)))) := .upd hc1
        refine ⟨_, rfl, _, rfl, _, rfl, _, _, rfl, SqL.of (s7 _ _ (s6 _ _ glp4)), fun c2 hc2 => ?_⟩
        rw [show (0 : Int) + (j : Int) = (j : Int) by omega, cutI_to (by omega)]
        have s8 : Same H6 (upd (upd H6 c1 (.lst (vI (dA.take i)))) c2 (.lst (vI (dB.take j)))) := s7.new hc2
        refine ⟨_, _, rfl, SqL.of upd_same, _, _, rfl, rfl, _, rfl, rfl, _, rfl, ?_⟩
        have N8 := N6.same s8
        have u8 := s6.trans s8
        generalize hH8 : upd (upd H6 c1 (.lst (vI (dA.take i)))) c2 (.lst (vI (dB.take j))) = H8 at s8 N8 u8 ⊢
        have len8 : (ps6.map V.ref).length < sizeLine := by
          have q1 := allT_len (Pz m n dA dB) n i
          have q2 := rowT_len (Pz m n dA dB) i j
          have q3 : i * (n + 1) ≤ 41 * 41 := Nat.mul_le_mul (by omega) (by omega)
          have q4 := N6.len
          rw [List.length_append] at q4
          rw [List.length_map]
          omega
        refine ite2D (fun h => ?_) (fun h => ?_)
        · have hz : Pz m n dA dB i j = true := by unfold Pz; exact decide_eq_true (V.int.inj h)
          refine ⟨_, rfl, .inl ⟨rfl, _, SqL.of N8.h⟩, _, rfl, _, rfl, (by show 2 ≤ sizeLine; omega), fun tp htp => ?_⟩
          have s9 : Same H8 (upd H8 tp (.tup [.int (i : Int), .int (j : Int)])) := .upd htp
          refine ⟨_, _, _, rfl, rfl, s9 _ _ N8.h, len8, ?_⟩
          refine ⟨ps6 ++ [tp], _, _, rfl, (u8.trans s9).over hlt, ?_⟩
          rw [rowT_succ, if_pos hz, ← List.append_assoc]
          exact (N8.same s9).app (z := (i, j)) upd_same
        · have hz : ¬ Pz m n dA dB i j = true := fun z => h (congrArg V.int (of_decide_eq_true z))
          refine ⟨ps6, _, _, rfl, u8, ?_⟩
          rw [rowT_succ, if_neg hz, List.append_nil]
          exact N8
      · rintro σ H6 ⟨ps6, w7, w8, rfl, s6, N6⟩
        exact ⟨ps6, _, _, _, rfl, s6, by rw [allT_succ]; exact N6⟩
    · rintro σ H5 ⟨ps, v6, v7, v8, rfl, s5, N5⟩
      exact ⟨_, rfl, k lt H5 ps dA dB (u4.trans s5) nlt pA pB decA decB N5⟩
end
end Mine
set_option Elab.async false
set_option linter.all false
set_option maxRecDepth 100000
set_option maxHeartbeats 4000000
namespace Mine
open PySem L2
section
variable {P : Program} {w : World} {K : PySem.W.Frag} {mg : Str → Option Value} {base : Heap} {t : Adr}
structure NL (H : Hp) (y : Addr) (rs : List Addr) (tss : List (List Int)) : Prop where
  h : H y = some (.lst (rs.map V.ref))
  l : rs.length = tss.length
  r : ∀ (i : Nat) (a : Addr) (ks : List Int), rs[i]? = some a → tss[i]? = some ks → H a = some (.lst (vI ks))
theorem NL.same {H H' : Hp} {y : Addr} {rs : List Addr} {tss : List (List Int)} (N : NL H y rs tss) (s : Same H H') : NL H' y rs tss := ⟨s _ _ N.h, N.l, fun i a ks h1 h2 => s _ _ (N.r i a ks h1 h2)⟩
theorem NL.at {H : Hp} {y : Addr} {rs : List Addr} {tss : List (List Int)} (N : NL H y rs tss) {i : Nat} {a : V} (h : (rs.map V.ref)[i]? = some a) : ∃ r ks, a = .ref r ∧ rs[i]? = some r ∧ tss[i]? = some ks ∧ H r = some (.lst (vI ks)) := by
  rw [List.getElem?_map] at h
  cases e : rs[i]? with
  | none => rw [e] at h; cases h
  | some r =>
    rw [e] at h
    cases h
    have hi : i < tss.length := by rw [← N.l]; exact (List.getElem?_eq_some_iff.mp e).1
    exact ⟨r, tss[i], rfl, rfl, List.getElem?_eq_getElem hi, N.r i r _ e (List.getElem?_eq_getElem hi)⟩
theorem cut_vI {ks : List Int} {i j : Int} (h0 : 0 ≤ i) (h1 : i ≤ j) (h2 : j ≤ ks.length) : cutV (vI ks) (some i) (some j) = vI ((ks.drop i.toNat).take (j.toNat - i.toNat)) := by
  unfold cutV
  have e1 : HT.sIx (vI ks).length 0 (some i) = i.toNat := by
    show (if i < 0 then _ else _) = _
    rw [if_neg (by omega), vI_len]; omega
  have e2 : HT.sIx (vI ks).length (vI ks).length (some j) = j.toNat := by
    show (if j < 0 then _ else _) = _
    rw [if_neg (by omega), vI_len]; omega
  rw [e1, e2]
  unfold vI
  rw [← List.map_drop, ← List.map_take]
theorem cutR_from {ps : List Addr} {k : Nat} (h : k ≤ ps.length) : cutV (ps.map V.ref) (some (k : Int)) none = (ps.drop k).map V.ref := by
  unfold cutV
  have e1 : HT.sIx (ps.map V.ref).length 0 (some (k : Int)) = k := by rw [HT.sIx_nat, List.length_map, Nat.min_eq_left h]
  have e2 : HT.sIx (ps.map V.ref).length (ps.map V.ref).length none = (ps.map V.ref).length := rfl
  rw [e1, e2, ← List.map_drop]
  exact List.take_of_length_le (by rw [List.length_map, List.length_map, List.length_drop]; omega)
theorem rng_two {lo n : Nat} (h : lo + n ≤ 1000) : Builtin.Range.rangeSize (lo : Int) ((lo + n : Nat) : Int) 1 = (n : Int) ∧ Builtin.Range.small (lo : Int) ((lo + n : Nat) : Int) 1 = true := by
  have rs : Builtin.Range.rangeSize (lo : Int) ((lo + n : Nat) : Int) 1 = (n : Int) := by
    unfold Builtin.Range.rangeSize
    rw [if_pos (by decide)]
    by_cases h : (lo : Int) < ((lo + n : Nat) : Int)
    · rw [if_pos h, Int.ediv_one]
      omega
    · rw [if_neg h]
      omega
  refine ⟨rs, ?_⟩
  have fits : ∀ {z : Int}, -1000000 ≤ z → z ≤ 1000000 → Builtin.Range.rangeFitsLong z = true := fun {z} h1 h2 => by
    unfold Builtin.Range.rangeFitsLong
    simp only [Bool.and_eq_true, decide_eq_true_eq]
    omega
  unfold Builtin.Range.small
  rw [rs, fits (by omega) (by omega), fits (by omega) (by omega), fits (by omega) (by omega), fits (by omega) (by omega)]
  simp only [show (1 : Int) > 0 by decide, if_true, Bool.true_and, Bool.or_eq_true]
  exact .inr (fits (by omega) (by omega))
theorem rngL_cQ (lo n : Nat) : rngL (lo : Int) 1 n = (List.range n).map (cQ lo) := by
  unfold rngL cQ
  refine List.map_congr_left fun i _ => ?_
  omega
theorem key_e {cl : List (List Nat)} {m n : Nat} (C : Cl cl m n) {k : Nat} (h : k < m) : (scores cl m).getD (cQ 0 k).toNat 0 = ((aS (upC cl) n k : Nat) : Int) := by
  have e : (cQ 0 k).toNat = k := by unfold cQ; omega
  have hl := eS_len cl m
  rw [e, List.getD_eq_getElem?_getD]
  show ((eS cl m ++ pS cl)[k]?).getD 0 = _
  rw [List.getElem?_append_left (by omega), eS_up C, List.getElem?_map, List.getElem?_range h]
  rfl
theorem key_p {cl : List (List Nat)} {m n : Nat} (C : Cl cl m n) {k : Nat} (h : k < n) : (scores cl m).getD (cQ m k).toNat 0 = ((bS (upC cl) m k : Nat) : Int) := by
  have e : (cQ m k).toNat = m + k := by unfold cQ; omega
  have hl := eS_len cl m
  rw [e, List.getD_eq_getElem?_getD]
  show ((eS cl m ++ pS cl)[m + k]?).getD 0 = _
  rw [List.getElem?_append_right (by omega), pS_up C, hl, Nat.add_sub_cancel_left, List.getElem?_map, List.getElem?_range h]
  rfl
theorem ord_e {cl : List (List Nat)} {m n : Nat} (C : Cl cl m n) {n1 : List Int} (p1 : n1.Perm (rngL 0 1 m))
    (w1 : n1.Pairwise (fun x y => -((scores cl m).getD x.toNat 0) < -((scores cl m).getD y.toNat 0) ∨ (-((scores cl m).getD x.toNat 0) = -((scores cl m).getD y.toNat 0) ∧ x < y))) : ∃ eo, Ord (aS (upC cl) n) m eo ∧ n1 = eo.map (cQ 0) := by
  have p1' : n1.Perm ((List.range m).map (cQ 0)) := by rw [← rngL_cQ]; exact p1
  obtain ⟨eo, p, e⟩ := perm_map p1' _ rfl
  refine ⟨eo, ⟨p, ?_⟩, e⟩
  rw [e, List.pairwise_map] at w1
  refine w1.imp_of_mem fun {x y} hx hy h => ?_
  rw [key_e C (List.mem_range.mp (p.mem_iff.mp hx)), key_e C (List.mem_range.mp (p.mem_iff.mp hy))] at h
  unfold cQ at h
  omega
theorem ord_p {cl : List (List Nat)} {m n : Nat} (C : Cl cl m n) {n1 : List Int} (p1 : n1.Perm (rngL (m : Int) 1 n))
    (w1 : n1.Pairwise (fun x y => -((scores cl m).getD x.toNat 0) < -((scores cl m).getD y.toNat 0) ∨ (-((scores cl m).getD x.toNat 0) = -((scores cl m).getD y.toNat 0) ∧ x < y))) : ∃ po, Ord (bS (upC cl) m) n po ∧ n1 = po.map (cQ m) := by
  have p1' : n1.Perm ((List.range n).map (cQ m)) := by rw [← rngL_cQ]; exact p1
  obtain ⟨po, p, e⟩ := perm_map p1' _ rfl
  refine ⟨po, ⟨p, ?_⟩, e⟩
  rw [e, List.pairwise_map] at w1
  refine w1.imp_of_mem fun {x y} hx hy h => ?_
  rw [key_p C (List.mem_range.mp (p.mem_iff.mp hx)), key_p C (List.mem_range.mp (p.mem_iff.mp hy))] at h
  unfold cQ at h
  omega
theorem dec_map {key : Nat → Nat} {N : Nat} {l : List Nat} (o : Ord key N l) : (l.map fun e => ((key e : Nat) : Int)).Pairwise (· ≥ ·) := by
  rw [List.pairwise_map]
  exact o.ord.imp fun {x y} h => by omega
theorem lay_of {cl : List (List Nat)} {m n : Nat} (C : Cl cl m n) {dA dB : List Int} (pA : dA.Perm (eS cl m)) (pB : dB.Perm (pS cl)) (decA : dA.Pairwise (· ≥ ·)) (decB : dB.Pairwise (· ≥ ·)) {eo po : List Nat}
    (oE : Ord (aS (upC cl) n) m eo) (oP : Ord (bS (upC cl) m) n po) {tss : List (List Int)} (len : tss.length + 1 = (allT (Pz m n dA dB) n (m + 1)).length)
    (lay : ∀ (i : Nat) (a b : Nat × Nat) (t : List Int), (allT (Pz m n dA dB) n (m + 1))[i]? = some a → (allT (Pz m n dA dB) n (m + 1))[i + 1]? = some b → tss[i]? = some t →
      t.Perm (((eo.drop a.1).take (b.1 - a.1)).map (cQ 0) ++ ((po.drop a.2).take (b.2 - a.2)).map (cQ m)) ∧ t.Pairwise (· ≤ ·)) : Lay (upC cl) m n tss (allT (Pz m n dA dB) n (m + 1)) eo po := by
  have tp := Tps.of (sc_of C pA pB decA decB) C.m1
  have eA : dA = eo.map fun e => ((aS (upC cl) n e : Nat) : Int) := dec_uniq (pA.trans (by rw [eS_up C]; exact (oE.perm.map _).symm)) decA (dec_map oE)
  have eB : dB = po.map fun e => ((bS (upC cl) m e : Nat) : Int) := dec_uniq (pB.trans (by rw [pS_up C]; exact (oP.perm.map _).symm)) decB (dec_map oP)
  refine ⟨oE, oP, tp.fst, tp.lst, tp.in_, fun i a b ea eb => ?_, fun i a ea => ?_, len, lay⟩
  · obtain ⟨h1, h2, h3, _⟩ := tp.stp i a b ea eb
    exact ⟨h1, h2, h3⟩
  · have hm := (mem_allT.mp (List.mem_of_getElem? ea)).2.2
    unfold Pz at hm
    have hz := of_decide_eq_true hm
    rw [eA, eB, ← List.map_take, ← List.map_take, sum_map, sum_map] at hz
    have e1 : ((a.1 * n : Nat) : Int) = (a.1 : Int) * n := by rw [Int.natCast_mul]
    have e2 : ((a.2 * m : Nat) : Int) = (a.2 : Int) * m := by rw [Int.natCast_mul]
    have e3 : ((a.1 * a.2 : Nat) : Int) = (a.1 : Int) * a.2 := by rw [Int.natCast_mul]
    omega
theorem lam_q : (("layers_of" : Str) ++ ".<locals>.") ++ "<lambda>" = "layers_of.<locals>.<lambda>" := by decide +kernel
def sp_layers (K : PySem.W.Frag) (tT : Addr) : Sp := fun vs H Q _ => ∃ (a : Addr) (cl : List (List Nat)) (m n : Nat), vs = [.ref a] ∧ SqL K H a (vS cl) ∧ Cl cl m n ∧ m + n < 64 ∧ Tb tT "layers_of.<locals>.<lambda>" H ∧
  ∀ l H' rs tss dA dB eo po, SameT H H' → Tb tT "layers_of.<locals>.<lambda>" H' → dA.Perm (eS cl m) → dB.Perm (pS cl) → dA.Pairwise (· ≥ ·) → dB.Pairwise (· ≥ ·) → Lay (upC cl) m n tss (allT (Pz m n dA dB) n (m + 1)) eo po → NL H' l rs tss → Q (.ref l) H'
theorem ok_layers_of {tc tT : Addr} (T : Txt K mg t) (hcd : t.d_layers_of.code = .ref tc) (hCd : PySem.W.CodeHd base tc tT) (hBm : Bm mg base) : FnOk P w K mg base CX0 6 t.f_layers_of t.d_layers_of ["cloth"] (sp_layers K tT) := by
  have G_measured : FnOk P w K mg base CX0 3 t.f_measured t.d_measured _ _ := ok_measured T
  have G_scores_of : FnOk P w K mg base CX0 4 t.f_scores_of t.d_scores_of _ _ := ok_scores_of T
  have G_tops_of : FnOk P w K mg base CX0 5 t.f_tops_of t.d_tops_of _ _ := ok_tops_of T
  refine T.layers_of.F.okC hcd sc_layers_of (fun vs H Q E h => ?_) (fun A outer s H vs Q E hr h => ?_)
  · obtain ⟨a, cl, m, n, rfl, _⟩ := h
    rfl
  · obtain ⟨a, cl, m, n, rfl, hS, C, h64, tb, k⟩ := h
    have c2 := C.n40
    have c4 := C.m40
    have hsz : sizeLine = 16777216 := sizeLine_eq
    refine ⟨_, (pss_cons (ps_set (i := 1) sc_layers_of.nd rfl (Or.inl rfl) (pe_call (G_measured.mono (by decide)) hr rfl T.measured.m T.measured.F.kp T.measured.b .nil pass0 (pa_cons (pv 0) pa_nil)))
      (pss_cons (ps_set (i := 2) sc_layers_of.nd rfl (Or.inr rfl) (pe_call (G_scores_of.mono (by decide)) hr rfl T.scores_of.m T.scores_of.F.kp T.scores_of.b .nil pass0 (pa_cons (pv 0) pa_nil)))
      (pss_cons (ps_set (i := 3) sc_layers_of.nd rfl (Or.inl rfl) (pe_sortKey (K := K) (j := 2) (q := "layers_of.<locals>.<lambda>") rfl T.b_sorted (pe_callTy call_rng1 rfl T.b_range bt_range (pa_cons (pe_ix (ix_tupK (K := K)) (pv 1) pe_int (fun _ _ => rfl)) pa_nil)) hCd hBm (hr.mono (by decide)) rfl lam_q))
      (pss_cons (ps_set (i := 4) sc_layers_of.nd rfl (Or.inl rfl) (pe_sortKey (K := K) (j := 2) (q := "layers_of.<locals>.<lambda>") rfl T.b_sorted (pe_callTy call_rng2 rfl T.b_range bt_range (pa_cons (pe_ix (ix_tupK (K := K)) (pv 1) pe_int (fun _ _ => rfl)) (pa_cons (pe_callB (call_len_seqK (K := K)) rfl T.b_len bt_len (pa_cons (pv 2) pa_nil)) pa_nil))) hCd hBm (hr.mono (by decide)) rfl lam_q))
      (pss_cons (ps_set (i := 5) sc_layers_of.nd rfl (Or.inl rfl) (pe_call (G_tops_of.mono (by decide)) hr rfl T.tops_of.m T.tops_of.F.kp T.tops_of.b .nil pass0 (pa_cons (pv 0) pa_nil)))
      (pss_cons (ps_set (i := 6) sc_layers_of.nd rfl (Or.inl rfl) (pe_lst pa_nil))
      (pss_cons (ps_for PassesOwn.never rfl (pi_zip (K := K) rfl T.b_zip (pa_cons (pv 5) (pa_cons (pe_slice (sl_listK (K := K)) (pv 5) (po_some pe_int) po_none) pa_nil))) (pg_tup rfl (pgs_cons (pg_name (i := 7) sc_layers_of.nd rfl (Or.inl rfl)) (pgs_cons (pg_name (i := 8) sc_layers_of.nd rfl (Or.inl rfl)) pgs_nil)))
        (pss_one (ps_expr (pe_bmK (K := K) PySem.F.plainAttrs_list PySem.F.slot_list_append PySem.F.type_list_append mt_append (pv 6) (pa_cons (pe_callB (call_sortI (K := K)) rfl T.b_sorted bt_sorted (pa_cons (pe_op op_cat (pe_slice (sl_listK (K := K)) (pv 3) (po_some (pe_ix (ix_tupK (K := K)) (pv 7) pe_int (fun _ _ => rfl))) (po_some (pe_ix (ix_tupK (K := K)) (pv 8) pe_int (fun _ _ => rfl)))) (pe_slice (sl_listK (K := K)) (pv 4) (po_some (pe_ix (ix_tupK (K := K)) (pv 7) pe_int (fun _ _ => rfl))) (po_some (pe_ix (ix_tupK (K := K)) (pv 8) pe_int (fun _ _ => rfl))))) pa_nil)) pa_nil)))))
      (pss_one (ps_ret (pv 6)))))))))), ?_⟩
    refine ⟨_, rfl, a, cl, m, n, rfl, hS, C, fun p hp => ?_⟩
    have s1 : Same H (upd H p (.tup [.int (m : Int), .int (n : Int)])) := .upd hp
    have gp1 : (upd H p (.tup [.int (m : Int), .int (n : Int)])) p = some (.tup [.int (m : Int), .int (n : Int)]) := upd_same
    refine ⟨_, rfl, a, cl, m, n, rfl, s1.seq hS, C, fun lf H2 s2 nlf hlf => ?_⟩
    have gp2 := s2 _ _ gp1
    have u2 := s1.trans s2
    have tb2 := tb.same u2
    have lsc : (scores cl m).length = m + n := by rw [scores_len, C.hn]
    refine ⟨_, rfl, _, _, _, _, rfl, rfl, SqT.of gp2, atI_of (by decide) rfl, _, rfl, fun pr npr => ?_⟩
    have s3 : Same H2 (upd H2 pr (rngO pr 0 (m : Int) 1)) := .upd npr
    obtain ⟨r1, r2⟩ := rng_two (lo := 0) (n := m) (by omega)
    rw [Nat.zero_add] at r1 r2
    refine ⟨pr, 0, (m : Int), m, lf, scores cl m, rfl, upd_same, r2, r1, (by omega), rfl, SqL.of (s3 _ _ hlf), by decide, (by show 0 + m ≤ _; omega), tb2.same s3, fun l1 H3 n1 t3 tb3 nl1 hl1 p1 w1 => ?_⟩
    have v3 : SameT H2 H3 := s3.toT.trans t3
    have gp3 := v3.tup gp2
    have hlf3 := v3.lst hlf
    refine ⟨_, rfl, _, _, _, _, rfl, rfl, SqT.of gp3, atI_of (by decide) rfl, _, rfl, _, _, rfl, .inl (SqL.of hlf3), _, _, rfl, fun pr2 npr2 => ?_⟩
    rw [vI_len, lsc]
    have s4 : Same H3 (upd H3 pr2 (rngO pr2 (m : Int) ((m + n : Nat) : Int) 1)) := .upd npr2
    obtain ⟨q1, q2⟩ := rng_two (lo := m) (n := n) (by omega)
    refine ⟨pr2, (m : Int), ((m + n : Nat) : Int), n, lf, scores cl m, rfl, upd_same, q2, q1, (by omega), rfl, SqL.of (s4 _ _ hlf3), by omega, (by omega), tb3.same s4, fun l2 H4 n2 t4 tb4 nl2 hl2 p2 w2 => ?_⟩
    have v4 : SameT H3 H4 := s4.toT.trans t4
    have x4 : SameT H H4 := u2.toT.trans (v3.trans v4)
    have hl14 := v4.lst hl1
    obtain ⟨eo, oE, rfl⟩ := ord_e C p1 w1
    obtain ⟨po, oP, rfl⟩ := ord_p C p2 w2
    refine ⟨_, rfl, a, cl, m, n, rfl, x4.seq hS, C, fun lt H5 ps dA dB s5 nlt pA pB decA decB N => ?_⟩
    have tp := Tps.of (sc_of C pA pB decA decB) C.m1
    have x5 : SameT H H5 := x4.trans s5.toT
    have tb5 := tb4.same s5
    have hl15 := s5 _ _ hl14
    have hl25 := s5 _ _ hl2
    have zlen : (allT (Pz m n dA dB) n (m + 1)).length ≤ 41 * 41 := by
      have q1 := allT_len (Pz m n dA dB) n (m + 1)
      have q3 : (m + 1) * (n + 1) ≤ 41 * 41 := Nat.mul_le_mul (by omega) (by omega)
      omega
    have lay1 := fun (tss : List (List Int)) => lay_of (tss := tss) C pA pB decA decB oE oP
    generalize hzs : allT (Pz m n dA dB) n (m + 1) = zs at N tp zlen lay1
    refine ⟨Nat.zero_le _, fun ll nll => ?_⟩
    have s6 : Same H5 (upd H5 ll (.lst [])) := .upd nll
    have N6 := N.same s6
    refine ⟨_, rfl, _, rfl, _, rfl, _, _, rfl, SqL.of N6.h, fun lc nlc => ?_⟩
    have s7 := s6.new nlc (o := .lst (cutV (ps.map V.ref) (some 1) none))
    have ct : cutV (ps.map V.ref) (some 1) none = (ps.drop 1).map V.ref := by
      have := cutR_from (ps := ps) (k := 1) (by rw [N.len]; have := tp.two; omega)
      exact this
    rw [ct] at s7 ⊢
    have N7 := N.same s7
    have hlc7 : (upd (upd H5 ll (.lst [])) lc (.lst ((ps.drop 1).map V.ref))) lc = some (.lst ((ps.drop 1).map V.ref)) := upd_same
    have lne : ll ≠ lc := fun e => by rw [← e, upd_same] at nlc; cases nlc
    have hll7 : (upd (upd H5 ll (.lst [])) lc (.lst ((ps.drop 1).map V.ref))) ll = some (.lst []) := by rw [upd_ne lne]; exact upd_same
    generalize upd (upd H5 ll (.lst [])) lc (.lst ((ps.drop 1).map V.ref)) = H7 at s7 N7 hlc7 hll7 ⊢
    have plen : ps.length = zs.length := N.len
    refine ⟨_, _, rfl, ⟨_, SqL.of N7.h⟩, ⟨_, SqL.of hlc7⟩, for_zip (K := K) (n := zs.length - 1) (xs := ps.map V.ref) (ys := (ps.drop 1).map V.ref) (by rw [List.length_map, List.length_map, List.length_drop, plen]; omega)
      (fun i σ H8 => ∃ (rs : List Addr) (tss : List (List Int)) (v7 v8 : Option V), σ = [some (.ref a), some (.ref p), some (.ref lf), some (.ref l1), some (.ref l2), some (.ref lt), some (.ref ll), v7, v8] ∧ Same H5 H8 ∧ H8 lc = some (.lst ((ps.drop 1).map V.ref)) ∧ lc ≠ ll ∧ NL H8 ll rs tss ∧ rs.length = i ∧ (∀ r ∈ rs, r ≠ ll) ∧
        ∀ (j : Nat) (x y : Nat × Nat) (t : List Int), zs[j]? = some x → zs[j + 1]? = some y → tss[j]? = some t → t.Perm (((eo.drop x.1).take (y.1 - x.1)).map (cQ 0) ++ ((po.drop x.2).take (y.2 - x.2)).map (cQ m)) ∧ t.Pairwise (· ≤ ·))
      ⟨[], [], none, none, rfl, s7, hlc7, Ne.symm lne, ⟨hll7, rfl, fun i a ks e => by simp at e⟩, rfl, fun r hr => by simp at hr, fun j x y t _ _ e => by simp at e⟩ (fun i σ H8 ⟨_, _, _, _, _, s8, hlc8, _⟩ => ⟨SqL.of (s8 _ _ N.h), SqL.of hlc8⟩) ?_ ?_⟩
    · rintro i x y σ H8 T8 hx hy ⟨rs, tss, v7, v8, rfl, s8, hlc8, lcn, N8, rl, rne, ly⟩ nT
      have hi : i + 1 < zs.length := by
        have := (List.getElem?_eq_some_iff.mp hy).1
        rw [List.length_map, List.length_drop, plen] at this
        omega
      have ex := List.getElem?_eq_getElem (l := zs) (i := i) (by omega)
      have ey := List.getElem?_eq_getElem (l := zs) (i := i + 1) hi
      obtain ⟨px, hpx, hpx2⟩ := N.get ex
      obtain ⟨py, hpy, hpy2⟩ := N.get ey
      rw [hpx] at hx
      cases hx
      have hy' : (ps.map V.ref)[i + 1]? = some y := by
        rw [List.map_drop, List.getElem?_drop, Nat.add_comm 1 i] at hy
        exact hy
      rw [hpy] at hy'
      cases hy'
      obtain ⟨st1, st2, st3, _⟩ := tp.stp i _ _ ex ey
      obtain ⟨in1, in2⟩ := tp.in_ _ _ ey
      have s9 : Same H5 (upd H8 T8 (.tup [.ref px, .ref py])) := s8.new nT
      have hpx9 := s9 _ _ hpx2
      have hpy9 := s9 _ _ hpy2
      have N9 := N8.same (Same.upd nT (o := .tup [.ref px, .ref py]))
      have hlc9 := (Same.upd nT (o := .tup [.ref px, .ref py])) _ _ hlc8
      refine ⟨_, _, rfl, SqT.of upd_same, rfl, _, _, rfl, _, _, rfl, rfl, ?_⟩
      generalize upd H8 T8 (.tup [.ref px, .ref py]) = H9 at s9 hpx9 hpy9 N9 hlc9 ⊢
      have eol := oE.len
      have pol := oP.len
      generalize zs[i] = za at ex hpx9 st1 st2 st3 hpx2 ⊢
      generalize zs[i + 1] = zb at ey hpy9 st1 st2 st3 in1 in2 hpy2 ⊢
      refine ⟨_, rfl, .inl ⟨rfl, _, SqL.of N9.h⟩, _, rfl, _, rfl, _, _, _, _, rfl, rfl, SqT.of hpx9, atI_of (by decide) rfl, _, rfl, _, rfl, _, _, _, _, rfl, rfl, SqT.of hpy9, atI_of (by decide) rfl, _, rfl, _, _, rfl, SqL.of (s9 _ _ hl15), fun c1 nc1 => ?_⟩
      rw [cut_vI (by omega) (by omega) (by rw [List.length_map, eol]; omega)]
      rw [show ((za.1 : Nat) : Int).toNat = za.1 by omega, show ((zb.1 : Nat) : Int).toNat = zb.1 by omega, ← List.map_drop, ← List.map_take]
      have s10 : Same H9 (upd H9 c1 (.lst (vI (((eo.drop za.1).take (zb.1 - za.1)).map (cQ 0))))) := .upd nc1
      have g10 : (upd H9 c1 (.lst (vI (((eo.drop za.1).take (zb.1 - za.1)).map (cQ 0))))) c1 = some (.lst (vI (((eo.drop za.1).take (zb.1 - za.1)).map (cQ 0)))) := upd_same
      generalize upd H9 c1 (.lst (vI (((eo.drop za.1).take (zb.1 - za.1)).map (cQ 0)))) = H10 at s10 g10 ⊢
      refine ⟨_, rfl, _, rfl, _, _, _, _, rfl, rfl, SqT.of (s10 _ _ hpx9), atI_of (by decide) rfl, _, rfl, _, rfl, _, _, _, _, rfl, rfl, SqT.of (s10 _ _ hpy9), atI_of (by decide) rfl, _, rfl, _, _, rfl, SqL.of (s10 _ _ (s9 _ _ hl25)), fun c2 nc2 => ?_⟩
      rw [cut_vI (by omega) (by omega) (by rw [List.length_map, pol]; omega)]
      rw [show ((za.2 : Nat) : Int).toNat = za.2 by omega, show ((zb.2 : Nat) : Int).toNat = zb.2 by omega, ← List.map_drop, ← List.map_take]
      have s11 : Same H10 (upd H10 c2 (.lst (vI (((po.drop za.2).take (zb.2 - za.2)).map (cQ m))))) := .upd nc2
      have g11 : (upd H10 c2 (.lst (vI (((po.drop za.2).take (zb.2 - za.2)).map (cQ m))))) c2 = some (.lst (vI (((po.drop za.2).take (zb.2 - za.2)).map (cQ m)))) := upd_same
      generalize upd H10 c2 (.lst (vI (((po.drop za.2).take (zb.2 - za.2)).map (cQ m)))) = H11 at s11 g11 ⊢
      have len1 : (((eo.drop za.1).take (zb.1 - za.1)).map (cQ 0)).length = zb.1 - za.1 := by rw [List.length_map, List.length_take, List.length_drop]; omega
      have len2 : (((po.drop za.2).take (zb.2 - za.2)).map (cQ m)).length = zb.2 - za.2 := by rw [List.length_map, List.length_take, List.length_drop]; omega
      refine ⟨_, _, _, _, rfl, rfl, s11 _ _ g10, g11, (by rw [vI_len, vI_len, len1, len2]; omega), fun c3 nc3 => ?_⟩
      have eapp : vI (((eo.drop za.1).take (zb.1 - za.1)).map (cQ 0)) ++ vI (((po.drop za.2).take (zb.2 - za.2)).map (cQ m)) = vI (((eo.drop za.1).take (zb.1 - za.1)).map (cQ 0) ++ ((po.drop za.2).take (zb.2 - za.2)).map (cQ m)) := by unfold vI; rw [List.map_append]
      rw [eapp]
      have s12 := s11.new nc3 (o := .lst (vI (((eo.drop za.1).take (zb.1 - za.1)).map (cQ 0) ++ ((po.drop za.2).take (zb.2 - za.2)).map (cQ m))))
      refine ⟨_, _, rfl, SqL.of upd_same, (by rw [List.length_append, len1, len2]; omega), fun c4 ns' p4 w4 nc4 => ?_⟩
      have s13 : Same H9 _ := (s10.trans s12).new nc4 (o := .lst (vI ns'))
      have N13 := N9.same s13
      have g13 : (upd (upd H11 c3 (.lst (vI (((eo.drop za.1).take (zb.1 - za.1)).map (cQ 0) ++ ((po.drop za.2).take (zb.2 - za.2)).map (cQ m))))) c4 (.lst (vI ns'))) c4 = some (.lst (vI ns')) := upd_same
      have hlc13 := s13 _ _ hlc9
      have u13 := s9.trans s13
      have nc4' : c4 ≠ ll := fun e => by
        have z := (s10.trans s12) _ _ N9.h
        rw [← e, nc4] at z
        cases z
      generalize upd (upd H11 c3 (.lst (vI (((eo.drop za.1).take (zb.1 - za.1)).map (cQ 0) ++ ((po.drop za.2).take (zb.2 - za.2)).map (cQ m))))) c4 (.lst (vI ns')) = H13 at N13 g13 hlc13 u13 ⊢
      refine ⟨_, _, _, rfl, rfl, N13.h, (by rw [List.length_map, rl]; omega), ?_⟩
      have tl : tss.length = i := by rw [← N8.l, rl]
      refine ⟨rs ++ [c4], tss ++ [ns'], _, _, rfl, u13.over nll, by rw [upd_ne lcn]; exact hlc13, lcn, ⟨by rw [upd_same, List.map_append]; rfl, by rw [List.length_append, List.length_append, N8.l]; rfl, fun j r ks e1 e2 => ?_⟩, by rw [List.length_append, rl]; rfl, fun r hr => ?_, fun j x y t e1 e2 e3 => ?_⟩
      · by_cases hj : j < rs.length
        · rw [List.getElem?_append_left hj] at e1
          rw [List.getElem?_append_left (by rw [← N8.l]; exact hj)] at e2
          rw [upd_ne (rne r (List.mem_of_getElem? e1))]
          exact N13.r j r ks e1 e2
        · have hj2 := (List.getElem?_eq_some_iff.mp e1).1
          rw [List.length_append] at hj2
          have ej : j = rs.length := by have : [c4].length = 1 := rfl; omega
          rw [ej, List.getElem?_append_right (Nat.le_refl _), Nat.sub_self] at e1
          rw [ej, N8.l, List.getElem?_append_right (Nat.le_refl _), Nat.sub_self] at e2
          cases e1
          cases e2
          rw [upd_ne nc4']
          exact g13
      · rcases List.mem_append.mp hr with h | h
        · exact rne r h
        · rw [List.mem_singleton.mp h]; exact nc4'
      · by_cases hj : j < tss.length
        · rw [List.getElem?_append_left hj] at e3
          exact ly j x y t e1 e2 e3
        · have hj2 := (List.getElem?_eq_some_iff.mp e3).1
          rw [List.length_append] at hj2
          have ej : j = tss.length := by have : [ns'].length = 1 := rfl; omega
          rw [ej, List.getElem?_append_right (Nat.le_refl _), Nat.sub_self] at e3
          cases e3
          rw [ej, tl] at e1 e2
          rw [ex] at e1
          rw [ey] at e2
          cases e1
          cases e2
          exact ⟨p4, w4⟩
    · rintro σ H8 ⟨rs, tss, v7, v8, rfl, s8, _, _, N8, rl, rne, ly⟩
      have h2 := tp.two
      refine ⟨_, rfl, k ll H8 rs tss dA dB eo po (x5.trans s8.toT) (tb5.same s8) pA pB decA decB ?_ N8⟩
      rw [hzs]
      exact lay1 tss (by rw [← N8.l, rl]; omega) ly
end
end Mine
set_option Elab.async false
set_option linter.all false
set_option maxRecDepth 100000
set_option maxHeartbeats 4000000
namespace Mine
open PySem L2
section
variable {P : Program} {w : World} {K : PySem.W.Frag} {mg : Str → Option Value} {base : Heap} {t : Adr}
structure Pc (tss : List (List Int)) (N i j : Nat) (ks : List Int) : Prop where
  len : ks.length = N
  old : ∀ (i' : Nat) (z : Int) (h : i' < tss.length), i' < i → z ∈ tss[i'] → ks[z.toNat]? = some (i' : Int)
  now : ∀ (h : i < tss.length), ∀ z ∈ tss[i].take j, ks[z.toNat]? = some (i : Int)
theorem Pc.nil (tss : List (List Int)) (N : Nat) {ks : List Int} (h : ks.length = N) : Pc tss N 0 0 ks := ⟨h, fun i' z h h0 => absurd h0 (Nat.not_lt_zero _), fun h z hz => by simp at hz⟩
theorem Pc.step {up : Nat → Nat → Bool} {m n : Nat} {tss : List (List Int)} {zs : List (Nat × Nat)} {eo po : List Nat} (L : Lay up m n tss zs eo po) {i j : Nat} {ks : List Int} (c : Pc tss (m + n) i j ks) (hi : i < tss.length) (hj : j < tss[i].length) :
    Pc tss (m + n) i (j + 1) (ks.set tss[i][j].toNat (i : Int)) := by
  have mz := L.mem hi (List.getElem_mem hj)
  have hl : tss[i][j].toNat < ks.length := by rw [c.len]; omega
  refine ⟨by rw [List.length_set]; exact c.len, fun i' z h h0 hz => ?_, fun h z hz => ?_⟩
  · have m2 := L.mem h hz
    have ne : tss[i][j].toNat ≠ z.toNat := fun e => by
      have ez : z = tss[i][j] := by omega
      rw [ez] at hz
      have := one_of_nd L.nd h hi hz (List.getElem_mem hj)
      omega
    rw [List.getElem?_set_ne ne]
    exact c.old i' z h h0 hz
  · rw [List.take_succ_eq_append_getElem hj] at hz
    by_cases e : tss[i][j].toNat = z.toNat
    · rw [e] at hl ⊢
      rw [List.getElem?_set_self hl]
    · rw [List.getElem?_set_ne e]
      rcases List.mem_append.mp hz with h' | h'
      · exact c.now h z h'
      · rw [List.mem_singleton.mp h'] at e
        exact absurd rfl e
theorem Pc.next {tss : List (List Int)} {N i : Nat} {ks : List Int} (hi : i < tss.length) (c : Pc tss N i tss[i].length ks) : Pc tss N (i + 1) 0 ks := by
  refine ⟨c.len, fun i' z h h0 hz => ?_, fun h z hz => by simp at hz⟩
  by_cases e : i' = i
  · subst e
    exact c.now hi z (by rw [List.take_length]; exact hz)
  · exact c.old i' z h (by omega) hz
theorem sum_lens (tss : List (List Int)) : (tss.map fun t => ((t.length : Nat) : Int)).sum = ((tss.flatten.length : Nat) : Int) := by
  induction tss with
  | nil => rfl
  | cons t r ih => rw [List.map_cons, List.sum_cons, ih, List.flatten_cons, List.length_append]; omega
theorem Lay.lenAll {up : Nat → Nat → Bool} {m n : Nat} {tss : List (List Int)} {zs : List (Nat × Nat)} {eo po : List Nat} (L : Lay up m n tss zs eo po) : tss.flatten.length = m + n := by rw [L.all.length_eq, List.length_map, List.length_range]
theorem len_flat : ∀ (tss : List (List Int)), (∀ t ∈ tss, 0 < t.length) → tss.length ≤ tss.flatten.length
  | [], _ => Nat.le_refl _
  | t :: r, h => by
    have := h t List.mem_cons_self
    have := len_flat r fun x hx => h x (List.mem_cons_of_mem _ hx)
    rw [List.flatten_cons, List.length_append, List.length_cons]
    omega
theorem Lay.few {up : Nat → Nat → Bool} {m n : Nat} {tss : List (List Int)} {zs : List (Nat × Nat)} {eo po : List Nat} (L : Lay up m n tss zs eo po) : tss.length ≤ m + n := by
  rw [← L.lenAll]
  refine len_flat tss fun t ht => ?_
  obtain ⟨i, hi, e⟩ := List.getElem_of_mem ht
  rw [← e]
  exact L.ne hi
def sp_lnum (K : PySem.W.Frag) (tT : Addr) : Sp := fun vs H Q _ => ∃ (a : Addr) (cl : List (List Nat)) (m n : Nat), vs = [.ref a] ∧ SqL K H a (vS cl) ∧ Cl cl m n ∧ m + n < 64 ∧ Tb tT "layers_of.<locals>.<lambda>" H ∧
  ∀ l H' tss dA dB eo po ks, SameT H H' → Tb tT "layers_of.<locals>.<lambda>" H' → dA.Perm (eS cl m) → dB.Perm (pS cl) → dA.Pairwise (· ≥ ·) → dB.Pairwise (· ≥ ·) → Lay (upC cl) m n tss (allT (Pz m n dA dB) n (m + 1)) eo po → Pc tss (m + n) tss.length 0 ks → H' l = some (.lst (vI ks)) → Q (.ref l) H'
theorem ok_layer_numbers {tc tT : Addr} (T : Txt K mg t) (hcd : t.d_layers_of.code = .ref tc) (hCd : PySem.W.CodeHd base tc tT) (hBm : Bm mg base) : FnOk P w K mg base CX0 7 t.f_layer_numbers t.d_layer_numbers ["cloth"] (sp_lnum K tT) := by
  have G_layers_of : FnOk P w K mg base CX0 6 t.f_layers_of t.d_layers_of _ _ := ok_layers_of T hcd hCd hBm
  refine T.layer_numbers.F.ok sc_layer_numbers (fun vs H Q E h => ?_) (fun cdv A outer s H vs Q E hr h => ?_)
  · obtain ⟨a, cl, m, n, rfl, _⟩ := h
    rfl
  · obtain ⟨a, cl, m, n, rfl, hS, C, h64, tb, k⟩ := h
    have hsz : sizeLine = 16777216 := sizeLine_eq
    refine ⟨_, (pss_cons (ps_set (i := 1) sc_layer_numbers.nd rfl (Or.inl rfl) (pe_call (G_layers_of.mono (by decide)) hr rfl T.layers_of.m T.layers_of.F.kp T.layers_of.b .nil pass0 (pa_cons (pv 0) pa_nil)))
      (pss_cons (ps_set (i := 2) sc_layer_numbers.nd rfl (Or.inl rfl) (pe_op op_rep (pe_lst (pa_cons pe_int pa_nil)) (pe_callB (call_sumI (K := K)) rfl T.b_sum bt_sum (pa_cons (pe_comp (CompOk.mk (caps := []) (Nc := ["layer"]) rfl (by decide +kernel) (by decide +kernel) (comp_fr (sc0 := defScope s_layer_numbers) rfl (by decide +kernel)) rfl rfl rfl (by decide +kernel) (fun _ _ h => by simp at h)) rfl (pi_listK (K := K) (pv 1)) (fun _ _ _ _ _ => .nil) (fun _ _ _ _ _ => (pe_callB (call_len_seqK (K := K)) rfl T.b_len bt_len (pa_cons (pv 0) pa_nil)))) pa_nil))))
      (pss_cons (ps_for PassesOwn.never rfl (pi_enum (K := K) rfl T.b_enumerate (pa_cons (pv 1) pa_nil)) (pg_tup rfl (pgs_cons (pg_name (i := 3) sc_layer_numbers.nd rfl (Or.inl rfl)) (pgs_cons (pg_name (i := 4) sc_layer_numbers.nd rfl (Or.inl rfl)) pgs_nil)))
        (pss_one (ps_for PassesOwn.never rfl (pi_listK (K := K) (pv 4)) (pg_name (i := 5) sc_layer_numbers.nd rfl (Or.inl rfl))
          (pss_one (ps_asg (pv 3) (pg_sub (pv 2) (pv 5) set_list))))))
      (pss_one (ps_ret (pv 2)))))), ?_⟩
    refine ⟨_, rfl, a, cl, m, n, rfl, hS, C, h64, tb, fun ly H1 rs tss dA dB eo po t1 tb1 pA pB decA decB L N => ?_⟩
    have few := L.few
    refine ⟨(by show 1 ≤ sizeLine; decide), fun p hp => ?_⟩
    have s2 : Same H1 (upd H1 p (.lst [.int 0])) := .upd hp
    have gp2 : (upd H1 p (.lst [.int 0])) p = some (.lst [.int 0]) := upd_same
    have N2 := N.same s2
    generalize upd H1 p (.lst [.int 0]) = H2 at s2 gp2 N2 ⊢
    have rl : (rs.map V.ref).length = tss.length := by rw [List.length_map, N.l]
    refine ⟨_, rfl, _, rfl, ⟨_, SqL.of N2.h⟩, comp_list (K := K) (a := ly) (xs := rs.map V.ref) (fun j ys H3 => H3 = H2 ∧ ys = vI ((tss.take j).map fun t => ((t.length : Nat) : Int))) ⟨rfl, rfl⟩ ?_ ?_ ?_ ?_⟩
    · rintro j ys H3 hj ⟨rfl, rfl⟩
      refine ⟨SqL.of N2.h, ?_⟩
      rw [vI_len, List.length_map, List.length_take]
      omega
    · rw [rl]; omega
    · rintro j x ys H3 hj hx ⟨rfl, rfl⟩
      obtain ⟨r, ks, rfl, hr1, hr2, hr3⟩ := N2.at hx
      refine CTurn.no ?_
      refine ⟨_, rfl, _, _, rfl, .inl (SqL.of hr3), ?_⟩
      refine CN.of hj ⟨rfl, ?_⟩
      rw [List.take_add_one, hr2, vI_len]
      unfold vI
      rw [List.map_append, List.map_append]
      rfl
    · rintro ys H3 q ⟨rfl, rfl⟩ hq
      rw [rl, List.take_length]
      have s4 : Same H3 (upd H3 q (.lst (vI (tss.map fun t => ((t.length : Nat) : Int))))) := .upd hq
      refine ⟨_, _, rfl, SqL.of upd_same, ?_⟩
      rw [sum_lens, L.lenAll]
      refine ⟨_, _, _, rfl, rfl, s4 _ _ gp2, (by omega), (by omega), (by show 1 * (((m + n : Nat) : Int).toNat) ≤ sizeLine; omega), fun l nl => ?_⟩
      rw [Int.toNat_natCast, rep_vI]
      have u5 : Same H1 _ := (s2.trans s4).new nl (o := .lst (vI (List.replicate (m + n) 0)))
      have nl1 : H1 l = none := (s2.trans s4).free nl
      have g5 : (upd (upd H3 q (.lst (vI (tss.map fun t => ((t.length : Nat) : Int))))) l (.lst (vI (List.replicate (m + n) 0)))) l = some (.lst (vI (List.replicate (m + n) 0))) := upd_same
      generalize upd (upd H3 q (.lst (vI (tss.map fun t => ((t.length : Nat) : Int))))) l (.lst (vI (List.replicate (m + n) 0))) = H5 at u5 g5 ⊢
      refine ⟨_, rfl, _, rfl, ⟨_, SqL.of (u5 _ _ N.h)⟩, for_enum (K := K) (a := ly) (xs := rs.map V.ref) (fun i σ H6 => ∃ (ks : List Int) (v3 v4 v5 : Option V), σ = [some (.ref a), some (.ref ly), some (.ref l), v3, v4, v5] ∧ Same H1 H6 ∧ H6 l = some (.lst (vI ks)) ∧ Pc tss (m + n) i 0 ks)
        ⟨_, none, none, none, rfl, u5, g5, Pc.nil tss (m + n) (by rw [List.length_replicate])⟩ (fun i σ H6 ⟨_, _, _, _, _, s6, _⟩ => SqL.of (s6 _ _ N.h)) ?_ ?_⟩
      · rintro i x σ H6 T6 hx ⟨ks, v3, v4, v5, rfl, s6, g6, pc⟩ nT
        have N6 := N.same s6
        obtain ⟨r, ts, rfl, hr1, hr2, hr3⟩ := N6.at hx
        have hi : i < tss.length := (List.getElem?_eq_some_iff.mp hr2).1
        have e2 : ts = tss[i] := Option.some.inj (hr2.symm.trans (List.getElem?_eq_getElem hi))
        subst e2
        have hrl : r ≠ l := fun e => by
          have z := N.r i r _ hr1 hr2
          rw [e, nl1] at z
          cases z
        have s7 : Same H1 (upd H6 T6 (.tup [.int (i : Int), .ref r])) := s6.new nT
        have g7 := (Same.upd nT (o := .tup [.int (i : Int), .ref r])) _ _ g6
        have hr7 := (Same.upd nT (o := .tup [.int (i : Int), .ref r])) _ _ hr3
        refine ⟨_, _, rfl, SqT.of upd_same, rfl, _, _, rfl, _, _, rfl, rfl, ?_⟩
        generalize upd H6 T6 (.tup [.int (i : Int), .ref r]) = H7 at s7 g7 hr7 ⊢
        refine ⟨_, rfl, _, rfl, ⟨_, SqL.of hr7⟩, for_list (K := K) (a := r) (xs := vI tss[i]) (fun j σ H8 => ∃ (ks : List Int) (v5 : Option V), σ = [some (.ref a), some (.ref ly), some (.ref l), some (.int (i : Int)), some (.ref r), v5] ∧ Same H1 H8 ∧ H8 l = some (.lst (vI ks)) ∧ H8 r = some (.lst (vI tss[i])) ∧ Pc tss (m + n) i j ks)
          ⟨ks, _, rfl, s7, g7, hr7, pc⟩ (fun j σ H8 _ ⟨_, _, _, _, _, h, _⟩ => SqL.of h) ?_ ?_⟩
        · rintro j x σ H8 hx ⟨ks8, v5', rfl, s8, g8, hr8, pc8⟩
          obtain ⟨z, hz, rfl⟩ := vI_got hx
          have hj : j < tss[i].length := (List.getElem?_eq_some_iff.mp hz).1
          have ez : z = tss[i][j] := Option.some.inj (hz.symm.trans (List.getElem?_eq_getElem hj))
          have mz := L.mem hi (List.getElem_mem hj)
          rw [← ez] at mz
          refine ⟨_, rfl, _, rfl, _, rfl, _, _, _, _, rfl, rfl, g8, ixN_of mz.1 (by rw [vI_len, pc8.len]; omega), ?_⟩
          rw [vI_set]
          refine ⟨_, _, rfl, s8.over nl1, upd_same, by rw [upd_ne hrl]; exact hr8, ?_⟩
          rw [ez]
          exact pc8.step L hi hj
        · rintro σ H8 ⟨ks8, v5', rfl, s8, g8, hr8, pc8⟩
          rw [vI_len] at pc8
          exact ⟨_, _, _, _, rfl, s8, g8, pc8.next hi⟩
      · rintro σ H6 ⟨ks, v3, v4, v5, rfl, s6, g6, pc⟩
        rw [rl] at pc
        exact ⟨_, rfl, k l H6 tss dA dB eo po ks (t1.trans s6.toT) (tb1.same s6) pA pB decA decB L pc g6⟩
end
end Mine
set_option linter.all false
namespace Mine
open L2
def sgn2 (cl : List (List Nat)) (p e : Nat) : Nat := (cl.getD p []).getD e 0
def due (cl : List (List Nat)) (m n : Nat) (i j : Int) : Option Bool :=
  if (0 ≤ i ∧ i < (m : Int) + (n : Int)) ∧ (0 ≤ j ∧ j < (m : Int) + (n : Int)) then
    if i < m then (if j < m then none else some (decide (sgn2 cl (j - m).toNat i.toNat = 35)))
    else (if j < m then some (decide (sgn2 cl (i - m).toNat j.toNat = 46)) else none)
  else none
theorem due_out {cl : List (List Nat)} {m n : Nat} {i j : Int} (h : ¬ ((0 ≤ i ∧ i < (m : Int) + (n : Int)) ∧ (0 ≤ j ∧ j < (m : Int) + (n : Int)))) : due cl m n i j = none := if_neg h
theorem due_same {cl : List (List Nat)} {m n : Nat} {i j : Int} (h : (i < m) ↔ (j < m)) : due cl m n i j = none := by
  unfold due
  split
  · by_cases c : i < m
    · rw [if_pos c, if_pos (h.mp c)]
    · rw [if_neg c, if_neg fun z => c (h.mpr z)]
  · rfl
theorem due_end {cl : List (List Nat)} {m n : Nat} {i j : Int} (hi : 0 ≤ i ∧ i < (m : Int) + (n : Int)) (hj : 0 ≤ j ∧ j < (m : Int) + (n : Int)) (h1 : i < m) (h2 : ¬ j < m) : due cl m n i j = some (decide (sgn2 cl (j - m).toNat i.toNat = 35)) := by
  unfold due
  rw [if_pos ⟨hi, hj⟩, if_pos h1, if_neg h2]
theorem due_pick {cl : List (List Nat)} {m n : Nat} {i j : Int} (hi : 0 ≤ i ∧ i < (m : Int) + (n : Int)) (hj : 0 ≤ j ∧ j < (m : Int) + (n : Int)) (h1 : ¬ i < m) (h2 : j < m) : due cl m n i j = some (decide (sgn2 cl (i - m).toNat j.toNat = 46)) := by
  unfold due
  rw [if_pos ⟨hi, hj⟩, if_neg h1, if_pos h2]
end Mine
set_option Elab.async false
set_option linter.all false
set_option maxRecDepth 100000
set_option maxHeartbeats 4000000
namespace Mine
open PySem L2
section
variable {P : Program} {w : World} {K : PySem.W.Frag} {mg : Str → Option Value} {base : Heap} {t : Adr}
def Bad (a b : Int) : Prop := ¬ (0 ≤ a ∧ a < b)
def sp_check (t : Adr) : Sp := fun vs H Q E => ∃ (a b : Int), vs = [.int a, .int b] ∧ ((0 ≤ a ∧ a < b) → Q .non H) ∧ (Bad a b → E (.ref t.e_NoStrand) none H)
theorem ok_check_strand (T : Txt K mg t) : FnOk P w K mg base (CX1 P w) 1 t.f_check_strand t.d_check_strand ["number", "count"] (sp_check t) := by
  refine T.check_strand.F.okX sc_check_strand (fun vs H Q E h => ?_) (fun cdv A outer s H vs Q E hr h => ?_)
  · obtain ⟨a, b, rfl, _⟩ := h
    rfl
  · obtain ⟨a, b, rfl, k1, k2⟩ := h
    refine ⟨_, (pss_one (ps_if (PW.pt (pw_or (pt_cmpR op_lt (pv 0) pe_int (nomark _)) (pw_or1 (pt_cmpR op_ge (pv 0) (pv 1) (nomark _)))))
        (pss_one (ps_raise body1 rfl (fun _ _ z => z) PySem.F.excBase_ValueError has_ve PySem.F.excBase_ValueError T.x_NoStrand.q rfl T.k_NoStrand (pa_cons pe_str pa_nil)))
        pss_nil)), ?_⟩
    refine ⟨_, rfl, _, _, rfl, rfl, _, rfl, ?_⟩
    refine ite2D (fun h => ?_) (fun h => ?_)
    · exact iteT ⟨by decide, k2 (by unfold Bad; omega)⟩
    · refine ⟨_, rfl, _, rfl, _, _, rfl, rfl, _, rfl, ?_⟩
      refine ite2D (fun h2 => ?_) (fun h2 => ?_)
      · exact ⟨by decide, k2 (by unfold Bad; omega)⟩
      · exact k1 (by omega)
theorem dec35 (c : Nat) : decide ((V.str ⟨#[c]⟩ : V) = V.str "#") = decide (c = 35) := decide_eq_decide.mpr ⟨fun h => sg_eq.mp (h.trans e35.symm), fun h => by rw [h]; exact e35⟩
theorem dec46 (c : Nat) : decide ((V.str ⟨#[c]⟩ : V) = V.str ".") = decide (c = 46) := decide_eq_decide.mpr ⟨fun h => sg_eq.mp (h.trans e46.symm), fun h => by rw [h]; exact e46⟩
theorem sgn2_at {cl : List (List Nat)} {m n : Nat} (C : Cl cl m n) {y x : Int} (hy : 0 ≤ y ∧ y < n) (hx : 0 ≤ x ∧ x < m) : ∃ (r : List Nat), atI (vS cl) y = some (.str (tx r)) ∧ r.length = m ∧ atI (tx r).cps.toList x = some (sgn2 cl y.toNat x.toNat) := by
  have hyl : y.toNat < cl.length := by rw [C.hn]; omega
  have hm := C.hm _ (List.getElem_mem hyl)
  have hxl : x.toNat < cl[y.toNat].length := by rw [hm]; omega
  refine ⟨cl[y.toNat], atI_of hy.1 (vS_get (List.getElem?_eq_getElem hyl)), hm, atI_of hx.1 ?_⟩
  rw [tx_list, List.getElem?_eq_getElem hxl]
  unfold sgn2
  simp [List.getD, hyl, hxl]
def sp_over (K : PySem.W.Frag) (t : Adr) : Sp := fun vs H Q E => ∃ (a : Addr) (cl : List (List Nat)) (m n : Nat) (i j : Int), vs = [.ref a, .int i, .int j] ∧ SqL K H a (vS cl) ∧ Cl cl m n ∧
  (∀ b, due cl m n i j = some b → ∀ H', Same H H' → Q (.bl b) H') ∧ (due cl m n i j = none → ∀ H', Same H H' → E (.ref t.e_NoStrand) none H')
theorem ok_strand_over (T : Txt K mg t) : FnOk P w K mg base (CX1 P w) 4 t.f_strand_over t.d_strand_over ["cloth", "one", "other"] (sp_over K t) := by
  have G_measured : FnOk P w K mg base CX0 3 t.f_measured t.d_measured _ _ := ok_measured T
  have G_check_strand : FnOk P w K mg base (CX1 P w) 1 t.f_check_strand t.d_check_strand _ _ := ok_check_strand T
  refine T.strand_over.F.okX sc_strand_over (fun vs H Q E h => ?_) (fun cdv A outer s H vs Q E hr h => ?_)
  · obtain ⟨a, cl, m, n, i, j, rfl, _⟩ := h
    rfl
  · obtain ⟨a, cl, m, n, i, j, rfl, hS, C, k1, k2⟩ := h
    have c4 := C.m40
    refine ⟨_, (pss_cons (ps_set (i := 3) sc_strand_over.nd rfl (Or.inl rfl) (pe_call (G_measured.mono (by decide)) hr rfl T.measured.m T.measured.F.kp T.measured.b .nil pass0 (pa_cons (pv 0) pa_nil)))
      (pss_cons (ps_expr (pe_call (G_check_strand.mono (by decide)) hr rfl T.check_strand.m T.check_strand.F.kp T.check_strand.b .nil pass1 (pa_cons (pv 1) (pa_cons (pe_op op_add (pe_ix (ix_tupK (K := K)) (pv 3) pe_int (fun _ _ => rfl)) (pe_ix (ix_tupK (K := K)) (pv 3) pe_int (fun _ _ => rfl))) pa_nil))))
      (pss_cons (ps_expr (pe_call (G_check_strand.mono (by decide)) hr rfl T.check_strand.m T.check_strand.F.kp T.check_strand.b .nil pass1 (pa_cons (pv 2) (pa_cons (pe_op op_add (pe_ix (ix_tupK (K := K)) (pv 3) pe_int (fun _ _ => rfl)) (pe_ix (ix_tupK (K := K)) (pv 3) pe_int (fun _ _ => rfl))) pa_nil))))
      (pss_cons (ps_if (pt_cmpR op_eq (pe_cmpR op_lt (pv 1) (pe_ix (ix_tupK (K := K)) (pv 3) pe_int (fun _ _ => rfl)) (nomark _)) (pe_cmpR op_lt (pv 2) (pe_ix (ix_tupK (K := K)) (pv 3) pe_int (fun _ _ => rfl)) (nomark _)) (nomark _))
        (pss_one (ps_raise body1 rfl (fun _ _ z => z) PySem.F.excBase_ValueError has_ve PySem.F.excBase_ValueError T.x_NoStrand.q rfl T.k_NoStrand (pa_cons pe_str pa_nil)))
        pss_nil)
      (pss_cons (ps_if (pt_cmpR op_lt (pv 1) (pe_ix (ix_tupK (K := K)) (pv 3) pe_int (fun _ _ => rfl)) (nomark _))
        (pss_one (ps_ret (pe_cmpR op_eq (pe_ix ix_str (pe_ix (ix_listK (K := K)) (pv 0) (pe_op op_sub (pv 2) (pe_ix (ix_tupK (K := K)) (pv 3) pe_int (fun _ _ => rfl))) (fun _ _ => rfl)) (pv 1) (fun _ _ => rfl)) pe_str (nomark _))))
        pss_nil)
      (pss_one (ps_ret (pe_cmpR op_eq (pe_ix ix_str (pe_ix (ix_listK (K := K)) (pv 0) (pe_op op_sub (pv 1) (pe_ix (ix_tupK (K := K)) (pv 3) pe_int (fun _ _ => rfl))) (fun _ _ => rfl)) (pv 2) (fun _ _ => rfl)) pe_str (nomark _))))))))), ?_⟩
    refine ⟨_, rfl, a, cl, m, n, rfl, hS, C, fun p hp => ?_⟩
    have s1 : Same H (upd H p (.tup [.int (m : Int), .int (n : Int)])) := .upd hp
    have gp : SqT K (upd H p (.tup [.int (m : Int), .int (n : Int)])) p [.int (m : Int), .int (n : Int)] := SqT.of upd_same
    refine ⟨_, rfl, _, rfl, _, _, _, _, rfl, rfl, gp, atI_of (by decide) rfl, _, rfl, _, _, _, _, rfl, rfl, gp, atI_of (by decide) rfl, _, _, rfl, rfl, i, (m : Int) + (n : Int), rfl, fun hi => ?_, fun hb => k2 (due_out fun z => hb z.1) _ s1⟩
    refine ⟨_, rfl, _, rfl, _, _, _, _, rfl, rfl, gp, atI_of (by decide) rfl, _, rfl, _, _, _, _, rfl, rfl, gp, atI_of (by decide) rfl, _, _, rfl, rfl, j, (m : Int) + (n : Int), rfl, fun hj => ?_, fun hb => k2 (due_out fun z => hb z.2) _ s1⟩
    refine ⟨_, rfl, _, rfl, _, _, _, _, rfl, rfl, gp, atI_of (by decide) rfl, _, _, rfl, rfl, _, rfl, _, rfl, _, _, _, _, rfl, rfl, gp, atI_of (by decide) rfl, _, _, rfl, rfl, rfl, _, rfl, ?_⟩
    refine ite2D (fun h => ?_) (fun h => ?_)
    · exact ⟨by decide, k2 (due_same (decide_eq_decide.mp (V.bl.inj h))) _ s1⟩
    · have hne : ¬ ((i < (m : Int)) ↔ (j < (m : Int))) := fun z => h (congrArg V.bl (decide_eq_decide.mpr z))
      refine ⟨_, rfl, _, rfl, _, _, _, _, rfl, rfl, gp, atI_of (by decide) rfl, _, _, rfl, rfl, _, rfl, ?_⟩
      refine ite2D (fun h1 => ?_) (fun h1 => ?_)
      · have h2 : ¬ j < (m : Int) := fun z => hne ⟨fun _ => z, fun _ => h1⟩
        obtain ⟨r, e1, hr1, e2⟩ := sgn2_at C (y := j - (m : Int)) (x := i) (by omega) (by omega)
        refine ⟨_, rfl, _, rfl, _, rfl, _, _, _, _, rfl, rfl, gp, atI_of (by decide) rfl, _, _, rfl, rfl, _, _, _, _, rfl, rfl, s1.seq hS, e1, _, rfl, _, _, _, rfl, rfl, (by rw [tx_len, hr1]; exact small40 c4), e2, rfl, ?_⟩
        rw [dec35]
        exact k1 _ (due_end hi hj h1 h2) _ s1
      · have h2 : j < (m : Int) := Classical.byContradiction fun z => hne ⟨fun q => absurd q h1, fun q => absurd q z⟩
        obtain ⟨r, e1, hr1, e2⟩ := sgn2_at C (y := i - (m : Int)) (x := j) (by omega) (by omega)
        refine ⟨_, rfl, _, rfl, _, rfl, _, _, _, _, rfl, rfl, gp, atI_of (by decide) rfl, _, _, rfl, rfl, _, _, _, _, rfl, rfl, s1.seq hS, e1, _, rfl, _, _, _, rfl, rfl, (by rw [tx_len, hr1]; exact small40 c4), e2, rfl, ?_⟩
        rw [dec46]
        exact k1 _ (due_pick hi hj h1 h2) _ s1
def sp_cset (K : PySem.W.Frag) (t : Adr) : Sp := fun vs H Q E => ∃ (b : Addr) (ks : List Int) (N : Int), vs = [.ref b, .int N] ∧ SqL K H b (vI ks) ∧ ks.length ≤ 1000 ∧ (GoodSet N ks → Q .non H) ∧ (¬ GoodSet N ks → E (.ref t.e_NoStrand) none H)
theorem up_take {N : Int} {ks : List Int} {i : Nat} (hi : i < ks.length) (h : Up N (ks.take i)) (h0 : 0 ≤ ks[i] ∧ ks[i] < N) (hl : ∀ j, j + 1 = i → ∀ a, ks[j]? = some a → a < ks[i]) : Up N (ks.take (i + 1)) := by
  have e : ks.take (i + 1) = ks.take i ++ [ks[i]] := by rw [List.take_add_one, List.getElem?_eq_getElem hi]; rfl
  rw [e]
  refine up_add h (fun k hk => ?_) h0.1 h0.2
  obtain ⟨j, hj, ej⟩ := List.getElem_of_mem hk
  rw [List.length_take] at hj
  have hji : j < i := by omega
  have hlast : i - 1 < ks.length := by omega
  have el : ks[i - 1]? = some ks[i - 1] := List.getElem?_eq_getElem hlast
  have a1 := hl (i - 1) (by omega) _ el
  have ek : (ks.take i)[j]? = some k := by rw [List.getElem?_eq_getElem (by rw [List.length_take]; omega), ej]
  have ek2 : (ks.take i)[j + (i - 1 - j)]? = some ks[i - 1] := by rw [show j + (i - 1 - j) = i - 1 by omega, List.getElem?_take_of_lt (by omega)]; exact el
  have a2 := up_dist h (i - 1 - j) j _ _ ek ek2
  omega
theorem ok_check_set (T : Txt K mg t) : FnOk P w K mg base (CX1 P w) 2 t.f_check_set t.d_check_set ["strands", "count"] (sp_cset K t) := by
  have G_check_strand : FnOk P w K mg base (CX1 P w) 1 t.f_check_strand t.d_check_strand _ _ := ok_check_strand T
  refine T.check_set.F.okX sc_check_set (fun vs H Q E h => ?_) (fun cdv A outer s H vs Q E hr h => ?_)
  · obtain ⟨b, ks, N, rfl, _⟩ := h
    rfl
  · obtain ⟨b, ks, N, rfl, hS, hl, k1, k2⟩ := h
    refine ⟨_, (pss_cons (ps_if (pt_not (pt_truthK (K := K) (pv 0) (fun _ => rfl)))
        (pss_one (ps_raise body1 rfl (fun _ _ z => z) PySem.F.excBase_ValueError has_ve PySem.F.excBase_ValueError T.x_NoStrand.q rfl T.k_NoStrand (pa_cons pe_str pa_nil)))
        pss_nil)
      (pss_one (ps_fr fun hfr => (ps_for (ownX body1 hfr) rfl (pi_range1 rfl T.b_range (pa_cons (pe_callB (call_len_seqK (K := K)) rfl T.b_len bt_len (pa_cons (pv 0) pa_nil)) pa_nil)) (pg_name (i := 2) sc_check_set.nd rfl (Or.inl rfl))
        (pss_cons (ps_expr (pe_call (G_check_strand.mono (by decide)) hr rfl T.check_strand.m T.check_strand.F.kp T.check_strand.b .nil pass1 (pa_cons (pe_ix (ix_listK (K := K)) (pv 0) (pv 2) (fun _ _ => rfl)) (pa_cons (pv 1) pa_nil))))
        (pss_one (ps_if (PW.pt (pw_and (pt_cmpR op_gt (pv 2) pe_int (nomark _)) (pw_and1 (pt_cmpR op_le (pe_ix (ix_listK (K := K)) (pv 0) (pv 2) (fun _ _ => rfl)) (pe_ix (ix_listK (K := K)) (pv 0) (pe_op op_sub (pv 2) pe_int) (fun _ _ => rfl)) (nomark _)))))
          (pss_one (ps_raise body1 rfl (fun _ _ z => z) PySem.F.excBase_ValueError has_ve PySem.F.excBase_ValueError T.x_NoStrand.q rfl T.k_NoStrand (pa_cons pe_str pa_nil)))
          pss_nil))))))), ?_⟩
    refine ⟨_, rfl, _, .inl ⟨_, hS, rfl⟩, ?_⟩
    by_cases hne : ks = []
    · subst hne
      exact iteT ⟨by decide, k2 fun z => z.1 rfl⟩
    · have e1 : (vI ks).isEmpty = false := by
        cases ks with
        | nil => exact absurd rfl hne
        | cons a r => rfl
      rw [e1]
      refine iteF ?_
      refine ⟨_, rfl, _, _, rfl, .inl hS, _, rfl, (by omega), (by rw [vI_len]; omega), ?_⟩
      rw [Int.toNat_natCast, vI_len]
      refine for_range (lo := 0) (n := ks.length) (fun i σ H2 => ∃ v, σ = [some (.ref b), some (.int N), v] ∧ H2 = H ∧ Up N (ks.take i)) ⟨none, rfl, rfl, up_nil N⟩ ?_ ?_
      · rintro i σ H2 hi ⟨v, rfl, rfl, hup⟩
        have e1 : atI (vI ks) (0 + (i : Int)) = some (.int ks[i]) := atI_of (by omega) (by rw [z0]; exact vI_get (List.getElem?_eq_getElem hi))
        refine ⟨_, rfl, _, rfl, _, _, _, _, rfl, rfl, hS, e1, _, rfl, ks[i], N, rfl, fun hg => ?_, fun hb => k2 fun z => hb (z.2.2 _ (List.getElem_mem hi))⟩
        refine ⟨_, rfl, _, _, rfl, rfl, _, rfl, ?_⟩
        by_cases h0 : i = 0
        · subst h0
          refine iteDn (by omega) ?_
          exact iteF ⟨_, rfl, rfl, up_take hi hup hg fun j hj => absurd hj (by omega)⟩
        · have hi1 : i - 1 < ks.length := by omega
          have e2 : atI (vI ks) (0 + (i : Int) - 1) = some (.int ks[i - 1]) := atI_of (by omega) (by rw [show (0 + (i : Int) - 1).toNat = i - 1 by omega]; exact vI_get (List.getElem?_eq_getElem hi1))
          refine iteDp (by omega) ?_
          refine ⟨_, rfl, _, rfl, _, _, _, _, rfl, rfl, hS, e1, _, rfl, _, rfl, _, _, rfl, rfl, _, _, _, _, rfl, rfl, hS, e2, _, _, rfl, rfl, _, rfl, ?_⟩
          refine ite2D (fun hle => ?_) (fun hgt => ?_)
          · refine ⟨by decide, k2 fun z => ?_⟩
            have := z.2.1 (i - 1) ks[i - 1] ks[i] (List.getElem?_eq_getElem hi1) (by rw [show i - 1 + 1 = i by omega]; exact List.getElem?_eq_getElem hi)
            omega
          · refine ⟨_, rfl, rfl, up_take hi hup hg fun j hj a ha => ?_⟩
            have : j = i - 1 := by omega
            subst this
            rw [List.getElem?_eq_getElem hi1] at ha
            cases ha
            omega
      · rintro σ H2 ⟨v, rfl, rfl, hup⟩
        rw [List.take_length] at hup
        exact k1 ⟨hne, hup⟩
theorem dec46n (c : Nat) : (!decide ((V.str ⟨#[c]⟩ : V) = V.str ".")) = decide (c ≠ 46) := by
  by_cases h : c = 46
  · subst h; rw [decide_eq_true e46]; rfl
  · rw [decide_eq_false (fun z => h (sg_eq.mp (z.trans e46.symm))), decide_eq_true h]; rfl
theorem dec35n (c : Nat) : (!decide ((V.str ⟨#[c]⟩ : V) = V.str "#")) = decide (c ≠ 35) := by
  by_cases h : c = 35
  · subst h; rw [decide_eq_true e35]; rfl
  · rw [decide_eq_false (fun z => h (sg_eq.mp (z.trans e35.symm))), decide_eq_true h]; rfl
theorem NL.grow {H : Hp} {y l : Addr} {rs : List Addr} {tss : List (List Int)} {ks : List Int} (N : NL H y rs tss) (hl : H l = none) : NL (upd (upd H l (.lst (vI ks))) y (.lst (rs.map V.ref ++ [.ref l]))) y (rs ++ [l]) (tss ++ [ks]) := by
  have nly : l ≠ y := fun e => by rw [e, N.h] at hl; cases hl
  refine ⟨by rw [List.map_append]; exact upd_same, by rw [List.length_append, List.length_append, N.l]; rfl, fun i a ks' h1 h2 => ?_⟩
  by_cases hi : i < rs.length
  · rw [List.getElem?_append_left hi] at h1
    rw [List.getElem?_append_left (by rw [← N.l]; exact hi)] at h2
    have ha := N.r i a ks' h1 h2
    have nay : a ≠ y := fun e => by
      rw [e, N.h] at ha
      have e2 : rs.map V.ref = vI ks' := by injection ha with ha; injection ha
      have h0 : 0 < rs.length := by omega
      have g1 : (rs.map V.ref)[0]? = some (.ref rs[0]) := by rw [List.getElem?_map, List.getElem?_eq_getElem h0]; rfl
      rw [e2] at g1
      obtain ⟨z, _, e3⟩ := vI_got g1
      cases e3
    rw [upd_ne nay]
    exact (Same.upd hl) _ _ ha
  · rw [List.getElem?_append_right (by omega)] at h1
    rw [List.getElem?_append_right (by rw [← N.l]; omega)] at h2
    have hi0 : i - rs.length = 0 := by
      have := (List.getElem?_eq_some_iff.mp h1).1
      simp at this
      omega
    rw [hi0] at h1
    rw [show i - tss.length = 0 by rw [← N.l]; exact hi0] at h2
    have e1 : l = a := by simpa using h1
    have e2 : ks = ks' := by simpa using h2
    rw [← e1, ← e2, upd_ne nly]
    exact upd_same
theorem cl_at2 {cl : List (List Nat)} {m n p : Nat} (C : Cl cl m n) (hp : p < n) : atI (vS cl) (0 + (p : Int)) = some (.str (tx (cl.getD p []))) ∧ (cl.getD p []).length = m := by
  have hl : p < cl.length := by rw [C.hn]; exact hp
  have e : cl.getD p [] = cl[p] := by rw [List.getD_eq_getElem?_getD, List.getElem?_eq_getElem hl]; rfl
  rw [e]
  exact ⟨atI_of (by omega) (by rw [z0]; exact vS_get (List.getElem?_eq_getElem hl)), C.hm _ (List.getElem_mem hl)⟩
theorem sign_at2 {u : List Nat} {e : Nat} (h : e < u.length) : atI (tx u).cps.toList (0 + (e : Int)) = some (u.getD e 0) := atI_of (by omega) (by
  rw [z0, tx_list, List.getElem?_eq_getElem h, List.getD_eq_getElem?_getD, List.getElem?_eq_getElem h]
  rfl)
def sp_lower (K : PySem.W.Frag) : Sp := fun vs H Q _ => ∃ (a : Addr) (cl : List (List Nat)) (m n : Nat), vs = [.ref a] ∧ SqL K H a (vS cl) ∧ Cl cl m n ∧ ∀ (y : Addr) (rs : List Addr) (H' : Hp), Same H H' → NL H' y rs (lows cl m) → Q (.ref y) H'
theorem ok_lower_strands (T : Txt K mg t) : FnOk P w K mg base CX0 1 t.f_lower_strands t.d_lower_strands ["texts"] (sp_lower K) := by
  refine T.lower_strands.F.ok sc_lower_strands (fun vs H Q E h => ?_) (fun cdv A outer s H vs Q E hr h => ?_)
  · obtain ⟨a, cl, m, n, rfl, _⟩ := h
    rfl
  · obtain ⟨a, cl, m, n, rfl, hS, C, k⟩ := h
    have hsz : sizeLine = 16777216 := sizeLine_eq
    have c1 := C.n1
    have c2 := C.n40
    have c3 := C.m1
    have c4 := C.m40
    have hlen : (vS cl).length = n := by rw [vS_len, C.hn]
    have h0 : 0 < cl.length := by rw [C.hn]; omega
    have hm0 := C.hm cl[0] (List.getElem_mem h0)
    refine ⟨_, (pss_cons (ps_set (i := 1) sc_lower_strands.nd rfl (Or.inr rfl) (pe_callB call_len_str rfl T.b_len bt_len (pa_cons (pe_ix (ix_listK (K := K)) (pv 0) pe_int (fun _ _ => rfl)) pa_nil)))
      (pss_cons (ps_set (i := 2) sc_lower_strands.nd rfl (Or.inl rfl) (pe_lst pa_nil))
      (pss_cons (ps_for PassesOwn.never rfl (pi_range1 rfl T.b_range (pa_cons (pv 1) pa_nil)) (pg_name (i := 3) sc_lower_strands.nd rfl (Or.inr rfl))
        (pss_one (ps_expr (pe_bmK (K := K) PySem.F.plainAttrs_list PySem.F.slot_list_append PySem.F.type_list_append mt_append (pv 2) (pa_cons (pe_comp (CompOk.mk (caps := [0, 1, 3]) (Nc := ["pick", "texts", "ends", "end"]) rfl (by decide +kernel) (by decide +kernel) (comp_fr (sc0 := defScope s_lower_strands) rfl (by decide +kernel)) rfl rfl rfl (by decide +kernel) (fun k j h => match k, h with | 0, h => by obtain rfl := Option.some.inj h; exact ⟨_, rfl, rfl, rfl⟩ | 1, h => by obtain rfl := Option.some.inj h; exact ⟨_, rfl, rfl, rfl⟩ | 2, h => by obtain rfl := Option.some.inj h; exact ⟨_, rfl, rfl, rfl⟩ | _ + 3, h => by simp at h)) rfl (pi_range1 rfl T.b_range (pa_cons (pe_callB (call_len_seqK (K := K)) rfl T.b_len bt_len (pa_cons (pv 0) pa_nil)) pa_nil)) (fun _ _ _ _ _ => .one (pt_cmpR op_ne (pe_ix ix_str (pe_ix (ix_listK (K := K)) (pv 1) (pv 0) (fun _ _ => rfl)) (pv 3) (fun _ _ => rfl)) pe_str (nomark _))) (fun _ _ _ _ _ => (pe_op op_add (pv 2) (pv 0)))) pa_nil)))))
      (pss_cons (ps_for PassesOwn.never rfl (pi_listK (K := K) (pv 0)) (pg_name (i := 4) sc_lower_strands.nd rfl (Or.inr rfl))
        (pss_one (ps_expr (pe_bmK (K := K) PySem.F.plainAttrs_list PySem.F.slot_list_append PySem.F.type_list_append mt_append (pv 2) (pa_cons (pe_comp (CompOk.mk (caps := [4]) (Nc := ["end", "text"]) rfl (by decide +kernel) (by decide +kernel) (comp_fr (sc0 := defScope s_lower_strands) rfl (by decide +kernel)) rfl rfl rfl (by decide +kernel) (fun k j h => match k, h with | 0, h => by obtain rfl := Option.some.inj h; exact ⟨_, rfl, rfl, rfl⟩ | _ + 1, h => by simp at h)) rfl (pi_range1 rfl T.b_range (pa_cons (pv 1) pa_nil)) (fun _ _ _ _ _ => .one (pt_cmpR op_ne (pe_ix ix_str (pv 1) (pv 0) (fun _ _ => rfl)) pe_str (nomark _))) (fun _ _ _ _ _ => (pv 0))) pa_nil)))))
      (pss_one (ps_ret (pv 2))))))), ?_⟩
    refine ⟨_, rfl, _, _, _, _, rfl, rfl, hS, atI_of (by decide) (vS_get (List.getElem?_eq_getElem h0)), _, rfl, (by rw [tx_len, hm0]; exact small40 c4), ?_⟩
    rw [tx_len, hm0]
    refine ⟨Nat.zero_le _, fun q hq => ?_⟩
    refine ⟨_, rfl, _, rfl, (by omega), (by omega), ?_⟩
    rw [Int.toNat_natCast]
    refine for_range (lo := 0) (n := m) (fun i σ H2 => ∃ (rs : List Addr) (v1 v2 : Option V), σ = [some (.ref a), some (.int (m : Int)), some (.ref q), v1, v2] ∧ Same H H2 ∧ NL H2 q rs ((List.range i).map fun e => lowE cl m e cl.length))
      ⟨[], none, none, rfl, .upd hq, ⟨upd_same, rfl, fun i a ks h => by simp at h⟩⟩ ?_ ?_
    · rintro i σ H2 hi ⟨rs, v1, v2, rfl, s2, N⟩
      refine ⟨_, rfl, .inl ⟨rfl, _, SqL.of N.h⟩, _, rfl, _, _, rfl, .inl (s2.seq hS), _, rfl, (by omega), (by rw [hlen]; omega), ?_⟩
      rw [Int.toNat_natCast, hlen]
      refine comp_range (lo := 0) (n := n) (fun j ys H3 => H3 = H2 ∧ ys = vI (lowE cl m i j)) ⟨rfl, rfl⟩ ?_ ?_ ?_ ?_
      · rintro j ys H3 hj ⟨rfl, rfl⟩
        rw [vI_len]
        exact lowE_len cl m i j
      · exact small40 c2
      · rintro j ys H3 hj ⟨rfl, rfl⟩
        obtain ⟨e1, l1⟩ := cl_at2 C hj
        have e2 := sign_at2 (u := cl.getD j []) (e := i) (by rw [l1]; exact hi)
        refine ⟨_, rfl, _, rfl, _, _, _, _, rfl, rfl, s2.seq hS, e1, _, rfl, _, _, _, rfl, rfl, (by rw [tx_len, l1]; exact small40 c4), e2, rfl, _, rfl, ?_⟩
        have st := lowE_step cl m i j
        rw [dec46n]
        refine ite2D (fun h => ?_) (fun h => ?_)
        · refine ⟨_, rfl, _, rfl, _, _, rfl, rfl, ?_⟩
          refine CN.of hj ⟨rfl, ?_⟩
          rw [Int.zero_add, st, if_pos (show sg2 cl j i ≠ 46 from h)]
          exact vI_app _ _
        · refine CN.of hj ⟨rfl, ?_⟩
          rw [st, if_neg (show ¬ sg2 cl j i ≠ 46 from h)]
      · rintro ys H3 l ⟨rfl, rfl⟩ hl
        have hq3 := (Same.upd (o := .lst (vI (lowE cl m i n))) hl) _ _ N.h
        refine ⟨_, _, _, rfl, rfl, hq3, (by rw [List.length_map, N.l, List.length_map, List.length_range]; omega), ?_⟩
        refine ⟨rs ++ [l], _, _, rfl, (s2.new hl).over hq, ?_⟩
        rw [List.range_succ, List.map_append]
        have := N.grow (ks := lowE cl m i cl.length) hl
        rw [C.hn] at this ⊢
        exact this
    · rintro σ H2 ⟨rs, v1, v2, rfl, s2, N⟩
      refine ⟨_, rfl, _, rfl, ⟨_, s2.seq hS⟩, for_list (K := K) (a := a) (xs := vS cl) (fun i σ H3 => ∃ (rs : List Addr) (v1 v2 : Option V), σ = [some (.ref a), some (.int (m : Int)), some (.ref q), v1, v2] ∧ Same H H3 ∧ NL H3 q rs (((List.range m).map fun e => lowE cl m e cl.length) ++ (cl.take i).map fun t => lowP t m))
        ⟨rs, v1, v2, rfl, s2, by rw [List.take_zero, List.map_nil, List.append_nil]; exact N⟩ (fun i σ H3 _ ⟨_, _, _, _, s3, _⟩ => s3.seq hS) ?_ ?_⟩
      · rintro i x σ H3 hx ⟨rs, v1, v2, rfl, s3, N3⟩
        obtain ⟨u, hu, rfl⟩ := vS_got hx
        have hil : i < n := by
          have := (List.getElem?_eq_some_iff.mp hu).1
          rwa [C.hn] at this
        have lu := C.hm u (List.mem_of_getElem? hu)
        refine ⟨_, rfl, .inl ⟨rfl, _, SqL.of N3.h⟩, _, rfl, _, rfl, (by omega), (by omega), ?_⟩
        rw [Int.toNat_natCast]
        refine comp_range (lo := 0) (n := m) (fun j ys H4 => H4 = H3 ∧ ys = vI (lowP u j)) ⟨rfl, rfl⟩ ?_ ?_ ?_ ?_
        · rintro j ys H4 hj ⟨rfl, rfl⟩
          rw [vI_len]
          exact lowP_len u j
        · exact small40 c4
        · rintro j ys H4 hj ⟨rfl, rfl⟩
          have e2 := sign_at2 (u := u) (e := j) (by rw [lu]; exact hj)
          refine ⟨_, rfl, _, rfl, _, _, _, rfl, rfl, (by rw [tx_len, lu]; exact small40 c4), e2, rfl, _, rfl, ?_⟩
          have st := lowP_step u j
          rw [dec35n]
          refine ite2D (fun h => ?_) (fun h => ?_)
          · refine ⟨_, rfl, ?_⟩
            refine CN.of hj ⟨rfl, ?_⟩
            rw [Int.zero_add, st, if_pos h]
            exact vI_app _ _
          · refine CN.of hj ⟨rfl, ?_⟩
            rw [st, if_neg h]
        · rintro ys H4 l ⟨rfl, rfl⟩ hl
          have hq4 := (Same.upd (o := .lst (vI (lowP u m))) hl) _ _ N3.h
          refine ⟨_, _, _, rfl, rfl, hq4, (by rw [List.length_map, N3.l, List.length_append, List.length_map, List.length_range, List.length_map, List.length_take]; omega), ?_⟩
          refine ⟨rs ++ [l], _, _, rfl, (s3.new hl).over hq, ?_⟩
          rw [List.take_add_one, hu, List.map_append, ← List.append_assoc]
          exact N3.grow (ks := lowP u m) hl
      · rintro σ H3 ⟨rs, v1, v2, rfl, s3, N3⟩
        rw [vS_len, List.take_length] at N3
        exact ⟨_, rfl, k q rs H3 s3 N3⟩
def pvO : Option Nat → V
  | none => .non
  | some u => .int (u : Int)
def kvs (ps : List (Nat × Option Nat)) : List (Key × V) := ps.map fun p => (Sum.inl (p.1 : Int), pvO p.2)
def vF (ps : List (Nat × Option Nat)) : List V := vI (ps.map fun p => ((p.1 : Nat) : Int))
theorem vF_len (ps : List (Nat × Option Nat)) : (vF ps).length = ps.length := by unfold vF; rw [vI_len, List.length_map]
theorem vF_at {ps : List (Nat × Option Nat)} {i v : Nat} {a : Option Nat} (h : ps[i]? = some (v, a)) : atI (vF ps) (i : Int) = some (.int (v : Int)) := atI_of (by omega) (by
  rw [Int.toNat_natCast]
  exact vI_get (by rw [List.getElem?_map, h]; rfl))
theorem vF_app (ps : List (Nat × Option Nat)) (v : Nat) (a : Option Nat) : vF ps ++ [.int (v : Int)] = vF (ps ++ [(v, a)]) := by unfold vF; rw [vI_app, List.map_append]; rfl
theorem kvs_none {v : Nat} : ∀ {ps : List (Nat × Option Nat)}, (∀ a, (v, a) ∉ ps) → valV (kvs ps) (Sum.inl (v : Int)) = none
  | [], _ => valV_nil
  | p :: ps, h => by
    unfold kvs
    rw [List.map_cons, valV_neg (fun e => ?_)]
    · exact kvs_none fun a ha => h a (List.mem_cons_of_mem _ ha)
    · have e : ((p.1 : Nat) : Int) = (v : Int) := Sum.inl.inj e
      have e : p.1 = v := by omega
      exact h p.2 (by rw [← e]; exact List.mem_cons_self)
theorem kvs_some {v : Nat} {a : Option Nat} : ∀ {ps : List (Nat × Option Nat)}, (v, a) ∈ ps → (∀ b, (v, b) ∈ ps → b = a) → valV (kvs ps) (Sum.inl (v : Int)) = some (pvO a)
  | [], h, _ => by cases h
  | p :: ps, h, hu => by
    unfold kvs
    rw [List.map_cons]
    by_cases e : p.1 = v
    · have ea := hu p.2 (by rw [← e]; exact List.mem_cons_self)
      rw [valV_pos (by show Sum.inl ((p.1 : Nat) : Int) = Sum.inl ((v : Nat) : Int); rw [e])]
      show some (pvO p.2) = _
      rw [ea]
    · rw [valV_neg (fun z => e (by have z : ((p.1 : Nat) : Int) = (v : Int) := Sum.inl.inj z; omega))]
      rcases List.mem_cons.mp h with h | h
      · exact absurd (by rw [← h]) e
      · exact kvs_some h fun b hb => hu b (List.mem_cons_of_mem _ hb)
theorem Bf.val {tss : List (List Int)} {s : Nat} {ps : List (Nat × Option Nat)} {dp : List Nat} (B : Bf tss s ps dp) {i v : Nat} {a : Option Nat} (h : ps[i]? = some (v, a)) : valV (kvs ps) (Sum.inl (v : Int)) = some (pvO a) := by
  refine kvs_some (List.mem_of_getElem? h) fun b hb => ?_
  obtain ⟨j, hj, e⟩ := List.getElem_of_mem hb
  have g : ps[j]? = some (v, b) := by rw [← e]; exact List.getElem?_eq_getElem hj
  have := B.nd i j v a b h g
  subst this
  rw [h] at g
  cases g
  rfl
theorem kvs_app (ps : List (Nat × Option Nat)) (v u : Nat) (h : valV (kvs ps) (Sum.inl (v : Int)) = none) : putK (kvs ps) (Sum.inl (v : Int)) (.int (u : Int)) = kvs (ps ++ [(v, some u)]) := by
  rw [putK_new _ h]
  unfold kvs
  rw [List.map_append]
  rfl
theorem kvs_len (ps : List (Nat × Option Nat)) : (kvs ps).length = ps.length := by unfold kvs; rw [List.length_map]
def Gd (tss : List (List Int)) : Prop := ∀ v, ∀ z ∈ tss.getD v [], 0 ≤ z ∧ z < (tss.length : Int)
def sp_ways : Sp := fun vs H Q _ => ∃ (y : Addr) (rs : List Addr) (tss : List (List Int)) (s0 : Nat), vs = [.ref y, .int (s0 : Int)] ∧ NL H y rs tss ∧ Gd tss ∧ tss.length ≤ 200 ∧ s0 < tss.length ∧
  ∀ (d : Addr) (ps : List (Nat × Option Nat)) (dp : List Nat) (H' : Hp), Same H H' → H d = none → H' d = some (.dK (kvs ps)) → Bf tss s0 ps dp → Dn tss ps dp ps.length → Q (.ref d) H'
theorem ok_ways_from (T : Txt K mg t) : FnOk P w K mg base CX0 1 t.f_ways_from t.d_ways_from ["lower", "start"] sp_ways := by
  refine T.ways_from.F.ok sc_ways_from (fun vs H Q E h => ?_) (fun cdv A outer s H vs Q E hr h => ?_)
  · obtain ⟨y, rs, tss, s0, rfl, _⟩ := h
    rfl
  · obtain ⟨y, rs, tss, s0, rfl, N, G, t200, hs0, k⟩ := h
    have hsz : sizeLine = 16777216 := sizeLine_eq
    refine ⟨_, (pss_cons (ps_set (i := 2) sc_ways_from.nd rfl (Or.inl rfl) (pe_disp (pps_cons (pv 1) pe_non pps_nil) rfl rfl (by simp) (by decide)))
      (pss_cons (ps_set (i := 3) sc_ways_from.nd rfl (Or.inl rfl) (pe_lst (pa_cons (pv 1) pa_nil)))
      (pss_cons (ps_set (i := 4) sc_ways_from.nd rfl (Or.inl rfl) pe_int)
      (pss_cons (ps_while PassesOwn.never (pt_cmpR op_lt (pv 4) (pe_callB (call_len_seqK (K := K)) rfl T.b_len bt_len (pa_cons (pv 3) pa_nil)) (nomark _))
        (pss_cons (ps_set (i := 5) sc_ways_from.nd rfl (Or.inl rfl) (pe_ix (ix_listK (K := K)) (pv 3) (pv 4) (fun _ _ => rfl)))
        (pss_cons (ps_for PassesOwn.never rfl (pi_listK (K := K) (pe_ix (ix_listK (K := K)) (pv 0) (pv 5) (fun _ _ => rfl))) (pg_name (i := 6) sc_ways_from.nd rfl (Or.inl rfl))
          (pss_one (ps_if (pt_cmp (pc_dnotin (hu_of hr) (pv 6) (pv 2)))
            (pss_cons (ps_dput (hu_of hr) (pv 2) (pv 6) (pv 5) rfl)
            (pss_one (ps_expr (pe_bmK (K := K) PySem.F.plainAttrs_list PySem.F.slot_list_append PySem.F.type_list_append mt_append (pv 3) (pa_cons (pv 6) pa_nil)))))
            pss_nil)))
        (pss_one (ps_aug (i := 4) sc_ways_from.nd rfl (Or.inl rfl) pe_int ip_add)))))
      (pss_one (ps_ret (pv 2))))))), ?_⟩
    refine fun d nd => ⟨_, rfl, upd_same, [(Sum.inl (s0 : Int), .non)], rfl, (by show 1 ≤ 15; decide), ?_⟩
    have s1 : Same H (upd (upd H d (.dK [])) d (.dK (mergeK [] [(Sum.inl (s0 : Int), .non)]))) := (Same.upd nd).over nd
    have hd1 : (upd (upd H d (.dK [])) d (.dK (mergeK [] [(Sum.inl (s0 : Int), .non)]))) d = some (.dK (kvs [(s0, none)])) := upd_same
    generalize upd (upd H d (.dK [])) d (.dK (mergeK [] [(Sum.inl (s0 : Int), .non)])) = H1 at s1 hd1 ⊢
    refine ⟨_, rfl, (by show 1 ≤ sizeLine; decide), fun f nf => ?_⟩
    have nfH : H f = none := s1.free nf
    have dnf : d ≠ f := fun e => by rw [e, nf] at hd1; cases hd1
    have s2 : Same H (upd H1 f (.lst [.int (s0 : Int)])) := s1.new nf
    have hd2 := (Same.upd (o := .lst [.int (s0 : Int)]) nf) _ _ hd1
    have hf2 : (upd H1 f (.lst [.int (s0 : Int)])) f = some (.lst (vF [(s0, none)])) := upd_same
    generalize upd H1 f (.lst [.int (s0 : Int)]) = H2 at s2 hd2 hf2 ⊢
    refine ⟨fun m σ H3 => ∃ (pl : Nat) (ps : List (Nat × Option Nat)) (dp : List Nat) (v5 v6 : Option V), σ = [some (.ref y), some (.int (s0 : Int)), some (.ref d), some (.ref f), some (.int (pl : Int)), v5, v6] ∧ Same H H3 ∧ H3 d = some (.dK (kvs ps)) ∧ H3 f = some (.lst (vF ps)) ∧ Bf tss s0 ps dp ∧ Dn tss ps dp pl ∧ pl ≤ ps.length ∧ (∀ j x a : Nat, dp[j]? = some x → dp[pl]? = some a → x ≤ a + 1) ∧ m = tss.length - pl,
      ⟨_, 0, [(s0, none)], [0], none, none, rfl, s2, hd2, hf2, Bf.one hs0, Dn.zero, Nat.zero_le _, fun j x a h1 h2 => ?_, rfl⟩, ?_⟩
    · have := (Bf.one hs0).mono
      have g1 := (List.getElem?_eq_some_iff.mp h1).1
      have g0 : j = 0 := by simpa using g1
      rw [g0] at h1
      rw [h1] at h2
      cases h2
      omega
    rintro m σ H3 ⟨pl, ps, dp, v5, v6, rfl, s3, hd3, hf3, B, D, hpl, near, rfl⟩
    refine ⟨_, rfl, _, rfl, _, _, rfl, .inl (SqL.of hf3), _, _, rfl, rfl, _, rfl, ?_⟩
    rw [vF_len]
    refine ite2D (fun h => ?_) (fun h => ?_)
    · have plt : pl < ps.length := by omega
      refine ⟨_, fun _ _ z => z, ?_⟩
      obtain ⟨⟨u, b⟩, hu⟩ : ∃ q, ps[pl]? = some q := ⟨_, List.getElem?_eq_getElem plt⟩
      obtain ⟨a0, ha0⟩ : ∃ a, dp[pl]? = some a := ⟨_, List.getElem?_eq_getElem (by rw [B.len]; exact plt)⟩
      have uN : u < tss.length := B.lt u b (List.mem_of_getElem? hu)
      have urs : u < rs.length := by rw [N.l]; exact uN
      refine ⟨_, rfl, _, rfl, _, _, _, _, rfl, rfl, SqL.of hf3, vF_at hu, ?_⟩
      have N3 := N.same s3
      have hrow := N3.r u rs[u] tss[u] (List.getElem?_eq_getElem urs) (List.getElem?_eq_getElem uN)
      have eg : tss.getD u [] = tss[u] := by rw [List.getD_eq_getElem?_getD, List.getElem?_eq_getElem uN]; rfl
      have au : atI (rs.map V.ref) (u : Int) = some (.ref rs[u]) := atI_of (by omega) (by rw [Int.toNat_natCast, List.getElem?_map, List.getElem?_eq_getElem urs]; rfl)
      refine ⟨_, rfl, _, rfl, _, _, _, _, rfl, rfl, SqL.of N3.h, au, _, rfl, ⟨_, SqL.of hrow⟩, for_list (K := K) (a := rs[u]) (xs := vI tss[u])
        (fun i σ H4 => ∃ (ps : List (Nat × Option Nat)) (dp : List Nat) (v6 : Option V), σ = [some (.ref y), some (.int (s0 : Int)), some (.ref d), some (.ref f), some (.int (pl : Int)), some (.int (u : Int)), v6] ∧ Same H H4 ∧ H4 d = some (.dK (kvs ps)) ∧ H4 f = some (.lst (vF ps)) ∧ Bf tss s0 ps dp ∧ Dn tss ps dp pl ∧ pl < ps.length ∧ ps[pl]? = some (u, b) ∧ dp[pl]? = some a0 ∧ (∀ j x : Nat, dp[j]? = some x → x ≤ a0 + 1) ∧
          ∀ z ∈ (tss[u]).take i, ∃ (j : Nat) (c : Option Nat), ps[j]? = some (z.toNat, c))
        ⟨ps, dp, v6, rfl, s3, hd3, hf3, B, D, plt, hu, ha0, fun j x h1 => near j x a0 h1 ha0, fun z hz => (by simp at hz)⟩ (fun i σ H4 _ ⟨_, _, _, _, s4, _⟩ => SqL.of ((N.same s4).r u rs[u] tss[u] (List.getElem?_eq_getElem urs) (List.getElem?_eq_getElem uN))) ?_ ?_⟩
      · rintro i x σ H4 hx ⟨ps, dp, v6, rfl, s4, hd4, hf4, B, D, plt, hu, ha0, near, hall⟩
        obtain ⟨z, hz, rfl⟩ := vI_got hx
        have hzm : z ∈ tss.getD u [] := by rw [eg]; exact List.mem_of_getElem? hz
        obtain ⟨z0', z1⟩ := G u z hzm
        obtain ⟨v, rfl⟩ : ∃ v : Nat, z = (v : Int) := ⟨z.toNat, by omega⟩
        have step : ∀ {ps' : List (Nat × Option Nat)}, (∀ (j : Nat) q, ps[j]? = some q → ps'[j]? = some q) → (∃ (j : Nat) (c : Option Nat), ps'[j]? = some (v, c)) → ∀ z ∈ (tss[u]).take (i + 1), ∃ (j : Nat) (c : Option Nat), ps'[j]? = some (z.toNat, c) := fun {ps'} mono hv z hz' => by
          rw [List.take_add_one, hz] at hz'
          rcases List.mem_append.mp hz' with h | h
          · obtain ⟨j, c, g⟩ := hall z h
            exact ⟨j, c, mono j _ g⟩
          · have e : z = (v : Int) := by simpa using h
            rw [e, Int.toNat_natCast]
            exact hv
        refine ⟨_, rfl, _, rfl, d, _, rfl, DGet.k (k := Sum.inl (v : Int)) hd4, _, rfl, ?_⟩
        by_cases hin : ∃ (j : Nat) (c : Option Nat), ps[j]? = some (v, c)
        · obtain ⟨j, c, g⟩ := hin
          rw [B.val g]
          refine iteF ?_
          exact ⟨ps, dp, _, rfl, s4, hd4, hf4, B, D, plt, hu, ha0, near, step (fun _ _ h => h) ⟨j, c, g⟩⟩
        · have new : ∀ (i : Nat) (a : Option Nat), ps[i]? ≠ some (v, a) := fun i a e => hin ⟨i, a, e⟩
          have hno : valV (kvs ps) (Sum.inl (v : Int)) = none := kvs_none fun a ha => by
            obtain ⟨j, hj, e⟩ := List.getElem_of_mem ha
            exact new j a (by rw [← e]; exact List.getElem?_eq_getElem hj)
          have sm := B.small
          rw [hno]
          refine iteT ?_
          refine ⟨_, rfl, _, rfl, _, rfl, d, _, rfl, DPut.k (k := Sum.inl (v : Int)) hd4 (by rw [kvs_len]; omega), ?_⟩
          rw [kvs_app ps v u hno]
          have s5 : Same H (upd H4 d (.dK (kvs (ps ++ [(v, some u)])))) := s4.over nd
          have hf5 : (upd H4 d (.dK (kvs (ps ++ [(v, some u)])))) f = some (.lst (vF ps)) := by rw [upd_ne dnf.symm]; exact hf4
          have hd5 : (upd H4 d (.dK (kvs (ps ++ [(v, some u)])))) d = some (.dK (kvs (ps ++ [(v, some u)]))) := upd_same
          generalize upd H4 d (.dK (kvs (ps ++ [(v, some u)]))) = H5 at s5 hf5 hd5 ⊢
          refine ⟨_, rfl, .inl ⟨rfl, _, SqL.of hf5⟩, _, rfl, _, _, _, rfl, rfl, hf5, (by rw [vF_len]; omega), ?_⟩
          rw [vF_app ps v (some u)]
          refine ⟨ps ++ [(v, some u)], dp ++ [a0 + 1], _, rfl, s5.over nfH, by rw [upd_ne dnf]; exact hd5, upd_same, B.add hu ha0 near hzm (by omega) new, D.app B.len (by omega) _ _, by rw [List.length_append]; omega, app_in hu, app_in ha0, fun j x h1 => ?_, step (fun _ _ h => app_in h) ⟨_, _, app_last _ _⟩⟩
          rcases app_old h1 with ⟨_, g⟩ | ⟨_, g⟩
          · exact near j x g
          · omega
      · rintro σ H4 ⟨ps, dp, v6, rfl, s4, hd4, hf4, B, D, plt, hu, ha0, nearB, hall⟩
        rw [vI_len, List.take_length] at hall
        have sm := B.small
        refine ⟨_, rfl, _, _, rfl, rfl, ?_⟩
        refine ⟨tss.length - (pl + 1), by omega, pl + 1, ps, dp, _, _, rfl, s4, hd4, hf4, B, fun i u' b' a' hi h1 h2 w hw => ?_, by omega, fun j x a h1 h2 => ?_, rfl⟩
        · by_cases e : i < pl
          · exact D i u' b' a' e h1 h2 w hw
          · have e : i = pl := by omega
            subst e
            rw [hu] at h1
            rw [ha0] at h2
            cases h1
            cases h2
            rw [eg] at hw
            obtain ⟨j, c, g⟩ := hall _ hw
            rw [Int.toNat_natCast] at g
            have hj : j < dp.length := by rw [B.len]; exact (List.getElem?_eq_some_iff.mp g).1
            exact ⟨j, c, dp[j], g, List.getElem?_eq_getElem hj, nearB j dp[j] (List.getElem?_eq_getElem hj)⟩
        · have h3 := nearB j x h1
          have h4 := B.mono pl (pl + 1) a0 a (by omega) ha0 h2
          omega
    · have e : pl = ps.length := by omega
      subst e
      exact ⟨_, rfl, k d ps dp H3 s3 nd hd3 B D⟩
end
end Mine
set_option Elab.async false
set_option linter.all false
set_option maxRecDepth 100000
set_option maxHeartbeats 4000000
namespace Mine
open PySem L2
section
variable {P : Program} {w : World} {K : PySem.W.Frag} {mg : Str → Option Value} {base : Heap} {t : Adr}
def vW (ws : List Nat) : List V := vI (ws.map fun v => ((v : Nat) : Int))
theorem vW_len (ws : List Nat) : (vW ws).length = ws.length := by unfold vW; rw [vI_len, List.length_map]
theorem vW_app (ws : List Nat) (v : Nat) : vW ws ++ [.int (v : Int)] = vW (ws ++ [v]) := by unfold vW; rw [vI_app, List.map_append]; rfl
theorem vW_get {ws : List Nat} {i v : Nat} (h : ws[i]? = some v) : (vW ws)[i]? = some (.int (v : Int)) := vI_get (by rw [List.getElem?_map, h]; rfl)
theorem vW_rev (ws : List Nat) : (vW ws).reverse = vW ws.reverse := by unfold vW vI; rw [List.map_reverse, List.map_reverse]
theorem at_last (xs : List V) (x : V) : atI (xs ++ [x]) (-1) = some x := by
  unfold atI ixN
  have h1 : ¬ (0 : Int) ≤ -1 := by decide
  rw [if_neg h1, List.length_append, List.length_singleton]
  have h2 : -(((xs.length + 1 : Nat)) : Int) ≤ -1 := by omega
  rw [if_pos h2]
  show (xs ++ [x])[((-1 : Int) + ((xs.length + 1 : Nat) : Int)).toNat]? = some x
  rw [show ((-1 : Int) + ((xs.length + 1 : Nat) : Int)).toNat = xs.length by omega, List.getElem?_append_right (Nat.le_refl _), Nat.sub_self]
  rfl
def sp_wayto : Sp := fun vs H Q _ => ∃ (d : Addr) (tss : List (List Int)) (s0 g jg x : Nat) (c : Option Nat) (ps : List (Nat × Option Nat)) (dp : List Nat), vs = [.ref d, .int (g : Int)] ∧ H d = some (.dK (kvs ps)) ∧ Bf tss s0 ps dp ∧ tss.length ≤ 200 ∧ ps[jg]? = some (g, c) ∧ dp[jg]? = some x ∧
  ∀ (l : Addr) (ws : List Nat) (H' : Hp), Same H H' → H l = none → H' l = some (.lst (vW ws)) → ws.length = x + 1 → ws[0]? = some s0 → ws[x]? = some g → Pth tss ws → (∀ v ∈ ws, v < tss.length) → Q (.ref l) H'
theorem ok_way_to (T : Txt K mg t) : FnOk P w K mg base CX0 1 t.f_way_to t.d_way_to ["ahead", "goal"] sp_wayto := by
  refine T.way_to.F.ok sc_way_to (fun vs H Q E h => ?_) (fun cdv A outer s H vs Q E hr h => ?_)
  · obtain ⟨d, tss, s0, g, jg, x, c, ps, dp, rfl, _⟩ := h
    rfl
  · obtain ⟨d, tss, s0, g, jg, x, c, ps, dp, rfl, hd, B, t200, hg, hx, k⟩ := h
    have hsz : sizeLine = 16777216 := sizeLine_eq
    have sm := B.small
    refine ⟨_, (pss_cons (ps_set (i := 2) sc_way_to.nd rfl (Or.inl rfl) (pe_lst (pa_cons (pv 1) pa_nil)))
      (pss_cons (ps_while PassesOwn.never (pt_cmpR op_notN (pe_dget (hu_of hr) (pv 0) (pe_ix (ix_listK (K := K)) (pv 2) (pe_un un_neg pe_int) (fun _ _ => rfl)) (fun _ _ => rfl)) pe_non (nomark _))
        (pss_one (ps_expr (pe_bmK (K := K) PySem.F.plainAttrs_list PySem.F.slot_list_append PySem.F.type_list_append mt_append (pv 2) (pa_cons (pe_dget (hu_of hr) (pv 0) (pe_ix (ix_listK (K := K)) (pv 2) (pe_un un_neg pe_int) (fun _ _ => rfl)) (fun _ _ => rfl)) pa_nil)))))
      (pss_one (ps_ret (pe_listRev (K := K) rfl T.b_list rfl T.b_reversed (pv 2)))))), ?_⟩
    refine ⟨_, rfl, (by show 1 ≤ sizeLine; decide), fun l nl => ?_⟩
    have s1 : Same H (upd H l (.lst [.int (g : Int)])) := .upd nl
    refine ⟨fun m σ H2 => ∃ (as bs : List Nat) (cur : Nat) (c : Option Nat) (e : Nat), σ = [some (.ref d), some (.int (g : Int)), some (.ref l)] ∧ Same H H2 ∧ H2 l = some (.lst (vW as)) ∧ as = bs ++ [cur] ∧ ps[m]? = some (cur, c) ∧ dp[m]? = some e ∧ as.length + e = x + 1 ∧ as[0]? = some g ∧ (∀ i a b : Nat, as[i]? = some a → as[i + 1]? = some b → (a : Int) ∈ tss.getD b []) ∧ ∀ v ∈ as, v < tss.length,
      ⟨jg, [g], [], g, c, x, rfl, s1, upd_same, rfl, hg, hx, by simp; omega, rfl, fun i a b h1 h2 => ?_, fun v hv => ?_⟩, ?_⟩
    · have := (List.getElem?_eq_some_iff.mp h2).1
      simp at this
    · rw [List.mem_singleton.mp hv]; exact B.lt g c (List.mem_of_getElem? hg)
    rintro m σ H2 ⟨as, bs, cur, c, e, rfl, s2, hl2, eas, hm, he, hlen, h0, hp, hlt⟩
    have hd2 := s2 _ _ hd
    have dg : DGet H2 d (.int (cur : Int)) (some (pvO c)) := by
      have := DGet.k (k := Sum.inl (cur : Int)) hd2
      rw [B.val hm] at this
      exact this
    have la : atI (vW as) (-1) = some (.int (cur : Int)) := by rw [eas, ← vW_app]; exact at_last _ _
    have mlt := (List.getElem?_eq_some_iff.mp hm).1
    refine ⟨_, rfl, _, rfl, _, rfl, _, _, _, _, rfl, rfl, SqL.of hl2, la, d, _, rfl, dg, rfl, _, rfl, ?_⟩
    by_cases hm0 : m = 0
    · subst hm0
      rw [B.st.1] at hm
      rw [B.st.2] at he
      cases hm
      cases he
      refine iteNS rfl ?_
      refine ⟨_, rfl, _, _, rfl, SqL.of hl2, (by rw [vW_len]; have := (Bf.sound B jg g _ x hg hx).2; have := (List.getElem?_eq_some_iff.mp hg).1; omega), fun q nq => ?_⟩
      rw [vW_rev]
      have al : as.length = x + 1 := by omega
      refine k q as.reverse _ (s2.new nq) (s2.free nq) upd_same (by rw [List.length_reverse]; omega) ?_ ?_ (fun i a b h1 h2 => ?_) fun v hv => hlt v (List.mem_reverse.mp hv)
      · rw [List.getElem?_reverse (by omega), eas]
        rw [eas, List.length_append, List.length_singleton] at al
        rw [List.length_append, List.length_singleton, show bs.length + 1 - 1 - 0 = bs.length by omega]
        exact app_last _ _
      · rw [List.getElem?_reverse (by omega), show as.length - 1 - x = 0 by omega]
        exact h0
      · have i2 : i + 1 < as.length := by have := (List.getElem?_eq_some_iff.mp h2).1; rwa [List.length_reverse] at this
        rw [List.getElem?_reverse (by omega)] at h1
        rw [List.getElem?_reverse i2] at h2
        exact hp (as.length - 1 - (i + 1)) b a h2 (by rw [show as.length - 1 - (i + 1) + 1 = as.length - 1 - i by omega]; exact h1)
    · obtain ⟨j, u, b, e', ec, hj, q1, q2, q3, q4⟩ := B.par m cur c (by omega) hm
      subst ec
      rw [q3] at he
      cases he
      refine iteNp (fun z => nomatch z) ?_
      refine ⟨_, fun _ _ z => z, ?_⟩
      refine ⟨_, rfl, .inl ⟨rfl, _, SqL.of hl2⟩, _, rfl, _, rfl, _, rfl, _, _, _, _, rfl, rfl, SqL.of hl2, la, d, _, rfl, dg, _, _, _, rfl, rfl, hl2, (by rw [vW_len]; have := (Bf.sound B jg g _ x hg hx).2; have := (List.getElem?_eq_some_iff.mp hg).1; omega), ?_⟩
      show ∃ m', m' < m ∧ _
      refine ⟨j, hj, as ++ [u], as, u, b, e', rfl, s2.over nl, by rw [upd_same]; exact congrArg (fun z => some (HO.lst z)) (vW_app as u), rfl, q1, q2, by rw [List.length_append, List.length_singleton]; omega, app_in h0, fun i a b' h1 h2 => ?_, fun v hv => ?_⟩
      · rcases app_old h2 with ⟨i1, g2⟩ | ⟨i1, g2⟩
        · rcases app_old h1 with ⟨_, g1⟩ | ⟨i3, _⟩
          · exact hp i a b' g1 g2
          · omega
        · rcases app_old h1 with ⟨i3, g1⟩ | ⟨i3, _⟩
          · rw [g2]
            have : a = cur := by
              rw [eas] at g1 i1
              rw [List.length_append, List.length_singleton] at i1
              have e5 : i = bs.length := by omega
              rw [e5, app_last] at g1
              cases g1
              rfl
            rw [this]
            exact q4
          · omega
      · rcases List.mem_append.mp hv with h | h
        · exact hlt v h
        · rw [List.mem_singleton.mp h]; exact B.lt u b (List.mem_of_getElem? q1)
theorem NL.put {H : Hp} {y l : Addr} {rs : List Addr} {tss : List (List Int)} {ks : List Int} {v : Nat} (N : NL H y rs tss) (hl : H l = none) : NL (upd (upd H l (.lst (vI ks))) y (.lst ((rs.map V.ref).set v (.ref l)))) y (rs.set v l) (tss.set v ks) := by
  have nly : l ≠ y := fun e => by rw [e, N.h] at hl; cases hl
  refine ⟨by rw [List.map_set]; exact upd_same, by rw [List.length_set, List.length_set, N.l], fun i a ks' h1 h2 => ?_⟩
  by_cases hi : v = i
  · subst hi
    have h3 := (List.getElem?_eq_some_iff.mp h1).1
    have h4 := (List.getElem?_eq_some_iff.mp h2).1
    rw [List.length_set] at h3 h4
    rw [List.getElem?_set_self h3] at h1
    rw [List.getElem?_set_self h4] at h2
    cases h1
    cases h2
    rw [upd_ne nly]
    exact upd_same
  · rw [List.getElem?_set_ne hi] at h1 h2
    have ha := N.r i a ks' h1 h2
    have h0 : 0 < rs.length := by have := (List.getElem?_eq_some_iff.mp h1).1; omega
    have nay : a ≠ y := fun e => by
      rw [e, N.h] at ha
      have e2 : rs.map V.ref = vI ks' := by injection ha with ha; injection ha
      have g1 : (rs.map V.ref)[0]? = some (.ref rs[0]) := by rw [List.getElem?_map, List.getElem?_eq_getElem h0]; rfl
      rw [e2] at g1
      obtain ⟨z, _, e3⟩ := vI_got g1
      cases e3
    rw [upd_ne nay]
    exact (Same.upd hl) _ _ ha
theorem narK_step {tss : List (List Int)} {ws : List Nat} {i v : Nat} (hv : ws[i]? = some v) (hl : v < tss.length) : (narK tss ws (ws.take i)).set v (narR tss ws v) = narK tss ws (ws.take (i + 1)) := by
  refine List.ext_getElem? fun j => ?_
  have tk : ∀ u, u ∈ ws.take (i + 1) ↔ u ∈ ws.take i ∨ u = v := fun u => by
    rw [List.take_add_one, hv, List.mem_append]
    simp
  by_cases hj : v = j
  · subst hj
    rw [List.getElem?_set_self (by rw [narK_len]; exact hl), narK_get hl, if_pos ((tk v).mpr (.inr rfl))]
  · rw [List.getElem?_set_ne hj]
    by_cases hjl : j < tss.length
    · rw [narK_get hjl, narK_get hjl]
      by_cases h : j ∈ ws.take i
      · rw [if_pos h, if_pos ((tk j).mpr (.inl h))]
      · rw [if_neg h, if_neg fun z => by
          rcases (tk j).mp z with z | z
          · exact h z
          · exact hj z.symm]
    · rw [List.getElem?_eq_none (by rw [narK_len]; omega), List.getElem?_eq_none (by rw [narK_len]; omega)]
theorem filt_step {α : Type} {l : List α} {p : α → Bool} {j : Nat} {z : α} (h : l[j]? = some z) : (l.take (j + 1)).filter p = (l.take j).filter p ++ (if p z = true then [z] else []) := by
  rw [List.take_add_one, h, List.filter_append]
  congr 1
  show List.filter p [z] = _
  by_cases h : p z = true
  · rw [if_pos h, List.filter_cons_of_pos h]; rfl
  · rw [if_neg h, List.filter_cons_of_neg h]; rfl
def sp_within (K : PySem.W.Frag) : Sp := fun vs H Q _ => ∃ (y b : Addr) (rs : List Addr) (tss : List (List Int)) (ws : List Nat), vs = [.ref y, .ref b] ∧ NL H y rs tss ∧ SqL K H b (vI (cI ws)) ∧ tss.length ≤ 200 ∧ (∀ v ∈ ws, v < tss.length) ∧ (∀ l ∈ tss, l.length ≤ 200) ∧ ws.length ≤ 1000 ∧
  ∀ (y' : Addr) (rs' : List Addr) (H' : Hp), Same H H' → NL H' y' rs' (nar tss ws) → Q (.ref y') H'
theorem ok_lower_within (T : Txt K mg t) : FnOk P w K mg base CX0 1 t.f_lower_within t.d_lower_within ["lower", "strands"] (sp_within K) := by
  refine T.lower_within.F.ok sc_lower_within (fun vs H Q E h => ?_) (fun cdv A outer s H vs Q E hr h => ?_)
  · obtain ⟨y, b, rs, tss, ws, rfl, _⟩ := h
    rfl
  · obtain ⟨y, b, rs, tss, ws, rfl, N, hB, t200, hlt, hrl, wl, k⟩ := h
    have hsz : sizeLine = 16777216 := sizeLine_eq
    have lrs := N.l
    refine ⟨_, (pss_cons (ps_setC (i := 2) (CompOk.mk (caps := []) (Nc := ["strand"]) rfl (by decide +kernel) (by decide +kernel) (comp_fr (sc0 := defScope s_lower_within) rfl (by decide +kernel)) rfl rfl rfl (by decide +kernel) (fun _ _ h => by simp at h)) rfl sc_lower_within.nd rfl rfl (pi_listK (K := K) (pv 0)) (fun _ _ _ _ _ => .nil) (fun _ _ _ _ _ => (pe_lst pa_nil)) rfl)
      (pss_cons (ps_for PassesOwn.never rfl (pi_listK (K := K) (pv 1)) (pg_name (i := 3) sc_lower_within.nd rfl (Or.inl rfl))
        (pss_one (ps_asg (pe_comp (CompOk.mk (caps := [1]) (Nc := ["other", "strands"]) rfl (by decide +kernel) (by decide +kernel) (comp_fr (sc0 := defScope s_lower_within) rfl (by decide +kernel)) rfl rfl rfl (by decide +kernel) (fun k j h => match k, h with | 0, h => by obtain rfl := Option.some.inj h; exact ⟨_, rfl, rfl, rfl⟩ | _ + 1, h => by simp at h)) rfl (pi_listK (K := K) (pe_ix (ix_listK (K := K)) (pv 0) (pv 3) (fun _ _ => rfl))) (fun _ _ _ _ _ => .one (pt_cmpR (op_in_seqK (K := K)) (pv 0) (pv 1) rfl)) (fun _ _ _ _ _ => (pv 0))) (pg_sub (pv 2) (pv 3) set_list))))
      (pss_one (ps_ret (pv 2))))), ?_⟩
    refine ⟨_, rfl, _, rfl, ⟨_, SqL.of N.h⟩, comp_list (K := K) (a := y) (xs := rs.map V.ref) (fun i ys H3 => ∃ rs' : List Addr, ys = rs'.map V.ref ∧ Same H H3 ∧ rs'.length = i ∧ ∀ r ∈ rs', H3 r = some (.lst [])) ⟨[], rfl, .refl _, rfl, fun r h => (by cases h)⟩ ?_ ?_ ?_ ?_⟩
    · rintro i ys H3 hi ⟨rs', rfl, s3, hl3, _⟩
      exact ⟨s3.seq (SqL.of N.h), by rw [List.length_map]; omega⟩
    · rw [List.length_map]; omega
    · rintro i x ys H3 hi hx ⟨rs', rfl, s3, hl3, hr3⟩
      refine CTurn.no ?_
      refine ⟨Nat.zero_le _, fun q hq => ?_⟩
      refine CN.of hi ⟨rs' ++ [q], by rw [List.map_append]; rfl, s3.new hq, by rw [List.length_append, hl3]; rfl, fun r hr' => ?_⟩
      rcases List.mem_append.mp hr' with h | h
      · exact (Same.upd hq) _ _ (hr3 r h)
      · rw [List.mem_singleton.mp h]; exact upd_same
    · rintro ys H3 p ⟨rs', rfl, s3, hl3, hr3⟩ np
      rw [List.length_map] at hl3
      have npH := s3.free np
      have s4 : Same H (upd H3 p (.lst (rs'.map V.ref))) := s3.new np
      have N4 : NL (upd H3 p (.lst (rs'.map V.ref))) p rs' (narK tss ws (ws.take 0)) := by
        refine ⟨upd_same, by rw [narK_len]; omega, fun i a ks h1 h2 => ?_⟩
        have hi := (List.getElem?_eq_some_iff.mp h2).1
        rw [narK_len] at hi
        rw [narK_get hi, List.take_zero, if_neg (by simp)] at h2
        cases h2
        exact (Same.upd np) _ _ (hr3 a (List.mem_of_getElem? h1))
      generalize upd H3 p (.lst (rs'.map V.ref)) = H4 at s4 N4 ⊢
      refine ⟨_, rfl, _, rfl, ⟨_, s4.seq hB⟩, for_list (K := K) (a := b) (xs := vI (cI ws)) (fun i σ H5 => ∃ (rs' : List Addr) (v3 : Option V), σ = [some (.ref y), some (.ref b), some (.ref p), v3] ∧ Same H H5 ∧ NL H5 p rs' (narK tss ws (ws.take i)))
        ⟨rs', none, rfl, s4, N4⟩ (fun i σ H5 _ ⟨_, _, _, s5, _⟩ => s5.seq hB) ?_ ?_⟩
      · rintro i x σ H5 hx ⟨rs', v3, rfl, s5, N5⟩
        obtain ⟨z, hz, rfl⟩ := vI_got hx
        unfold cI at hz
        rw [List.getElem?_map] at hz
        obtain ⟨v, hv, rfl⟩ : ∃ v, ws[i]? = some v ∧ (v : Int) = z := by
          cases e : ws[i]? with
          | none => rw [e] at hz; cases hz
          | some v => rw [e] at hz; exact ⟨v, rfl, Option.some.inj hz⟩
        have vl := hlt v (List.mem_of_getElem? hv)
        have vrs : v < rs.length := by omega
        have hrow := s5 _ _ (N.r v rs[v] tss[v] (List.getElem?_eq_getElem vrs) (List.getElem?_eq_getElem vl))
        have eg : tss.getD v [] = tss[v] := by rw [List.getD_eq_getElem?_getD, List.getElem?_eq_getElem vl]; rfl
        have lw := hrl tss[v] (List.getElem_mem vl)
        have au : atI (rs.map V.ref) (v : Int) = some (.ref rs[v]) := atI_of (by omega) (by rw [Int.toNat_natCast, List.getElem?_map, List.getElem?_eq_getElem vrs]; rfl)
        refine ⟨_, rfl, _, rfl, _, _, _, _, rfl, rfl, s5.seq (SqL.of N.h), au, _, rfl, ⟨_, SqL.of hrow⟩, comp_list (K := K) (a := rs[v]) (xs := vI tss[v]) (fun j ys H6 => H6 = H5 ∧ ys = vI ((tss[v].take j).filter fun z => decide (z ∈ cI ws))) ⟨rfl, rfl⟩ ?_ ?_ ?_ ?_⟩
        · rintro j ys H6 hj ⟨rfl, rfl⟩
          refine ⟨SqL.of hrow, ?_⟩
          rw [vI_len]
          have := List.length_filter_le (fun z => decide (z ∈ cI ws)) (tss[v].take j)
          rw [List.length_take] at this
          omega
        · rw [vI_len]; omega
        · rintro j xw ys H6 hj hxw ⟨rfl, rfl⟩
          obtain ⟨z, hz, rfl⟩ := vI_got hxw
          refine ⟨_, rfl, _, rfl, _, _, rfl, .inl (s5.seq hB), rfl, vI_flat _, _, rfl, ?_⟩
          show if (inV (.int z) (vI (cI ws))) = true then _ else _
          rw [inV_vI]
          have st := filt_step (p := fun z => decide (z ∈ cI ws)) hz
          refine ite2D (fun h => ?_) (fun h => ?_)
          · refine ⟨_, rfl, ?_⟩
            refine CN.of hj ⟨rfl, ?_⟩
            rw [st, if_pos (decide_eq_true h)]
            exact vI_app _ _
          · refine CN.of hj ⟨rfl, ?_⟩
            rw [st, decide_eq_false h, if_neg (by simp), List.append_nil]
        · rintro ys H6 q ⟨rfl, rfl⟩ hq
          rw [vI_len, List.take_length]
          have N6 := N5.put (v := v) (ks := narR tss ws v) hq
          have e6 : vI (tss[v].filter fun z => decide (z ∈ cI ws)) = vI (narR tss ws v) := by rw [narR, eg]
          rw [e6]
          have hp6 := (Same.upd (o := .lst (vI (narR tss ws v))) hq) _ _ N5.h
          refine ⟨_, rfl, _, rfl, _, _, _, _, rfl, rfl, hp6, ixN_of (by omega) (by rw [List.length_map, N5.l, narK_len]; omega), ?_⟩
          rw [Int.toNat_natCast]
          rw [narK_step hv vl] at N6
          exact ⟨rs'.set v q, _, rfl, (s5.new hq).over npH, N6⟩
      · rintro σ H5 ⟨rs', v3, rfl, s5, N5⟩
        rw [vI_len, cI_len, List.take_length] at N5
        exact ⟨_, rfl, k p rs' H5 s5 N5⟩
theorem kvs_isN {tss : List (List Int)} {s : Nat} {ps : List (Nat × Option Nat)} {dp : List Nat} (B : Bf tss s ps dp) (v : Nat) : (!(valV (kvs ps) (Sum.inl (v : Int))).isSome) = decide (v ∉ ps.map (·.1)) := by
  by_cases h : v ∈ ps.map (·.1)
  · obtain ⟨j, c, g⟩ := key_at h
    rw [B.val g, decide_eq_false (fun z => z h)]
    rfl
  · rw [kvs_none fun a ha => h (List.mem_map.mpr ⟨(v, a), ha, rfl⟩), decide_eq_true h]
    rfl
theorem cI_got {ws : List Nat} {i : Nat} {x : V} (h : (vI (cI ws))[i]? = some x) : ∃ v, ws[i]? = some v ∧ x = .int (v : Int) := by
  obtain ⟨z, hz, rfl⟩ := vI_got h
  unfold cI at hz
  rw [List.getElem?_map] at hz
  cases e : ws[i]? with
  | none => rw [e] at hz; cases hz
  | some v => rw [e] at hz; cases hz; exact ⟨v, rfl, rfl⟩
theorem nar_gd {tss : List (List Int)} {ws : List Nat} (h : ∀ v ∈ ws, v < tss.length) : Gd (nar tss ws) := fun v z hz => by
  obtain ⟨_, h1, _⟩ := mem_nar.mp hz
  obtain ⟨u, hu, rfl⟩ := List.mem_map.mp h1
  have := h u hu
  rw [nar, narK_len]
  show (0 : Int) ≤ (u : Int) ∧ (u : Int) < _
  omega
def sp_upper (K : PySem.W.Frag) : Sp := fun vs H Q _ => ∃ (y b : Addr) (rs : List Addr) (tss : List (List Int)) (ws : List Nat), vs = [.ref y, .ref b] ∧ NL H y rs (nar tss ws) ∧ SqL K H b (vI (cI ws)) ∧ tss.length ≤ 200 ∧ NS tss.length ws ∧
  (Conn tss ws → ∀ H', Same H H' → Q .non H') ∧ (¬ Conn tss ws → ∀ (l : Addr) (fs : List Nat) (H' : Hp), Same H H' → H l = none → H' l = some (.lst (vI (cI fs))) → Lf tss ws fs → Q (.ref l) H')
theorem ok_upper_part (T : Txt K mg t) : FnOk P w K mg base CX0 2 t.f_upper_part t.d_upper_part ["lower", "strands"] (sp_upper K) := by
  have G_ways_from : FnOk P w K mg base CX0 1 t.f_ways_from t.d_ways_from _ _ := ok_ways_from T
  refine T.upper_part.F.ok sc_upper_part (fun vs H Q E h => ?_) (fun cdv A outer s H vs Q E hr h => ?_)
  · obtain ⟨y, b, rs, tss, ws, rfl, _⟩ := h
    rfl
  · obtain ⟨y, b, rs, tss, ws, rfl, N, hB, t200, W, k1, k2⟩ := h
    have hsz : sizeLine = 16777216 := sizeLine_eq
    have wl := W.len
    have nl : (nar tss ws).length = tss.length := by rw [nar, narK_len]
    refine ⟨_, (pss_cons (ps_for PassesOwn.never rfl (pi_listK (K := K) (pv 1)) (pg_name (i := 2) sc_upper_part.nd rfl (Or.inl rfl))
        (pss_cons (ps_set (i := 3) sc_upper_part.nd rfl (Or.inr rfl) (pe_call (G_ways_from.mono (by decide)) hr rfl T.ways_from.m T.ways_from.F.kp T.ways_from.b .nil pass0 (pa_cons (pv 0) (pa_cons (pv 2) pa_nil))))
        (pss_one (ps_if (pt_cmpR op_lt (pe_callB call_lenD rfl T.b_len bt_len (pa_cons (pv 3) pa_nil)) (pe_callB (call_len_seqK (K := K)) rfl T.b_len bt_len (pa_cons (pv 1) pa_nil)) (nomark _))
          (pss_one (ps_ret (pe_comp (CompOk.mk (caps := [3]) (Nc := ["strand", "ahead"]) rfl (by decide +kernel) (by decide +kernel) (comp_fr (sc0 := defScope s_upper_part) rfl (by decide +kernel)) rfl rfl rfl (by decide +kernel) (fun k j h => match k, h with | 0, h => by obtain rfl := Option.some.inj h; exact ⟨_, rfl, rfl, rfl⟩ | _ + 1, h => by simp at h)) rfl (pi_listK (K := K) (pv 1)) (fun _ _ _ _ _ => .one (pt_cmp (pc_dnotin (hu_of hr) (pv 0) (pv 1)))) (fun _ _ _ _ _ => (pv 0)))))
          pss_nil))))
      (pss_one (ps_ret pe_non))), ?_⟩
    refine ⟨_, rfl, _, rfl, ⟨_, hB⟩, for_list (K := K) (a := b) (xs := vI (cI ws)) (fun i σ H5 => ∃ (v2 v3 : Option V), σ = [some (.ref y), some (.ref b), v2, v3] ∧ Same H H5 ∧ ∀ u ∈ ws.take i, ∀ v ∈ ws, ∃ L, Wy (nar tss ws) u L v)
      ⟨none, none, rfl, .refl _, fun u h => (by simp at h)⟩ (fun i σ H5 _ ⟨_, _, _, s5, _⟩ => s5.seq hB) ?_ ?_⟩
    · rintro i x σ H5 hx ⟨v2, v3, rfl, s5, hall⟩
      obtain ⟨u, hu, rfl⟩ := cI_got hx
      have um := List.mem_of_getElem? hu
      refine ⟨_, rfl, _, rfl, y, rs, nar tss ws, u, rfl, N.same s5, nar_gd W.lt, by omega, by rw [nl]; exact W.lt u um, fun d ps dp H6 s6 nd hd B D => ?_⟩
      have u6 := s5.trans s6
      refine ⟨_, rfl, d, _, rfl, hd, _, rfl, _, _, rfl, .inl (u6.seq hB), _, _, rfl, rfl, _, rfl, ?_⟩
      rw [kvs_len, vI_len, cI_len]
      refine ite2D (fun h => ?_) (fun h => ?_)
      · obtain ⟨nc, L⟩ := B.lift D W um (by omega)
        refine ⟨_, rfl, _, rfl, ⟨_, u6.seq hB⟩, comp_list (K := K) (a := b) (xs := vI (cI ws)) (fun j ys H7 => H7 = H6 ∧ ys = vI (cI ((ws.take j).filter fun v => decide (v ∉ ps.map (·.1))))) ⟨rfl, rfl⟩ ?_ ?_ ?_ ?_⟩
        · rintro j ys H7 hj ⟨rfl, rfl⟩
          refine ⟨u6.seq hB, ?_⟩
          rw [vI_len, cI_len]
          have := List.length_filter_le (fun v => decide (v ∉ ps.map (·.1))) (ws.take j)
          rw [List.length_take] at this
          omega
        · rw [vI_len, cI_len]; omega
        · rintro j xw ys H7 hj hxw ⟨rfl, rfl⟩
          obtain ⟨v, hv, rfl⟩ := cI_got hxw
          refine ⟨_, rfl, _, rfl, d, _, rfl, DGet.k (k := Sum.inl (v : Int)) hd, _, rfl, ?_⟩
          rw [kvs_isN B]
          have st := filt_step (p := fun v => decide (v ∉ ps.map (·.1))) hv
          refine ite2D (fun h => ?_) (fun h => ?_)
          · refine ⟨_, rfl, ?_⟩
            refine CN.of hj ⟨rfl, ?_⟩
            rw [st, if_pos (decide_eq_true h)]
            unfold cI
            rw [List.map_append]
            exact vI_app _ _
          · refine CN.of hj ⟨rfl, ?_⟩
            rw [st, decide_eq_false h, if_neg (by simp), List.append_nil]
        · rintro ys H7 q ⟨rfl, rfl⟩ hq
          rw [vI_len, cI_len, List.take_length]
          exact k2 nc q _ _ (u6.new hq) (u6.free hq) upd_same L
      · refine ⟨_, _, rfl, u6, fun u' hu' v hv => ?_⟩
        rw [List.take_add_one, hu] at hu'
        rcases List.mem_append.mp hu' with h' | h'
        · exact hall u' h' v hv
        · have e : u' = u := by simpa using h'
          subst e
          obtain ⟨j, c, g⟩ := B.full um (by omega) v hv
          have hj : j < dp.length := by rw [B.len]; exact (List.getElem?_eq_some_iff.mp g).1
          exact ⟨_, (B.sound j v c dp[j] g (List.getElem?_eq_getElem hj)).1⟩
    · rintro σ H5 ⟨v2, v3, rfl, s5, hall⟩
      rw [vI_len, cI_len, List.take_length] at hall
      exact k1 hall H5 s5
theorem lows_gd {cl : List (List Nat)} {m n : Nat} (C : Cl cl m n) : Gd (lows cl m) := fun v z hz => by
  have hn := C.hn
  have ll := lows_len cl m
  by_cases h : v < m + cl.length
  · by_cases h1 : v < m
    · rw [List.getD_eq_getElem?_getD, lows_end h1] at hz
      obtain ⟨p, hp, _, e⟩ := mem_lowE.mp hz
      rw [ll, e]
      omega
    · have e : v = m + (v - m) := by omega
      have hp : v - m < cl.length := by omega
      rw [e, List.getD_eq_getElem?_getD, lows_pick hp] at hz
      obtain ⟨q, hq, _, e⟩ := mem_lowP.mp hz
      rw [ll, e]
      omega
  · rw [List.getD_eq_getElem?_getD, List.getElem?_eq_none (by rw [ll]; omega)] at hz
    simp at hz
structure Shortest (tss : List (List Int)) (u v : Nat) (ws : List Nat) (x : Nat) : Prop where
  len : ws.length = x + 1
  fst : ws[0]? = some u
  lst : ws[x]? = some v
  pth : Pth tss ws
  lt : ∀ z ∈ ws, z < tss.length
  wy : Wy tss u x v
  min : ∀ L, Wy tss u L v → x ≤ L
  small : x < tss.length
def sp_between (K : PySem.W.Frag) (t : Adr) : Sp := fun vs H Q E => ∃ (a : Addr) (cl : List (List Nat)) (m n : Nat) (i j : Int), vs = [.ref a, .int i, .int j] ∧ SqL K H a (vS cl) ∧ Cl cl m n ∧
  (∀ u v : Nat, i = (u : Int) → j = (v : Int) → u < m + n → v < m + n → ((∀ L, ¬ Wy (lows cl m) u L v) → ∀ H', Same H H' → Q .non H') ∧ (∀ (l : Addr) (ws : List Nat) (x : Nat) (H' : Hp), Same H H' → H l = none → H' l = some (.lst (vW ws)) → Shortest (lows cl m) u v ws x → Q (.ref l) H')) ∧
  (¬ ((0 ≤ i ∧ i < (m : Int) + (n : Int)) ∧ (0 ≤ j ∧ j < (m : Int) + (n : Int))) → ∀ H', Same H H' → E (.ref t.e_NoStrand) none H')
theorem ok_way_between (T : Txt K mg t) : FnOk P w K mg base (CX1 P w) 4 t.f_way_between t.d_way_between ["cloth", "one", "other"] (sp_between K t) := by
  have G_measured : FnOk P w K mg base CX0 3 t.f_measured t.d_measured _ _ := ok_measured T
  have G_check_strand : FnOk P w K mg base (CX1 P w) 1 t.f_check_strand t.d_check_strand _ _ := ok_check_strand T
  have G_lower_strands : FnOk P w K mg base CX0 1 t.f_lower_strands t.d_lower_strands _ _ := ok_lower_strands T
  have G_ways_from : FnOk P w K mg base CX0 1 t.f_ways_from t.d_ways_from _ _ := ok_ways_from T
  have G_way_to : FnOk P w K mg base CX0 1 t.f_way_to t.d_way_to _ _ := ok_way_to T
  refine T.way_between.F.okX sc_way_between (fun vs H Q E h => ?_) (fun cdv A outer s H vs Q E hr h => ?_)
  · obtain ⟨a, cl, m, n, i, j, rfl, _⟩ := h
    rfl
  · obtain ⟨a, cl, m, n, i, j, rfl, hS, C, k1, k2⟩ := h
    have m40 := C.m40
    have n40 := C.n40
    have ll : (lows cl m).length = m + n := by rw [lows_len, C.hn]
    refine ⟨_, (pss_cons (ps_set (i := 3) sc_way_between.nd rfl (Or.inl rfl) (pe_call (G_measured.mono (by decide)) hr rfl T.measured.m T.measured.F.kp T.measured.b .nil pass0 (pa_cons (pv 0) pa_nil)))
      (pss_cons (ps_expr (pe_call (G_check_strand.mono (by decide)) hr rfl T.check_strand.m T.check_strand.F.kp T.check_strand.b .nil pass1 (pa_cons (pv 1) (pa_cons (pe_op op_add (pe_ix (ix_tupK (K := K)) (pv 3) pe_int (fun _ _ => rfl)) (pe_ix (ix_tupK (K := K)) (pv 3) pe_int (fun _ _ => rfl))) pa_nil))))
      (pss_cons (ps_expr (pe_call (G_check_strand.mono (by decide)) hr rfl T.check_strand.m T.check_strand.F.kp T.check_strand.b .nil pass1 (pa_cons (pv 2) (pa_cons (pe_op op_add (pe_ix (ix_tupK (K := K)) (pv 3) pe_int (fun _ _ => rfl)) (pe_ix (ix_tupK (K := K)) (pv 3) pe_int (fun _ _ => rfl))) pa_nil))))
      (pss_cons (ps_set (i := 4) sc_way_between.nd rfl (Or.inl rfl) (pe_call (G_ways_from.mono (by decide)) hr rfl T.ways_from.m T.ways_from.F.kp T.ways_from.b .nil pass0 (pa_cons (pe_call (G_lower_strands.mono (by decide)) hr rfl T.lower_strands.m T.lower_strands.F.kp T.lower_strands.b .nil pass0 (pa_cons (pv 0) pa_nil)) (pa_cons (pv 1) pa_nil))))
      (pss_cons (ps_if (pt_cmp (pc_dnotin (hu_of hr) (pv 2) (pv 4)))
        (pss_one (ps_ret pe_non))
        pss_nil)
      (pss_one (ps_ret (pe_call (G_way_to.mono (by decide)) hr rfl T.way_to.m T.way_to.F.kp T.way_to.b .nil pass0 (pa_cons (pv 4) (pa_cons (pv 2) pa_nil)))))))))), ?_⟩
    refine ⟨_, rfl, a, cl, m, n, rfl, hS, C, fun p np => ?_⟩
    have s1 : Same H (upd H p (.tup [.int (m : Int), .int (n : Int)])) := .upd np
    have hp1 : (upd H p (.tup [.int (m : Int), .int (n : Int)])) p = some (.tup [.int (m : Int), .int (n : Int)]) := upd_same
    generalize upd H p (.tup [.int (m : Int), .int (n : Int)]) = H1 at s1 hp1 ⊢
    have t0 : atI [V.int (m : Int), V.int (n : Int)] 0 = some (.int (m : Int)) := atI_of (by decide) rfl
    have t1 : atI [V.int (m : Int), V.int (n : Int)] 1 = some (.int (n : Int)) := atI_of (by decide) rfl
    refine ⟨_, rfl, _, rfl, _, _, _, _, rfl, rfl, SqT.of hp1, t0, _, rfl, _, _, _, _, rfl, rfl, SqT.of hp1, t1, _, _, rfl, rfl, i, (m : Int) + (n : Int), rfl, fun gi => ?_, fun b => k2 (fun z => b z.1) H1 s1⟩
    refine ⟨_, rfl, _, rfl, _, _, _, _, rfl, rfl, SqT.of hp1, t0, _, rfl, _, _, _, _, rfl, rfl, SqT.of hp1, t1, _, _, rfl, rfl, j, (m : Int) + (n : Int), rfl, fun gj => ?_, fun b => k2 (fun z => b z.2) H1 s1⟩
    obtain ⟨u, rfl⟩ : ∃ u : Nat, i = (u : Int) := ⟨i.toNat, by omega⟩
    obtain ⟨v, rfl⟩ : ∃ v : Nat, j = (v : Int) := ⟨j.toNat, by omega⟩
    obtain ⟨kn, ks⟩ := k1 u v rfl rfl (by omega) (by omega)
    refine ⟨_, rfl, a, cl, m, n, rfl, s1.seq hS, C, fun y rs H2 s2 N => ?_⟩
    refine ⟨_, rfl, y, rs, lows cl m, u, rfl, N, lows_gd C, by omega, by omega, fun d ps dp H3 s3 nd hd B D => ?_⟩
    have u3 := s1.trans (s2.trans s3)
    refine ⟨_, rfl, _, rfl, d, _, rfl, DGet.k (k := Sum.inl (v : Int)) hd, _, rfl, ?_⟩
    by_cases hin : ∃ (jj : Nat) (c : Option Nat), ps[jj]? = some (v, c)
    · obtain ⟨jj, c, g⟩ := hin
      have hj : jj < dp.length := by rw [B.len]; exact (List.getElem?_eq_some_iff.mp g).1
      have gd := List.getElem?_eq_getElem hj
      generalize dp[jj] = x at gd
      obtain ⟨w1, w2⟩ := B.sound jj v c x g gd
      have sm := B.small
      rw [B.val g]
      refine iteF ?_
      refine ⟨_, rfl, _, rfl, d, lows cl m, u, v, jj, x, c, ps, dp, rfl, hd, B, by omega, g, gd, fun l ws H4 s4 nl hl e1 e2 e3 e4 e5 => ?_⟩
      refine ks l ws x H4 (u3.trans s4) (u3.free nl) hl ⟨e1, e2, e3, e4, e5, w1, fun L hL => ?_, ?_⟩
      · obtain ⟨j', c', x', q1, q2, q3⟩ := B.reach D L v hL
        have := B.nd jj j' v c c' g q1
        subst this
        rw [gd] at q2
        cases q2
        exact q3
      · have := (List.getElem?_eq_some_iff.mp g).1
        omega
    · have hno : valV (kvs ps) (Sum.inl (v : Int)) = none := kvs_none fun a ha => by
        obtain ⟨j', hj, e⟩ := List.getElem_of_mem ha
        exact hin ⟨j', a, by rw [← e]; exact List.getElem?_eq_getElem hj⟩
      rw [hno]
      refine iteT ?_
      refine kn (fun L hL => ?_) H3 u3
      obtain ⟨j', c', x', q1, _⟩ := B.reach D L v hL
      exact hin ⟨j', c', q1⟩
end
end Mine
set_option Elab.async false
set_option linter.all false
set_option maxRecDepth 100000
set_option maxHeartbeats 4000000
namespace Mine
open PySem L2
section
variable {P : Program} {w : World} {K : PySem.W.Frag} {mg : Str → Option Value} {base : Heap} {t : Adr}
theorem notIn_dec (z : Int) (ks : List Int) : (!inV (.int z) (vI ks)) = decide (z ∉ ks) := by
  rw [inV_vI]
  by_cases h : z ∈ ks
  · rw [decide_eq_true h, decide_eq_false (fun c => c h)]; rfl
  · rw [decide_eq_false h, decide_eq_true h]; rfl
theorem lows_short {cl : List (List Nat)} {m n : Nat} (C : Cl cl m n) : ∀ l ∈ lows cl m, l.length ≤ 200 := fun l hl => by
  have c2 := C.n40
  have c4 := C.m40
  obtain ⟨so, hsl, e⟩ := List.getElem_of_mem hl
  have hso := hsl
  rw [lows_len, C.hn] at hso
  rw [← e]
  by_cases hsm : so < m
  · have e := lows_end (cl := cl) hsm
    rw [List.getElem?_eq_getElem hsl] at e
    rw [Option.some.inj e]
    have := lowE_len cl m so cl.length
    rw [C.hn] at this ⊢
    omega
  · have hpl : so - m < cl.length := by rw [C.hn]; omega
    have e := lows_pick (m := m) hpl
    rw [show m + (so - m) = so by omega, List.getElem?_eq_getElem hsl] at e
    rw [Option.some.inj e]
    have := lowP_len cl[so - m] m
    omega
def sp_web (K : PySem.W.Frag) (t : Adr) : Sp := fun vs H Q E => ∃ (a b : Addr) (cl : List (List Nat)) (m n : Nat) (ks : List Int), vs = [.ref a, .ref b] ∧ SqL K H a (vS cl) ∧ Cl cl m n ∧ SqL K H b (vI ks) ∧ ks.length ≤ 1000 ∧
  (∀ ws, ks = cI ws → NS (m + n) ws → ∀ (y : Addr) (rs : List Addr) (H' : Hp), Same H H' → NL H' y rs (nar (lows cl m) ws) → Q (.ref y) H') ∧
  (¬ GoodSet ((m + n : Nat) : Int) ks → ∀ H', Same H H' → E (.ref t.e_NoStrand) none H')
theorem ok_web_of_set (T : Txt K mg t) : FnOk P w K mg base (CX1 P w) 4 t.f_web_of_set t.d_web_of_set ["cloth", "strands"] (sp_web K t) := by
  have G_measured : FnOk P w K mg base CX0 3 t.f_measured t.d_measured _ _ := ok_measured T
  have G_check_set : FnOk P w K mg base (CX1 P w) 2 t.f_check_set t.d_check_set _ _ := ok_check_set T
  have G_lower_strands : FnOk P w K mg base CX0 1 t.f_lower_strands t.d_lower_strands _ _ := ok_lower_strands T
  have G_lower_within : FnOk P w K mg base CX0 1 t.f_lower_within t.d_lower_within _ _ := ok_lower_within T
  refine T.web_of_set.F.okX sc_web_of_set (fun vs H Q E h => ?_) (fun cdv A outer s H vs Q E hr h => ?_)
  · obtain ⟨a, b, cl, m, n, ks, rfl, _⟩ := h
    rfl
  · obtain ⟨a, b, cl, m, n, ks, rfl, hS, C, hB, hkl, k1, k2⟩ := h
    have c2 := C.n40
    have c4 := C.m40
    have ll : (lows cl m).length = m + n := by rw [lows_len, C.hn]
    refine ⟨_, (pss_cons (ps_set (i := 2) sc_web_of_set.nd rfl (Or.inl rfl) (pe_call (G_measured.mono (by decide)) hr rfl T.measured.m T.measured.F.kp T.measured.b .nil pass0 (pa_cons (pv 0) pa_nil)))
      (pss_cons (ps_expr (pe_call (G_check_set.mono (by decide)) hr rfl T.check_set.m T.check_set.F.kp T.check_set.b .nil pass1 (pa_cons (pv 1) (pa_cons (pe_op op_add (pe_ix (ix_tupK (K := K)) (pv 2) pe_int (fun _ _ => rfl)) (pe_ix (ix_tupK (K := K)) (pv 2) pe_int (fun _ _ => rfl))) pa_nil))))
      (pss_one (ps_ret (pe_call (G_lower_within.mono (by decide)) hr rfl T.lower_within.m T.lower_within.F.kp T.lower_within.b .nil pass0 (pa_cons (pe_call (G_lower_strands.mono (by decide)) hr rfl T.lower_strands.m T.lower_strands.F.kp T.lower_strands.b .nil pass0 (pa_cons (pv 0) pa_nil)) (pa_cons (pv 1) pa_nil))))))), ?_⟩
    refine ⟨_, rfl, a, cl, m, n, rfl, hS, C, fun p hp => ?_⟩
    have s1 : Same H (upd H p (.tup [.int (m : Int), .int (n : Int)])) := .upd hp
    have gp : SqT K (upd H p (.tup [.int (m : Int), .int (n : Int)])) p [.int (m : Int), .int (n : Int)] := SqT.of upd_same
    refine ⟨_, rfl, _, rfl, _, _, _, _, rfl, rfl, gp, atI_of (by decide) rfl, _, rfl, _, _, _, _, rfl, rfl, gp, atI_of (by decide) rfl, _, _, rfl, rfl, b, ks, (m : Int) + (n : Int), rfl, s1.seq hB, hkl, fun hg => ?_, fun hb => k2 (fun z => hb (by rw [show (m : Int) + (n : Int) = ((m + n : Nat) : Int) by omega]; exact z)) _ s1⟩
    rw [show (m : Int) + (n : Int) = ((m + n : Nat) : Int) by omega] at hg
    obtain ⟨ws, rfl, W⟩ := ns_of hg
    have wl := W.len
    refine ⟨_, rfl, a, cl, m, n, rfl, s1.seq hS, C, fun y rs H2 s2 N => ?_⟩
    have u2 := s1.trans s2
    refine ⟨_, rfl, y, b, rs, lows cl m, ws, rfl, N, u2.seq hB, by omega, fun v hv => by rw [ll]; exact W.lt v hv, lows_short C, by omega, fun y' rs' H3 s3 N3 => ?_⟩
    exact k1 ws rfl W y' rs' H3 (u2.trans s3) N3
def sp_lifted (K : PySem.W.Frag) (t : Adr) : Sp := fun vs H Q E => ∃ (a b : Addr) (cl : List (List Nat)) (m n : Nat) (ks : List Int), vs = [.ref a, .ref b] ∧ SqL K H a (vS cl) ∧ Cl cl m n ∧ SqL K H b (vI ks) ∧ ks.length ≤ 1000 ∧
  (∀ ws, ks = cI ws → NS (m + n) ws → (Conn (lows cl m) ws → ∀ H', Same H H' → Q .non H') ∧ (¬ Conn (lows cl m) ws → ∀ (l : Addr) (fs : List Nat) (H' : Hp), Same H H' → H l = none → H' l = some (.lst (vI (cI fs))) → Lf (lows cl m) ws fs → Q (.ref l) H')) ∧
  (¬ GoodSet ((m + n : Nat) : Int) ks → ∀ H', Same H H' → E (.ref t.e_NoStrand) none H')
theorem ok_lifted_off (T : Txt K mg t) : FnOk P w K mg base (CX1 P w) 5 t.f_lifted_off t.d_lifted_off ["cloth", "strands"] (sp_lifted K t) := by
  have G_upper_part : FnOk P w K mg base CX0 2 t.f_upper_part t.d_upper_part _ _ := ok_upper_part T
  have G_web_of_set : FnOk P w K mg base (CX1 P w) 4 t.f_web_of_set t.d_web_of_set _ _ := ok_web_of_set T
  refine T.lifted_off.F.okX sc_lifted_off (fun vs H Q E h => ?_) (fun cdv A outer s H vs Q E hr h => ?_)
  · obtain ⟨a, b, cl, m, n, ks, rfl, _⟩ := h
    rfl
  · obtain ⟨a, b, cl, m, n, ks, rfl, hS, C, hB, hkl, k1, k2⟩ := h
    have c2 := C.n40
    have c4 := C.m40
    have ll : (lows cl m).length = m + n := by rw [lows_len, C.hn]
    refine ⟨_, (pss_one (ps_ret (pe_call (G_upper_part.mono (by decide)) hr rfl T.upper_part.m T.upper_part.F.kp T.upper_part.b .nil pass0 (pa_cons (pe_call (G_web_of_set.mono (by decide)) hr rfl T.web_of_set.m T.web_of_set.F.kp T.web_of_set.b .nil pass1 (pa_cons (pv 0) (pa_cons (pv 1) pa_nil))) (pa_cons (pv 1) pa_nil))))), ?_⟩
    refine ⟨_, rfl, _, rfl, a, b, cl, m, n, ks, rfl, hS, C, hB, hkl, fun ws e W y rs H1 s1 N => ?_, fun hn H1 s1 => k2 hn H1 s1⟩
    subst e
    obtain ⟨q1, q2⟩ := k1 ws rfl W
    exact ⟨_, rfl, y, b, rs, lows cl m, ws, rfl, N, s1.seq hB, by omega, by rw [ll]; exact W, fun hc H2 s2 => q1 hc H2 (s1.trans s2), fun hc l fs H2 s2 nl hl L => q2 hc l fs H2 (s1.trans s2) (s1.free nl) hl L⟩
theorem cut_from1 {xs : List V} (h : 1 ≤ xs.length) : cutV xs (some 1) none = xs.drop 1 := by
  unfold cutV
  have e1 : HT.sIx xs.length 0 (some (1 : Int)) = 1 := by
    have := HT.sIx_nat xs.length 0 1
    rw [Nat.min_eq_left h] at this
    exact this
  have e2 : HT.sIx xs.length xs.length none = xs.length := rfl
  rw [e1, e2]
  exact List.take_of_length_le (by rw [List.length_drop]; omega)
theorem cut_mid {xs : List V} (h : 1 ≤ xs.length) : cutV xs (some 1) (some (-1)) = (xs.drop 1).dropLast := by
  unfold cutV
  have e1 : HT.sIx xs.length 0 (some (1 : Int)) = 1 := by
    have := HT.sIx_nat xs.length 0 1
    rw [Nat.min_eq_left h] at this
    exact this
  have e2 : HT.sIx xs.length xs.length (some (-1)) = xs.length - 1 := by
    show (if (-1 : Int) < 0 then ((-1 : Int) + (xs.length : Int)).toNat else min (-1 : Int).toNat xs.length) = _
    rw [if_pos (by decide)]
    omega
  rw [e1, e2, List.dropLast_eq_take, List.length_drop]
theorem vW_drop (ws : List Nat) (k : Nat) : (vW ws).drop k = vW (ws.drop k) := by unfold vW vI; rw [List.map_drop, List.map_drop]
theorem vW_dropLast (ws : List Nat) : (vW ws).dropLast = vW ws.dropLast := by unfold vW vI; rw [List.map_dropLast, List.map_dropLast]
theorem vW_two (a b : List Nat) : vW a ++ vW b = vW (a ++ b) := by unfold vW vI; rw [List.map_append, List.map_append]
theorem vW_flat (ws : List Nat) : (vW ws).all flatV = true := vI_flat _
theorem Bf.way {tss : List (List Int)} {ws : List Nat} {s : Nat} {ps : List (Nat × Option Nat)} {dp : List Nat} (B : Bf (nar tss ws) s ps dp) (D : Dn (nar tss ws) ps dp ps.length) (hc : Conn tss ws) (hs : s ∈ ws) {v : Nat} (hv : v ∈ ws) : ∃ (j : Nat) (c : Option Nat) (x : Nat), ps[j]? = some (v, c) ∧ dp[j]? = some x ∧ x + 1 ≤ ws.length := by
  obtain ⟨L, hL⟩ := hc s hs v hv
  obtain ⟨j, c, x, g1, g2, _⟩ := B.reach D L v hL
  have h1 := (B.sound j v c x g1 g2).2
  have h2 := (List.getElem?_eq_some_iff.mp g1).1
  have h3 := B.few hs
  exact ⟨j, c, x, g1, g2, by omega⟩
def sp_round (K : PySem.W.Frag) (t : Adr) : Sp := fun vs H Q E => ∃ (a b : Addr) (cl : List (List Nat)) (m n : Nat) (ks : List Int), vs = [.ref a, .ref b] ∧ SqL K H a (vS cl) ∧ Cl cl m n ∧ SqL K H b (vI ks) ∧ ks.length ≤ 1000 ∧
  (∀ ws, ks = cI ws → NS (m + n) ws → (¬ Conn (lows cl m) ws → ∀ H', Same H H' → Q .non H') ∧ (Conn (lows cl m) ws → ∀ (l : Addr) (fs : List Nat) (H' : Hp), Same H H' → H l = none → H' l = some (.lst (vI (cI fs))) → Rd (lows cl m) ws fs → Q (.ref l) H')) ∧
  (¬ GoodSet ((m + n : Nat) : Int) ks → ∀ H', Same H H' → E (.ref t.e_NoStrand) none H')
theorem ok_round_way (T : Txt K mg t) : FnOk P w K mg base (CX1 P w) 5 t.f_round_way t.d_round_way ["cloth", "strands"] (sp_round K t) := by
  have G_upper_part : FnOk P w K mg base CX0 2 t.f_upper_part t.d_upper_part _ _ := ok_upper_part T
  have G_web_of_set : FnOk P w K mg base (CX1 P w) 4 t.f_web_of_set t.d_web_of_set _ _ := ok_web_of_set T
  have G_ways_from : FnOk P w K mg base CX0 1 t.f_ways_from t.d_ways_from _ _ := ok_ways_from T
  have G_way_to : FnOk P w K mg base CX0 1 t.f_way_to t.d_way_to _ _ := ok_way_to T
  refine T.round_way.F.okX sc_round_way (fun vs H Q E h => ?_) (fun cdv A outer s H vs Q E hr h => ?_)
  · obtain ⟨a, b, cl, m, n, ks, rfl, _⟩ := h
    rfl
  · obtain ⟨a, b, cl, m, n, ks, rfl, hS, C, hB, hkl, k1, k2⟩ := h
    have hsz : sizeLine = 16777216 := sizeLine_eq
    have c2 := C.n40
    have c4 := C.m40
    have ll : (lows cl m).length = m + n := by rw [lows_len, C.hn]
    refine ⟨_, (pss_cons (ps_set (i := 2) sc_round_way.nd rfl (Or.inl rfl) (pe_call (G_web_of_set.mono (by decide)) hr rfl T.web_of_set.m T.web_of_set.F.kp T.web_of_set.b .nil pass1 (pa_cons (pv 0) (pa_cons (pv 1) pa_nil))))
      (pss_cons (ps_if (pt_cmpR op_notN (pe_call (G_upper_part.mono (by decide)) hr rfl T.upper_part.m T.upper_part.F.kp T.upper_part.b .nil pass0 (pa_cons (pv 2) (pa_cons (pv 1) pa_nil))) pe_non (nomark _))
        (pss_one (ps_ret pe_non))
        pss_nil)
      (pss_cons (ps_set (i := 3) sc_round_way.nd rfl (Or.inl rfl) (pe_lst (pa_cons (pe_ix (ix_listK (K := K)) (pv 1) pe_int (fun _ _ => rfl)) pa_nil)))
      (pss_cons (PS.nox (ps_for PassesOwn.never rfl (pi_listK (K := K) (pe_slice (sl_listK (K := K)) (pv 1) (po_some pe_int) po_none)) (pg_name (i := 4) sc_round_way.nd rfl (Or.inl rfl))
        (pss_one (ps_if (pt_cmpR (op_notIn_seqK (K := K)) (pv 4) (pv 3) rfl)
          (pss_one (ps_expr (pe_bmK (K := K) PySem.F.plainAttrs_list PySem.F.slot_list_extend PySem.F.type_list_extend mt_extend (pv 3) (pa_cons (pe_slice (sl_listK (K := K)) (pe_call (G_way_to.mono (by decide)) hr rfl T.way_to.m T.way_to.F.kp T.way_to.b .nil pass0 (pa_cons (pe_call (G_ways_from.mono (by decide)) hr rfl T.ways_from.m T.ways_from.F.kp T.ways_from.b .nil pass0 (pa_cons (pv 2) (pa_cons (pe_ix (ix_listK (K := K)) (pv 3) (pe_un un_neg pe_int) (fun _ _ => rfl)) pa_nil))) (pa_cons (pv 4) pa_nil))) (po_some pe_int) po_none) pa_nil))))
          pss_nil))))
      (pss_cons (ps_expr (pe_bmK (K := K) PySem.F.plainAttrs_list PySem.F.slot_list_extend PySem.F.type_list_extend mt_extend (pv 3) (pa_cons (pe_slice (sl_listK (K := K)) (pe_call (G_way_to.mono (by decide)) hr rfl T.way_to.m T.way_to.F.kp T.way_to.b .nil pass0 (pa_cons (pe_call (G_ways_from.mono (by decide)) hr rfl T.ways_from.m T.ways_from.F.kp T.ways_from.b .nil pass0 (pa_cons (pv 2) (pa_cons (pe_ix (ix_listK (K := K)) (pv 3) (pe_un un_neg pe_int) (fun _ _ => rfl)) pa_nil))) (pa_cons (pe_ix (ix_listK (K := K)) (pv 1) pe_int (fun _ _ => rfl)) pa_nil))) (po_some pe_int) (po_some (pe_un un_neg pe_int))) pa_nil)))
      (pss_one (ps_ret (pv 3)))))))), ?_⟩
    refine ⟨_, rfl, _, rfl, a, b, cl, m, n, ks, rfl, hS, C, hB, hkl, fun ws e W y rs H1 s1 N => ?_, fun hn H1 s1 => k2 hn H1 s1⟩
    subst e
    obtain ⟨q1, q2⟩ := k1 ws rfl W
    clear k1 k2
    have wlen := W.len
    have nl : (nar (lows cl m) ws).length = m + n := by rw [nar, narK_len, ll]
    refine ⟨_, rfl, _, rfl, y, b, rs, lows cl m, ws, rfl, N, s1.seq hB, by omega, by rw [ll]; exact W, fun hc H2 s2 => ?_, fun hc l fs H2 s2 nl hl L => ?_⟩
    rotate_left
    · refine ⟨rfl, _, rfl, ?_⟩
      refine iteNp (fun z => nomatch z) ?_
      exact q1 hc H2 (s1.trans s2)
    refine ⟨rfl, _, rfl, ?_⟩
    refine iteNS rfl ?_
    have u2 := s1.trans s2
    have N2 := N.same s2
    have hB2 := u2.seq hB
    have w0 : 0 < ws.length := List.length_pos_iff.mpr W.ne
    obtain ⟨f, hf⟩ : ∃ f, ws[0]? = some f := ⟨_, List.getElem?_eq_getElem w0⟩
    have fm := List.mem_of_getElem? hf
    have at0 : atI (vI (cI ws)) 0 = some (.int (f : Int)) := atI_of (by decide) (vW_get (ws := ws) hf)
    refine ⟨_, rfl, _, _, _, _, rfl, rfl, hB2, at0, (by show 1 ≤ sizeLine; decide), fun q nq => ?_⟩
    have s3 : Same H2 (upd H2 q (.lst [.int (f : Int)])) := .upd nq
    have hq3 : (upd H2 q (.lst [.int (f : Int)])) q = some (.lst (vW [f])) := upd_same
    generalize upd H2 q (.lst [.int (f : Int)]) = H3 at s3 hq3 ⊢
    have gd : Gd (nar (lows cl m) ws) := nar_gd fun v hv => by rw [ll]; exact W.lt v hv
    refine ⟨_, rfl, _, rfl, _, _, rfl, s3.seq hB2, fun lc nlc => ?_⟩
    rw [cut_from1 (by rw [vI_len, cI_len]; omega)]
    rw [show (vI (cI ws)).drop 1 = vI (cI (ws.drop 1)) from vW_drop ws 1]
    have s4 : Same H2 (upd H3 lc (.lst (vI (cI (ws.drop 1))))) := s3.new nlc
    have hq4 := (Same.upd (o := .lst (vI (cI (ws.drop 1)))) nlc) _ _ hq3
    have hlc4 : (upd H3 lc (.lst (vI (cI (ws.drop 1))))) lc = some (.lst (vI (cI (ws.drop 1)))) := upd_same
    have qlc : lc ≠ q := fun e => by rw [e, hq3] at nlc; cases nlc
    generalize upd H3 lc (.lst (vI (cI (ws.drop 1)))) = H4 at s4 hq4 hlc4 ⊢
    refine ⟨_, rfl, ⟨_, SqL.of hlc4⟩, for_list (K := K) (a := lc) (xs := vI (cI (ws.drop 1))) (fun i σ H5 => ∃ (as bs : List Nat) (c : Nat) (v4 : Option V), σ = [some (.ref a), some (.ref b), some (.ref y), some (.ref q), v4] ∧ Same H2 H5 ∧ H5 q = some (.lst (vW as)) ∧ H5 lc = some (.lst (vI (cI (ws.drop 1)))) ∧ Wk (lows cl m) ws f i as bs c)
      ⟨[f], [], f, none, rfl, s4, hq4, hlc4, Wk.start hf⟩ (fun i σ H5 _ ⟨_, _, _, _, _, _, _, h5, _⟩ => SqL.of h5) ?_ ?_⟩
    · rintro i x σ H5 hx ⟨as, bs, c, v4, rfl, s5, hq5, hl5, K5⟩
      obtain ⟨v, hv, rfl⟩ := cI_got hx
      rw [List.getElem?_drop, Nat.add_comm] at hv
      have vm := List.mem_of_getElem? hv
      have il := (List.getElem?_eq_some_iff.mp hv).1
      have alen := K5.len
      have alen2 : i * (ws.length - 1) ≤ 80 * 80 := Nat.mul_le_mul (by omega) (by omega)
      refine ⟨_, rfl, _, rfl, _, _, rfl, .inl (SqL.of hq5), rfl, vW_flat _, _, rfl, ?_⟩
      show if (!inV (.int (v : Int)) (vI (cI as))) = true then _ else _
      rw [notIn_dec]
      refine ite2D (fun h => ?_) (fun h => ?_)
      · have hin : v ∉ as := fun z => h (cI_mem.mpr z)
        have ca : c ∈ as := by rw [K5.e]; simp
        have la : atI (vW as) (-1) = some (.int (c : Int)) := by rw [K5.e, ← vW_app]; exact at_last _ _
        refine ⟨_, rfl, .inl ⟨rfl, _, SqL.of hq5⟩, _, rfl, _, rfl, _, rfl, _, _, _, _, rfl, rfl, SqL.of hq5, la, y, rs, nar (lows cl m) ws, c, rfl, N2.same s5, gd, by omega, by rw [nl]; exact W.lt c (K5.ins c ca), fun d ps dp H6 s6 nd hd B D => ?_⟩
        obtain ⟨jj, cc, x, g1, g2, g3⟩ := B.way D hc (K5.ins c ca) vm
        refine ⟨_, rfl, d, nar (lows cl m) ws, c, v, jj, x, cc, ps, dp, rfl, hd, B, by omega, g1, g2, fun l p H7 s7 nl' hl e1 e2 e3 e4 e5 => ?_⟩
        refine ⟨_, rfl, _, _, rfl, SqL.of hl, fun l2 nl2 => ?_⟩
        rw [cut_from1 (by rw [vW_len]; omega), vW_drop]
        have s8 := (s6.trans s7).new (o := .lst (vW (p.drop 1))) nl2
        have h28 : (upd H7 l2 (.lst (vW (p.drop 1)))) l2 = some (.lst (vW (p.drop 1))) := upd_same
        generalize upd H7 l2 (.lst (vW (p.drop 1))) = H8 at s8 h28 ⊢
        refine ⟨_, _, _, _, rfl, rfl, s8 _ _ hq5, h28, (by rw [vW_len, vW_len, List.length_drop]; omega), ?_⟩
        rw [vW_two]
        obtain ⟨bs', K8⟩ := K5.go W hf hv hin e1 e2 e3 e4 g3
        exact ⟨_, bs', v, _, rfl, (s5.trans s8).over nq, upd_same, by rw [upd_ne qlc]; exact s8 _ _ hl5, K8⟩
      · exact ⟨as, bs, c, _, rfl, s5, hq5, hl5, K5.stay W hf hv (Classical.byContradiction fun z => h fun z' => z (cI_mem.mp z'))⟩
    · rintro σ H5 ⟨as, bs, c, v4, rfl, s5, hq5, hl5, K5⟩
      rw [vI_len, cI_len, List.length_drop] at K5
      have alen := K5.len
      have alen2 : (ws.length - 1) * (ws.length - 1) ≤ 80 * 80 := Nat.mul_le_mul (by omega) (by omega)
      have ca : c ∈ as := by rw [K5.e]; simp
      have la : atI (vW as) (-1) = some (.int (c : Int)) := by rw [K5.e, ← vW_app]; exact at_last _ _
      refine ⟨_, rfl, .inl ⟨rfl, _, SqL.of hq5⟩, _, rfl, _, rfl, _, rfl, _, _, _, _, rfl, rfl, SqL.of hq5, la, y, rs, nar (lows cl m) ws, c, rfl, N2.same s5, gd, by omega, by rw [nl]; exact W.lt c (K5.ins c ca), fun d ps dp H6 s6 nd hd B D => ?_⟩
      obtain ⟨jj, cc, x, g1, g2, g3⟩ := B.way D hc (K5.ins c ca) fm
      refine ⟨_, rfl, _, _, _, _, rfl, rfl, (s5.trans s6).seq hB2, at0, d, nar (lows cl m) ws, c, f, jj, x, cc, ps, dp, rfl, hd, B, by omega, g1, g2, fun l p H7 s7 nl' hl e1 e2 e3 e4 e5 => ?_⟩
      refine ⟨_, rfl, _, rfl, _, rfl, _, _, rfl, SqL.of hl, fun l2 nl2 => ?_⟩
      rw [cut_mid (by rw [vW_len]; omega), vW_drop, vW_dropLast]
      have s8 := (s6.trans s7).new (o := .lst (vW (p.drop 1).dropLast)) nl2
      have h28 : (upd H7 l2 (.lst (vW (p.drop 1).dropLast))) l2 = some (.lst (vW (p.drop 1).dropLast)) := upd_same
      generalize upd H7 l2 (.lst (vW (p.drop 1).dropLast)) = H8 at s8 h28 ⊢
      refine ⟨_, _, _, _, rfl, rfl, s8 _ _ hq5, h28, (by rw [vW_len, vW_len, List.length_dropLast, List.length_drop]; omega), ?_⟩
      rw [vW_two]
      have R := K5.round W hf e1 e2 e3 e4 g3
      exact ⟨_, rfl, q2 hc q _ _ (u2.trans ((s5.trans s8).over nq)) (u2.free nq) upd_same R⟩
end
end Mine
set_option Elab.async false
set_option linter.all false
set_option maxRecDepth 100000
set_option maxHeartbeats 4000000
namespace Mine
open PySem L2
section
variable {P : Program} {w : World} {K : PySem.W.Frag} {mg : Str → Option Value} {base : Heap} {t : Adr}
instance (c : Nat) : Decidable (Sg c) := inferInstanceAs (Decidable (_ ∨ _))
theorem occ2 (c : Nat) : (!(!(Builtin.Str.occurrences "#." ⟨#[c]⟩ 0 (Str.length "#.") 1).isEmpty)) = !decide (Sg c) := by
  rw [StrLaws.found_one]
  have e : (("#." : Str)).cps.toList = [35, 46] := by decide +kernel
  rw [e]
  congr 1
  apply decide_eq_decide.mpr
  unfold Sg
  simp only [List.mem_cons, List.not_mem_nil, or_false]
def NoCl (cl : List (List Nat)) : Prop := cl.length ≤ 1000 ∧ (∀ u ∈ cl, u.length ≤ 1000) ∧ ¬ ∃ m n, Cl cl m n
def sp_bpick (t : Adr) : Sp := fun vs H Q E => ∃ (u : List Nat) (m : Nat), vs = [.str (tx u), .int (m : Int), .str "#."] ∧ u.length ≤ 1000 ∧ ((u.length = m ∧ ∀ c ∈ u, Sg c) → Q .non H) ∧ (¬ (u.length = m ∧ ∀ c ∈ u, Sg c) → E (.ref t.e_NoCloth) none H)
theorem okb_check_pick (T : Txt K mg t) : FnOk P w K mg base (CX1 P w) 1 t.f_check_pick t.d_check_pick ["text", "ends", "signs"] (sp_bpick t) := by
  refine T.check_pick.F.okX sc_check_pick (fun vs H Q E h => ?_) (fun cdv A outer s H vs Q E hr h => ?_)
  · obtain ⟨u, m, rfl, _⟩ := h
    rfl
  · obtain ⟨u, m, rfl, hl, k1, k2⟩ := h
    have hsz : sizeLine = 16777216 := sizeLine_eq
    refine ⟨_, (pss_cons (ps_if (pt_cmpR op_ne (pe_callB call_len_str rfl T.b_len bt_len (pa_cons (pv 0) pa_nil)) (pv 1) (nomark _))
        (pss_one (ps_raise body1 rfl (fun _ _ z => z) PySem.F.excBase_ValueError has_ve PySem.F.excBase_ValueError T.x_NoCloth.q rfl T.k_NoCloth (pa_cons pe_str pa_nil)))
        pss_nil)
      (pss_one (ps_fr fun hfr => (ps_for (ownX body1 hfr) rfl (pi_str (pv 0)) (pg_name (i := 3) sc_check_pick.nd rfl (Or.inl rfl))
        (pss_one (ps_if (pt_cmpR op_notin_str (pv 3) (pv 2) rfl)
          (pss_one (ps_raise body1 rfl (fun _ _ z => z) PySem.F.excBase_ValueError has_ve PySem.F.excBase_ValueError T.x_NoCloth.q rfl T.k_NoCloth (pa_cons pe_str pa_nil)))
          pss_nil)))))), ?_⟩
    refine ⟨_, rfl, _, rfl, (by rw [tx_len]; omega), _, rfl, rfl, _, rfl, ?_⟩
    rw [tx_len]
    by_cases hm : u.length = m
    · refine iteNS (by rw [hm]) ?_
      refine ⟨_, rfl, _, rfl, for_str (z := tx u) (fun i σ H2 => ∃ v, σ = [some (.str (tx u)), some (.int (m : Int)), some (.str "#."), v] ∧ H2 = H ∧ ∀ c ∈ u.take i, Sg c) ⟨none, rfl, rfl, fun c h => (by simp at h)⟩ ?_ ?_⟩
      · rintro i c σ H2 hc ⟨v, rfl, rfl, hall⟩
        rw [tx_get] at hc
        refine ⟨_, rfl, _, rfl, _, _, rfl, rfl, _, rfl, ?_⟩
        rw [occ2]
        by_cases hg : Sg c
        · refine iteNS hg ?_
          refine ⟨_, rfl, rfl, fun d hd => ?_⟩
          rw [List.take_add_one, hc] at hd
          rcases List.mem_append.mp hd with h | h
          · exact hall d h
          · have : d = c := by simpa using h
            rw [this]; exact hg
        · refine iteNp hg ?_
          exact ⟨by decide, k2 fun z => hg (z.2 c (List.mem_of_getElem? hc))⟩
      · rintro σ H2 ⟨v, rfl, rfl, hall⟩
        refine k1 ⟨hm, fun c hc => hall c ?_⟩
        have e : u.take (tx u).cps.size = u := by
          rw [List.take_of_length_le]
          have := tx_len u
          unfold Str.length at this
          omega
        rw [e]
        exact hc
    · refine iteNp (fun z => hm (by injection z with z; omega)) ?_
      exact ⟨by decide, k2 fun z => hm z.1⟩
def sp_bmt (K : PySem.W.Frag) (t : Adr) : Sp := fun vs H Q E => ∃ (a : Addr) (cl : List (List Nat)), vs = [.ref a, .int 1, .str "#."] ∧ SqL K H a (vS cl) ∧ NoCl cl ∧ E (.ref t.e_NoCloth) none H
theorem okb_measured_texts (T : Txt K mg t) : FnOk P w K mg base (CX1 P w) 2 t.f_measured_texts t.d_measured_texts ["texts", "least", "signs"] (sp_bmt K t) := by
  have G_check_pick : FnOk P w K mg base (CX1 P w) 1 t.f_check_pick t.d_check_pick _ _ := okb_check_pick T
  refine T.measured_texts.F.okX sc_measured_texts (fun vs H Q E h => ?_) (fun cdv A outer s H vs Q E hr h => ?_)
  · obtain ⟨a, cl, rfl, _⟩ := h
    rfl
  · obtain ⟨a, cl, rfl, hS, ⟨l1, l2, hn⟩, k⟩ := h
    have hsz : sizeLine = 16777216 := sizeLine_eq
    have hlen : (vS cl).length = cl.length := vS_len cl
    refine ⟨_, (pss_cons (ps_if (PW.pt (pw_or (pt_cmpR op_lt (pe_callB (call_len_seqK (K := K)) rfl T.b_len bt_len (pa_cons (pv 0) pa_nil)) (pv 1) (nomark _)) (pw_or1 (pt_cmpR op_gt (pe_callB (call_len_seqK (K := K)) rfl T.b_len bt_len (pa_cons (pv 0) pa_nil)) (pe_glob (v := .int 40) rfl T.c_MOST_STRANDS.choose_spec ⟨_, rfl⟩) (nomark _)))))
        (pss_one (ps_raise body1 rfl (fun _ _ z => z) PySem.F.excBase_ValueError has_ve PySem.F.excBase_ValueError T.x_NoCloth.q rfl T.k_NoCloth (pa_cons pe_str pa_nil)))
        pss_nil)
      (pss_cons (ps_set (i := 3) sc_measured_texts.nd rfl (Or.inl rfl) (pe_callB call_len_str rfl T.b_len bt_len (pa_cons (pe_ix (ix_listK (K := K)) (pv 0) pe_int (fun _ _ => rfl)) pa_nil)))
      (pss_cons (ps_if (PW.pt (pw_or (pt_cmpR op_lt (pv 3) (pv 1) (nomark _)) (pw_or1 (pt_cmpR op_gt (pv 3) (pe_glob (v := .int 40) rfl T.c_MOST_STRANDS.choose_spec ⟨_, rfl⟩) (nomark _)))))
        (pss_one (ps_raise body1 rfl (fun _ _ z => z) PySem.F.excBase_ValueError has_ve PySem.F.excBase_ValueError T.x_NoCloth.q rfl T.k_NoCloth (pa_cons pe_str pa_nil)))
        pss_nil)
      (pss_cons (ps_fr fun hfr => (ps_for (ownX body1 hfr) rfl (pi_listK (K := K) (pv 0)) (pg_name (i := 4) sc_measured_texts.nd rfl (Or.inl rfl))
        (pss_one (ps_expr (pe_call (G_check_pick.mono (by decide)) hr rfl T.check_pick.m T.check_pick.F.kp T.check_pick.b .nil pass1 (pa_cons (pv 4) (pa_cons (pv 3) (pa_cons (pv 2) pa_nil))))))))
      (pss_one (ps_ret (pe_tup (pa_cons (pv 3) (pa_cons (pe_callB (call_len_seqK (K := K)) rfl T.b_len bt_len (pa_cons (pv 0) pa_nil)) pa_nil))))))))), ?_⟩
    refine ⟨_, rfl, _, _, rfl, .inl hS, _, rfl, _, _, rfl, rfl, _, rfl, ?_⟩
    rw [hlen]
    refine ite2D (fun h => iteT ⟨by decide, k⟩) (fun g1 => ?_)
    refine ⟨_, rfl, _, _, rfl, .inl hS, _, _, rfl, rfl, _, rfl, ?_⟩
    rw [hlen]
    refine ite2D (fun h => ⟨by decide, k⟩) (fun g2 => ?_)
    have h0 : 0 < cl.length := by omega
    have lm := l2 cl[0] (List.getElem_mem h0)
    obtain ⟨m, hm⟩ : ∃ m, m = cl[0].length := ⟨_, rfl⟩
    refine ⟨_, rfl, _, _, _, _, rfl, rfl, hS, atI_of (by decide) (vS_get (List.getElem?_eq_getElem h0)), _, rfl, (by rw [tx_len]; omega), ?_⟩
    rw [tx_len, ← hm]
    refine ⟨_, rfl, _, rfl, _, _, rfl, rfl, _, rfl, ?_⟩
    refine ite2D (fun h => iteT ⟨by decide, k⟩) (fun g3 => ?_)
    refine ⟨_, rfl, _, _, rfl, rfl, _, rfl, ?_⟩
    refine ite2D (fun h => ⟨by decide, k⟩) (fun g4 => ?_)
    refine ⟨_, rfl, _, rfl, ⟨_, hS⟩, for_list (K := K) (a := a) (xs := vS cl) (fun i σ H2 => ∃ v, σ = [some (.ref a), some (.int 1), some (.str "#."), some (.int (m : Int)), v] ∧ H2 = H ∧ ∀ u ∈ cl.take i, u.length = m ∧ ∀ c ∈ u, Sg c) ⟨none, rfl, rfl, fun u h => (by simp at h)⟩ (fun i σ H2 _ ⟨_, _, e, _⟩ => e ▸ hS) ?_ ?_⟩
    · rintro i x σ H2 hx ⟨v, rfl, rfl, hall⟩
      obtain ⟨u, hu, rfl⟩ := vS_got hx
      refine ⟨_, rfl, _, rfl, _, rfl, u, m, rfl, l2 u (List.mem_of_getElem? hu), fun hg => ?_, fun _ => k⟩
      refine ⟨_, rfl, rfl, fun u' hu' => ?_⟩
      rw [List.take_add_one, hu] at hu'
      rcases List.mem_append.mp hu' with h | h
      · exact hall u' h
      · have : u' = u := by simpa using h
        rw [this]; exact hg
    · rintro σ H2 ⟨v, rfl, rfl, hall⟩
      rw [hlen, List.take_length] at hall
      exact absurd ⟨m, cl.length, rfl, fun u hu => (hall u hu).1, fun u hu => (hall u hu).2, by omega, by omega, by omega, by omega⟩ hn
def sp_bm (K : PySem.W.Frag) (t : Adr) : Sp := fun vs H Q E => ∃ (a : Addr) (cl : List (List Nat)), vs = [.ref a] ∧ SqL K H a (vS cl) ∧ NoCl cl ∧ E (.ref t.e_NoCloth) none H
theorem okb_measured (T : Txt K mg t) : FnOk P w K mg base (CX1 P w) 3 t.f_measured t.d_measured ["cloth"] (sp_bm K t) := by
  have G_measured_texts : FnOk P w K mg base (CX1 P w) 2 t.f_measured_texts t.d_measured_texts _ _ := okb_measured_texts T
  refine T.measured.F.okX sc_measured (fun vs H Q E h => ?_) (fun cdv A outer s H vs Q E hr h => ?_)
  · obtain ⟨a, cl, rfl, _⟩ := h
    rfl
  · obtain ⟨a, cl, rfl, hS, hb, k⟩ := h
    exact ⟨_, (pss_one (ps_ret (pe_call (G_measured_texts.mono (by decide)) hr rfl T.measured_texts.m T.measured_texts.F.kp T.measured_texts.b .nil pass1 (pa_cons (pv 0) (pa_cons pe_int (pa_cons pe_str pa_nil)))))), _, rfl, a, cl, rfl, hS, hb, k⟩
def sp_bad (K : PySem.W.Frag) (t : Adr) (n : Nat) : Sp := fun vs H Q E => ∃ (a : Addr) (cl : List (List Nat)) (xs : List V), vs = .ref a :: xs ∧ xs.length = n ∧ SqL K H a (vS cl) ∧ NoCl cl ∧ E (.ref t.e_NoCloth) none H
theorem okb_scores_of (T : Txt K mg t) : FnOk P w K mg base (CX1 P w) 4 t.f_scores_of t.d_scores_of ["cloth"] (sp_bad K t 0) := by
  have G_measured : FnOk P w K mg base (CX1 P w) 3 t.f_measured t.d_measured _ _ := okb_measured T
  refine T.scores_of.F.okX sc_scores_of (fun vs H Q E h => ?_) (fun cdv A outer s H vs Q E hr h => ?_)
  · obtain ⟨a, cl, xs, rfl, hl, _⟩ := h
    match xs, hl with | [], _ => rfl
  · obtain ⟨a, cl, xs, rfl, hl, hS, hb, k⟩ := h
    match xs, hl with | [], _ => exact ⟨_, (pss_cons (ps_set (i := 1) sc_scores_of.nd rfl (Or.inl rfl) (pe_call (G_measured.mono (by decide)) hr rfl T.measured.m T.measured.F.kp T.measured.b .nil pass1 (pa_cons (pv 0) pa_nil))) pss_never), _, rfl, a, cl, rfl, hS, hb, k⟩
theorem okb_tops_of (T : Txt K mg t) : FnOk P w K mg base (CX1 P w) 5 t.f_tops_of t.d_tops_of ["cloth"] (sp_bad K t 0) := by
  have G_measured : FnOk P w K mg base (CX1 P w) 3 t.f_measured t.d_measured _ _ := okb_measured T
  refine T.tops_of.F.okX sc_tops_of (fun vs H Q E h => ?_) (fun cdv A outer s H vs Q E hr h => ?_)
  · obtain ⟨a, cl, xs, rfl, hl, _⟩ := h
    match xs, hl with | [], _ => rfl
  · obtain ⟨a, cl, xs, rfl, hl, hS, hb, k⟩ := h
    match xs, hl with | [], _ => exact ⟨_, (pss_cons (ps_set (i := 1) sc_tops_of.nd rfl (Or.inl rfl) (pe_call (G_measured.mono (by decide)) hr rfl T.measured.m T.measured.F.kp T.measured.b .nil pass1 (pa_cons (pv 0) pa_nil))) pss_never), _, rfl, a, cl, rfl, hS, hb, k⟩
theorem okb_layers_of (T : Txt K mg t) : FnOk P w K mg base (CX1 P w) 6 t.f_layers_of t.d_layers_of ["cloth"] (sp_bad K t 0) := by
  have G_measured : FnOk P w K mg base (CX1 P w) 3 t.f_measured t.d_measured _ _ := okb_measured T
  refine T.layers_of.F.okX sc_layers_of (fun vs H Q E h => ?_) (fun cdv A outer s H vs Q E hr h => ?_)
  · obtain ⟨a, cl, xs, rfl, hl, _⟩ := h
    match xs, hl with | [], _ => rfl
  · obtain ⟨a, cl, xs, rfl, hl, hS, hb, k⟩ := h
    match xs, hl with | [], _ => exact ⟨_, (pss_cons (ps_set (i := 1) sc_layers_of.nd rfl (Or.inl rfl) (pe_call (G_measured.mono (by decide)) hr rfl T.measured.m T.measured.F.kp T.measured.b .nil pass1 (pa_cons (pv 0) pa_nil))) pss_never), _, rfl, a, cl, rfl, hS, hb, k⟩
theorem okb_layer_numbers (T : Txt K mg t) : FnOk P w K mg base (CX1 P w) 7 t.f_layer_numbers t.d_layer_numbers ["cloth"] (sp_bad K t 0) := by
  have G_layers_of : FnOk P w K mg base (CX1 P w) 6 t.f_layers_of t.d_layers_of _ _ := okb_layers_of T
  refine T.layer_numbers.F.okX sc_layer_numbers (fun vs H Q E h => ?_) (fun cdv A outer s H vs Q E hr h => ?_)
  · obtain ⟨a, cl, xs, rfl, hl, _⟩ := h
    match xs, hl with | [], _ => rfl
  · obtain ⟨a, cl, xs, rfl, hl, hS, hb, k⟩ := h
    match xs, hl with | [], _ => exact ⟨_, (pss_cons (ps_set (i := 1) sc_layer_numbers.nd rfl (Or.inl rfl) (pe_call (G_layers_of.mono (by decide)) hr rfl T.layers_of.m T.layers_of.F.kp T.layers_of.b .nil pass1 (pa_cons (pv 0) pa_nil))) pss_never), _, rfl, a, cl, [], rfl, rfl, hS, hb, k⟩
theorem okb_strand_over (T : Txt K mg t) : FnOk P w K mg base (CX1 P w) 4 t.f_strand_over t.d_strand_over ["cloth", "one", "other"] (sp_bad K t 2) := by
  have G_measured : FnOk P w K mg base (CX1 P w) 3 t.f_measured t.d_measured _ _ := okb_measured T
  refine T.strand_over.F.okX sc_strand_over (fun vs H Q E h => ?_) (fun cdv A outer s H vs Q E hr h => ?_)
  · obtain ⟨a, cl, xs, rfl, hl, _⟩ := h
    match xs, hl with | [x0, x1], _ => rfl
  · obtain ⟨a, cl, xs, rfl, hl, hS, hb, k⟩ := h
    match xs, hl with | [x0, x1], _ => exact ⟨_, (pss_cons (ps_set (i := 3) sc_strand_over.nd rfl (Or.inl rfl) (pe_call (G_measured.mono (by decide)) hr rfl T.measured.m T.measured.F.kp T.measured.b .nil pass1 (pa_cons (pv 0) pa_nil))) pss_never), _, rfl, a, cl, rfl, hS, hb, k⟩
theorem okb_way_between (T : Txt K mg t) : FnOk P w K mg base (CX1 P w) 4 t.f_way_between t.d_way_between ["cloth", "one", "other"] (sp_bad K t 2) := by
  have G_measured : FnOk P w K mg base (CX1 P w) 3 t.f_measured t.d_measured _ _ := okb_measured T
  refine T.way_between.F.okX sc_way_between (fun vs H Q E h => ?_) (fun cdv A outer s H vs Q E hr h => ?_)
  · obtain ⟨a, cl, xs, rfl, hl, _⟩ := h
    match xs, hl with | [x0, x1], _ => rfl
  · obtain ⟨a, cl, xs, rfl, hl, hS, hb, k⟩ := h
    match xs, hl with | [x0, x1], _ => exact ⟨_, (pss_cons (ps_set (i := 3) sc_way_between.nd rfl (Or.inl rfl) (pe_call (G_measured.mono (by decide)) hr rfl T.measured.m T.measured.F.kp T.measured.b .nil pass1 (pa_cons (pv 0) pa_nil))) pss_never), _, rfl, a, cl, rfl, hS, hb, k⟩
theorem okb_web_of_set (T : Txt K mg t) : FnOk P w K mg base (CX1 P w) 4 t.f_web_of_set t.d_web_of_set ["cloth", "strands"] (sp_bad K t 1) := by
  have G_measured : FnOk P w K mg base (CX1 P w) 3 t.f_measured t.d_measured _ _ := okb_measured T
  refine T.web_of_set.F.okX sc_web_of_set (fun vs H Q E h => ?_) (fun cdv A outer s H vs Q E hr h => ?_)
  · obtain ⟨a, cl, xs, rfl, hl, _⟩ := h
    match xs, hl with | [x0], _ => rfl
  · obtain ⟨a, cl, xs, rfl, hl, hS, hb, k⟩ := h
    match xs, hl with | [x0], _ => exact ⟨_, (pss_cons (ps_set (i := 2) sc_web_of_set.nd rfl (Or.inl rfl) (pe_call (G_measured.mono (by decide)) hr rfl T.measured.m T.measured.F.kp T.measured.b .nil pass1 (pa_cons (pv 0) pa_nil))) pss_never), _, rfl, a, cl, rfl, hS, hb, k⟩
theorem okb_round_way (T : Txt K mg t) : FnOk P w K mg base (CX1 P w) 5 t.f_round_way t.d_round_way ["cloth", "strands"] (sp_bad K t 1) := by
  have G_web_of_set : FnOk P w K mg base (CX1 P w) 4 t.f_web_of_set t.d_web_of_set _ _ := okb_web_of_set T
  refine T.round_way.F.okX sc_round_way (fun vs H Q E h => ?_) (fun cdv A outer s H vs Q E hr h => ?_)
  · obtain ⟨a, cl, xs, rfl, hl, _⟩ := h
    match xs, hl with | [x0], _ => rfl
  · obtain ⟨a, cl, xs, rfl, hl, hS, hb, k⟩ := h
    match xs, hl with | [x0], _ => exact ⟨_, (pss_cons (ps_set (i := 2) sc_round_way.nd rfl (Or.inl rfl) (pe_call (G_web_of_set.mono (by decide)) hr rfl T.web_of_set.m T.web_of_set.F.kp T.web_of_set.b .nil pass1 (pa_cons (pv 0) (pa_cons (pv 1) pa_nil)))) pss_never), _, rfl, _, rfl, a, cl, _, rfl, rfl, hS, hb, k⟩
theorem okb_lifted_off (T : Txt K mg t) : FnOk P w K mg base (CX1 P w) 5 t.f_lifted_off t.d_lifted_off ["cloth", "strands"] (sp_bad K t 1) := by
  have G_upper_part : FnOk P w K mg base CX0 2 t.f_upper_part t.d_upper_part _ _ := ok_upper_part T
  have G_web_of_set : FnOk P w K mg base (CX1 P w) 4 t.f_web_of_set t.d_web_of_set _ _ := okb_web_of_set T
  refine T.lifted_off.F.okX sc_lifted_off (fun vs H Q E h => ?_) (fun cdv A outer s H vs Q E hr h => ?_)
  · obtain ⟨a, cl, xs, rfl, hl, _⟩ := h
    match xs, hl with | [x0], _ => rfl
  · obtain ⟨a, cl, xs, rfl, hl, hS, hb, k⟩ := h
    match xs, hl with | [x0], _ => exact ⟨_, (pss_one (ps_ret (pe_call (G_upper_part.mono (by decide)) hr rfl T.upper_part.m T.upper_part.F.kp T.upper_part.b .nil pass0 (pa_cons (pe_call (G_web_of_set.mono (by decide)) hr rfl T.web_of_set.m T.web_of_set.F.kp T.web_of_set.b .nil pass1 (pa_cons (pv 0) (pa_cons (pv 1) pa_nil))) (pa_cons (pv 1) pa_nil))))), _, rfl, _, rfl, a, cl, _, rfl, rfl, hS, hb, k⟩
def sp_calledB (K : PySem.W.Frag) (t : Adr) : Sp := fun vs H Q E => ∃ (a : Addr) (cl : List (List Nat)) (way : Int) (x y z : V), vs = [.int way, .ref a, x, y, z] ∧ SqL K H a (vS cl) ∧ NoCl cl ∧ E (.ref t.e_NoCloth) none H
theorem okb_law_called (T : Txt K mg t) : FnOk P w K mg base (CX1 P w) 8 t.f_law_called t.d_law_called ["way", "rows", "one", "other", "some"] (sp_calledB K t) := by
  have G_strand_over : FnOk P w K mg base (CX1 P w) 4 t.f_strand_over t.d_strand_over _ _ := okb_strand_over T
  have G_scores_of : FnOk P w K mg base (CX1 P w) 4 t.f_scores_of t.d_scores_of _ _ := okb_scores_of T
  have G_tops_of : FnOk P w K mg base (CX1 P w) 5 t.f_tops_of t.d_tops_of _ _ := okb_tops_of T
  have G_layers_of : FnOk P w K mg base (CX1 P w) 6 t.f_layers_of t.d_layers_of _ _ := okb_layers_of T
  have G_layer_numbers : FnOk P w K mg base (CX1 P w) 7 t.f_layer_numbers t.d_layer_numbers _ _ := okb_layer_numbers T
  have G_way_between : FnOk P w K mg base (CX1 P w) 4 t.f_way_between t.d_way_between _ _ := okb_way_between T
  have G_round_way : FnOk P w K mg base (CX1 P w) 5 t.f_round_way t.d_round_way _ _ := okb_round_way T
  have G_lifted_off : FnOk P w K mg base (CX1 P w) 5 t.f_lifted_off t.d_lifted_off _ _ := okb_lifted_off T
  refine T.law_called.F.okX sc_law_called (fun vs H Q E h => ?_) (fun cdv A outer s H vs Q E hr h => ?_)
  · obtain ⟨a, cl, way, x, y, z, rfl, _⟩ := h
    rfl
  · obtain ⟨a, cl, way, x, y, z, rfl, hS, hb, k⟩ := h
    refine ⟨_, (pss_cons (ps_if (pt_cmpR op_eq (pv 0) pe_int (nomark _))
        (pss_one (ps_ret (pe_call (G_strand_over.mono (by decide)) hr rfl T.strand_over.m T.strand_over.F.kp T.strand_over.b .nil pass1 (pa_cons (pv 1) (pa_cons (pv 2) (pa_cons (pv 3) pa_nil))))))
        pss_nil)
      (pss_cons (ps_if (pt_cmpR op_eq (pv 0) pe_int (nomark _))
        (pss_one (ps_ret (pe_call (G_scores_of.mono (by decide)) hr rfl T.scores_of.m T.scores_of.F.kp T.scores_of.b .nil pass1 (pa_cons (pv 1) pa_nil))))
        pss_nil)
      (pss_cons (ps_if (pt_cmpR op_eq (pv 0) pe_int (nomark _))
        (pss_one (ps_ret (pe_call (G_tops_of.mono (by decide)) hr rfl T.tops_of.m T.tops_of.F.kp T.tops_of.b .nil pass1 (pa_cons (pv 1) pa_nil))))
        pss_nil)
      (pss_cons (ps_if (pt_cmpR op_eq (pv 0) pe_int (nomark _))
        (pss_one (ps_ret (pe_call (G_layers_of.mono (by decide)) hr rfl T.layers_of.m T.layers_of.F.kp T.layers_of.b .nil pass1 (pa_cons (pv 1) pa_nil))))
        pss_nil)
      (pss_cons (ps_if (pt_cmpR op_eq (pv 0) pe_int (nomark _))
        (pss_one (ps_ret (pe_call (G_layer_numbers.mono (by decide)) hr rfl T.layer_numbers.m T.layer_numbers.F.kp T.layer_numbers.b .nil pass1 (pa_cons (pv 1) pa_nil))))
        pss_nil)
      (pss_cons (ps_if (pt_cmpR op_eq (pv 0) pe_int (nomark _))
        (pss_one (ps_ret (pe_call (G_way_between.mono (by decide)) hr rfl T.way_between.m T.way_between.F.kp T.way_between.b .nil pass1 (pa_cons (pv 1) (pa_cons (pv 2) (pa_cons (pv 3) pa_nil))))))
        pss_nil)
      (pss_cons (ps_if (pt_cmpR op_eq (pv 0) pe_int (nomark _))
        (pss_one (ps_ret (pe_call (G_round_way.mono (by decide)) hr rfl T.round_way.m T.round_way.F.kp T.round_way.b .nil pass1 (pa_cons (pv 1) (pa_cons (pv 4) pa_nil)))))
        pss_nil)
      (pss_one (ps_ret (pe_call (G_lifted_off.mono (by decide)) hr rfl T.lifted_off.m T.lifted_off.F.kp T.lifted_off.b .nil pass1 (pa_cons (pv 1) (pa_cons (pv 4) pa_nil)))))))))))), ?_⟩
    refine ⟨_, rfl, rfl, _, rfl, ?_⟩
    refine ite2D (fun _ => ?_) (fun g0 => ?_)
    · exact ⟨_, rfl, _, rfl, _, rfl, a, cl, [x, y], rfl, rfl, hS, hb, k⟩
    refine ⟨_, rfl, rfl, _, rfl, ?_⟩
    refine ite2D (fun _ => ?_) (fun g1 => ?_)
    · exact ⟨_, rfl, a, cl, [], rfl, rfl, hS, hb, k⟩
    refine ⟨_, rfl, rfl, _, rfl, ?_⟩
    refine ite2D (fun _ => ?_) (fun g2 => ?_)
    · exact ⟨_, rfl, a, cl, [], rfl, rfl, hS, hb, k⟩
    refine ⟨_, rfl, rfl, _, rfl, ?_⟩
    refine ite2D (fun _ => ?_) (fun g3 => ?_)
    · exact ⟨_, rfl, a, cl, [], rfl, rfl, hS, hb, k⟩
    refine ⟨_, rfl, rfl, _, rfl, ?_⟩
    refine ite2D (fun _ => ?_) (fun g4 => ?_)
    · exact ⟨_, rfl, a, cl, [], rfl, rfl, hS, hb, k⟩
    refine ⟨_, rfl, rfl, _, rfl, ?_⟩
    refine ite2D (fun _ => ?_) (fun g5 => ?_)
    · exact ⟨_, rfl, _, rfl, _, rfl, a, cl, [x, y], rfl, rfl, hS, hb, k⟩
    refine ⟨_, rfl, rfl, _, rfl, ?_⟩
    refine ite2D (fun _ => ?_) (fun g6 => ?_)
    · exact ⟨_, rfl, _, rfl, a, cl, [z], rfl, rfl, hS, hb, k⟩
    · exact ⟨_, rfl, _, rfl, a, cl, [z], rfl, rfl, hS, hb, k⟩
end
end Mine
set_option Elab.async false
set_option linter.all false
set_option maxRecDepth 100000
set_option maxHeartbeats 4000000
namespace Mine
open PySem L2
section
variable {P : Program} {w : World} {K : PySem.W.Frag} {mg : Str → Option Value} {base : Heap} {t : Adr}
theorem fn_or {CX : CXT} {k : Nat} {f : Addr} {fd : FuncData} {ps : List Str} {s1 s2 : Sp} (F : FnOk P w K mg base CX k f fd ps s1) (G : FnOk P w K mg base CX k f fd ps s2) : FnOk P w K mg base CX k f fd ps (fun vs H Q E => s1 vs H Q E ∨ s2 vs H Q E) :=
  ⟨fun vs H Q E h => h.elim (F.len vs H Q E) (G.len vs H Q E), fun A outer s H args us vs Q E hr he hb hv h => h.elim (F.run A outer s H args us vs Q E hr he hb hv) (G.run A outer s H args us vs Q E hr he hb hv)⟩
def sp_calledG (K : PySem.W.Frag) (tT : Addr) : Sp := fun vs H Q _ => ∃ (a b : Addr) (cl : List (List Nat)) (m n u v : Nat) (way : Int), vs = [.int way, .ref a, .int (u : Int), .int (v : Int), .ref b] ∧ SqL K H a (vS cl) ∧ Cl cl m n ∧ m + n < 64 ∧ Tb tT "layers_of.<locals>.<lambda>" H ∧ u < m ∧ m ≤ v ∧ v < m + n ∧ SqL K H b (vI (cI [u, v])) ∧ ∀ x H', SameT H H' → Tb tT "layers_of.<locals>.<lambda>" H' → Q x H'
theorem ok_law_called {tc tT : Addr} (T : Txt K mg t) (hcd : t.d_layers_of.code = .ref tc) (hCd : PySem.W.CodeHd base tc tT) (hBm : Bm mg base) : FnOk P w K mg base (CX1 P w) 8 t.f_law_called t.d_law_called ["way", "rows", "one", "other", "some"] (sp_calledG K tT) := by
  have G_strand_over : FnOk P w K mg base (CX1 P w) 4 t.f_strand_over t.d_strand_over _ _ := ok_strand_over T
  have G_scores_of : FnOk P w K mg base CX0 4 t.f_scores_of t.d_scores_of _ _ := ok_scores_of T
  have G_tops_of : FnOk P w K mg base CX0 5 t.f_tops_of t.d_tops_of _ _ := ok_tops_of T
  have G_layers_of : FnOk P w K mg base CX0 6 t.f_layers_of t.d_layers_of _ _ := ok_layers_of T hcd hCd hBm
  have G_layer_numbers : FnOk P w K mg base CX0 7 t.f_layer_numbers t.d_layer_numbers _ _ := ok_layer_numbers T hcd hCd hBm
  have G_way_between : FnOk P w K mg base (CX1 P w) 4 t.f_way_between t.d_way_between _ _ := ok_way_between T
  have G_round_way : FnOk P w K mg base (CX1 P w) 5 t.f_round_way t.d_round_way _ _ := ok_round_way T
  have G_lifted_off : FnOk P w K mg base (CX1 P w) 5 t.f_lifted_off t.d_lifted_off _ _ := ok_lifted_off T
  refine T.law_called.F.okX sc_law_called (fun vs H Q E h => ?_) (fun cdv A outer s H vs Q E hr h => ?_)
  · obtain ⟨a, b, cl, m, n, u, v, way, rfl, _⟩ := h
    rfl
  · obtain ⟨a, b, cl, m, n, u, v, way, rfl, hS, C, h64, tb, hu, hv1, hv2, hB, k⟩ := h
    have kS : ∀ x H', Same H H' → Q x H' := fun x H' s => k x H' s.toT (tb.same s)
    have W : NS (m + n) [u, v] := ⟨by simp, by simp; omega, fun x hx => by simp at hx; omega⟩
    have nb : ¬ ¬ GoodSet ((m + n : Nat) : Int) (cI [u, v]) := fun z => z W.good
    have dne : due cl m n (u : Int) (v : Int) ≠ none := by
      rw [due_end ⟨by omega, by omega⟩ ⟨by omega, by omega⟩ (by omega) (by omega)]
      exact fun z => by cases z
    refine ⟨_, (pss_cons (ps_if (pt_cmpR op_eq (pv 0) pe_int (nomark _))
        (pss_one (ps_ret (pe_call (G_strand_over.mono (by decide)) hr rfl T.strand_over.m T.strand_over.F.kp T.strand_over.b .nil pass1 (pa_cons (pv 1) (pa_cons (pv 2) (pa_cons (pv 3) pa_nil))))))
        pss_nil)
      (pss_cons (ps_if (pt_cmpR op_eq (pv 0) pe_int (nomark _))
        (pss_one (ps_ret (pe_call (G_scores_of.mono (by decide)) hr rfl T.scores_of.m T.scores_of.F.kp T.scores_of.b .nil pass0 (pa_cons (pv 1) pa_nil))))
        pss_nil)
      (pss_cons (ps_if (pt_cmpR op_eq (pv 0) pe_int (nomark _))
        (pss_one (ps_ret (pe_call (G_tops_of.mono (by decide)) hr rfl T.tops_of.m T.tops_of.F.kp T.tops_of.b .nil pass0 (pa_cons (pv 1) pa_nil))))
        pss_nil)
      (pss_cons (ps_if (pt_cmpR op_eq (pv 0) pe_int (nomark _))
        (pss_one (ps_ret (pe_call (G_layers_of.mono (by decide)) hr rfl T.layers_of.m T.layers_of.F.kp T.layers_of.b .nil pass0 (pa_cons (pv 1) pa_nil))))
        pss_nil)
      (pss_cons (ps_if (pt_cmpR op_eq (pv 0) pe_int (nomark _))
        (pss_one (ps_ret (pe_call (G_layer_numbers.mono (by decide)) hr rfl T.layer_numbers.m T.layer_numbers.F.kp T.layer_numbers.b .nil pass0 (pa_cons (pv 1) pa_nil))))
        pss_nil)
      (pss_cons (ps_if (pt_cmpR op_eq (pv 0) pe_int (nomark _))
        (pss_one (ps_ret (pe_call (G_way_between.mono (by decide)) hr rfl T.way_between.m T.way_between.F.kp T.way_between.b .nil pass1 (pa_cons (pv 1) (pa_cons (pv 2) (pa_cons (pv 3) pa_nil))))))
        pss_nil)
      (pss_cons (ps_if (pt_cmpR op_eq (pv 0) pe_int (nomark _))
        (pss_one (ps_ret (pe_call (G_round_way.mono (by decide)) hr rfl T.round_way.m T.round_way.F.kp T.round_way.b .nil pass1 (pa_cons (pv 1) (pa_cons (pv 4) pa_nil)))))
        pss_nil)
      (pss_one (ps_ret (pe_call (G_lifted_off.mono (by decide)) hr rfl T.lifted_off.m T.lifted_off.F.kp T.lifted_off.b .nil pass1 (pa_cons (pv 1) (pa_cons (pv 4) pa_nil)))))))))))), ?_⟩
    refine ⟨_, rfl, rfl, _, rfl, ?_⟩
    refine ite2D (fun _ => ?_) (fun g0 => ?_)
    · exact ⟨_, rfl, _, rfl, _, rfl, a, cl, m, n, u, v, rfl, hS, C, fun b _ H' s => kS _ H' s, fun z => absurd z dne⟩
    refine ⟨_, rfl, rfl, _, rfl, ?_⟩
    refine ite2D (fun _ => ?_) (fun g1 => ?_)
    · exact ⟨_, rfl, a, cl, m, n, rfl, hS, C, fun l H' s _ _ => kS _ H' s⟩
    refine ⟨_, rfl, rfl, _, rfl, ?_⟩
    refine ite2D (fun _ => ?_) (fun g2 => ?_)
    · exact ⟨_, rfl, a, cl, m, n, rfl, hS, C, fun l H' ps dA dB s _ _ _ _ _ _ => kS _ H' s⟩
    refine ⟨_, rfl, rfl, _, rfl, ?_⟩
    refine ite2D (fun _ => ?_) (fun g3 => ?_)
    · exact ⟨_, rfl, a, cl, m, n, rfl, hS, C, h64, tb, fun l H' rs tss dA dB eo po t1 tb1 _ _ _ _ _ _ => k _ H' t1 tb1⟩
    refine ⟨_, rfl, rfl, _, rfl, ?_⟩
    refine ite2D (fun _ => ?_) (fun g4 => ?_)
    · exact ⟨_, rfl, a, cl, m, n, rfl, hS, C, h64, tb, fun l H' tss dA dB eo po ks t1 tb1 _ _ _ _ _ _ _ => k _ H' t1 tb1⟩
    refine ⟨_, rfl, rfl, _, rfl, ?_⟩
    refine ite2D (fun _ => ?_) (fun g5 => ?_)
    · exact ⟨_, rfl, _, rfl, _, rfl, a, cl, m, n, u, v, rfl, hS, C, fun u' v' e1 e2 _ _ => ⟨fun _ H' s => kS _ H' s, fun l ws x H' s _ _ _ => kS _ H' s⟩, fun z => absurd ⟨⟨by omega, by omega⟩, ⟨by omega, by omega⟩⟩ z⟩
    refine ⟨_, rfl, rfl, _, rfl, ?_⟩
    refine ite2D (fun _ => ?_) (fun g6 => ?_)
    · exact ⟨_, rfl, _, rfl, a, b, cl, m, n, cI [u, v], rfl, hS, C, hB, (by show 2 ≤ 1000; decide), fun ws e Ws => ⟨fun _ H' s => kS _ H' s, fun _ l fs H' s _ _ _ => kS _ H' s⟩, fun z => absurd z nb⟩
    · exact ⟨_, rfl, _, rfl, a, b, cl, m, n, cI [u, v], rfl, hS, C, hB, (by show 2 ≤ 1000; decide), fun ws e Ws => ⟨fun _ H' s => kS _ H' s, fun _ l fs H' s _ _ _ => kS _ H' s⟩, fun z => absurd z nb⟩
def sp_caught (K : PySem.W.Frag) (tT : Addr) (t : Adr) : Sp := fun vs H Q _ => sp_calledG K tT vs H (fun _ H' => Q .non H') (fun _ _ _ => False) ∨ ∃ (a : Addr) (cl : List (List Nat)) (way : Int) (x y z : V), vs = [.int way, .ref a, x, y, z] ∧ SqL K H a (vS cl) ∧ NoCl cl ∧ ∀ ea, H ea = none → Q (.ref ea) (upd H ea (exH t.e_NoCloth ea))
theorem ok_law_caught {tc tT : Addr} (T : Txt K mg t) (hcd : t.d_layers_of.code = .ref tc) (hCd : PySem.W.CodeHd base tc tT) (hBm : Bm mg base) : FnOk P w K mg base CX0 9 t.f_law_caught t.d_law_caught ["way", "rows", "one", "other", "some"] (sp_caught K tT t) := by
  have G_law_called : FnOk P w K mg base (CX1 P w) 8 t.f_law_called t.d_law_called _ _ := fn_or (ok_law_called T hcd hCd hBm) (okb_law_called T)
  refine T.law_caught.F.ok sc_law_caught (fun vs H Q E h => ?_) (fun cdv A outer s H vs Q E hr h => ?_)
  · rcases h with ⟨a, b, cl, m, n, u, v, way, rfl, _⟩ | ⟨a, cl, way, x, y, z, rfl, _⟩
    · rfl
    · rfl
  · rcases h with h | ⟨a, cl, way, x, y, z, rfl, hS, hb, k⟩
    · obtain ⟨a, b, cl, m, n, u, v, way, rfl, hS, C, h64, tb, hu, hv1, hv2, hB, k⟩ := h
      refine ⟨_, (pss_cons (ps_set (i := 5) sc_law_caught.nd rfl (Or.inl rfl) pe_non)
        (pss_cons (ps_try (j := 6) ⟨rfl, rfl, rfl⟩ rfl (psxs_one (psx_expr (pex_call (G_law_called.mono (by decide)) hr rfl T.law_called.m T.law_called.F.kp T.law_called.b .nil (pa_cons (pv 0) (pa_cons (pv 1) (pa_cons (pv 2) (pa_cons (pv 3) (pa_cons (pv 4) pa_nil)))))))) sc_law_caught.nd rfl rfl rfl T.k_WeaveError T.x_WeaveError.q has_base (fun _ => (pss_one (ps_set (i := 5) sc_law_caught.nd rfl (Or.inl rfl) (pv 6)))))
        (pss_one (ps_ret (pv 5))))), ?_⟩
      refine ⟨_, rfl, _, rfl, _, rfl, _, rfl, _, rfl, .inl ⟨a, b, cl, m, n, u, v, way, rfl, hS, C, h64, tb, hu, hv1, hv2, hB, fun x H' t1 tb1 => ?_⟩⟩
      exact ⟨_, rfl, k x H' t1 tb1⟩
    · refine ⟨_, (pss_cons (ps_set (i := 5) sc_law_caught.nd rfl (Or.inl rfl) pe_non)
      (pss_cons (ps_try (j := 6) ⟨rfl, rfl, rfl⟩ rfl (psxs_one (psx_expr (pex_call (G_law_called.mono (by decide)) hr rfl T.law_called.m T.law_called.F.kp T.law_called.b .nil (pa_cons (pv 0) (pa_cons (pv 1) (pa_cons (pv 2) (pa_cons (pv 3) (pa_cons (pv 4) pa_nil)))))))) sc_law_caught.nd rfl rfl rfl T.k_WeaveError T.x_WeaveError.q has_base (fun _ => (pss_one (ps_set (i := 5) sc_law_caught.nd rfl (Or.inl rfl) (pv 6)))))
      (pss_one (ps_ret (pv 5))))), ?_⟩
      refine ⟨_, rfl, _, rfl, _, rfl, _, rfl, _, rfl, .inr ⟨a, cl, way, x, y, z, rfl, hS, hb, ?_⟩⟩
      refine ⟨_, rfl, T.x_NoCloth.sub T.r_NoCloth_WeaveError, fun ea ne => ?_⟩
      refine ⟨_, rfl, ?_⟩
      exact ⟨_, rfl, k ea ne⟩
def sp_refd (t : Adr) : Sp := fun vs H Q _ => ∃ (ea : Addr), vs = [.ref ea] ∧ H ea = some (exH t.e_NoCloth ea) ∧ Q (.bl true) H
theorem ok_law_refused (T : Txt K mg t) : FnOk P w K mg base CX0 2 t.f_law_refused t.d_law_refused ["caught"] (sp_refd t) := by
  have G_NoCloth_called : FnOk P w K mg base CX0 1 t.f_NoCloth_called t.d_NoCloth_called _ _ := ok_NoCloth_called T
  refine T.law_refused.F.ok sc_law_refused (fun vs H Q E h => ?_) (fun cdv A outer s H vs Q E hr h => ?_)
  · obtain ⟨ea, rfl, _⟩ := h
    rfl
  · obtain ⟨ea, rfl, he, k⟩ := h
    refine ⟨_, (pss_cons (ps_if (PW.pt (pw_or (pt_not (pt_val (pe_callB (call_isx (K := K)) rfl T.b_isinstance bt_isinstance (pa_cons (pv 0) (pa_cons (pe_glob (v := .ref t.e_NoCloth) rfl T.k_NoCloth rfl) pa_nil))))) (pw_or1 (pt_not (pt_val (pe_callB (call_isx (K := K)) rfl T.b_isinstance bt_isinstance (pa_cons (pv 0) (pa_cons (pe_bltn (v := .ty "ValueError") rfl T.b_ValueError bt_ValueError rfl) pa_nil))))))))
        (pss_one (ps_ret pe_bl))
        pss_nil)
      (pss_one (ps_ret (pe_and (pe_not (pe_callB (call_isx (K := K)) rfl T.b_isinstance bt_isinstance (pa_cons (pv 0) (pa_cons (pe_glob (v := .ref t.e_NoStrand) rfl T.k_NoStrand rfl) pa_nil)))) (pe_one (pe_cmpR op_eq (pe_methE (pv 0) T.x_NoCloth.c T.m_NoCloth.m (G_NoCloth_called.mono (by decide)) hr T.m_NoCloth.b pass0) pe_str (nomark _))))))), ?_⟩
    refine ⟨_, rfl, ea, t.e_NoCloth, true, he, T.x_NoCloth.c, .inr ⟨t.e_NoCloth, rfl, kit_ref T.r_NoCloth_NoCloth T.x_NoCloth T.r_NoCloth_NoCloth⟩, _, rfl, ?_⟩
    refine iteF ?_
    refine ⟨_, rfl, ea, t.e_NoCloth, true, he, T.x_NoCloth.c, .inl ⟨_, rfl, kit_ve T.x_NoCloth⟩, _, rfl, ?_⟩
    refine iteF ?_
    refine ⟨_, rfl, ea, t.e_NoCloth, false, he, T.x_NoCloth.c, .inr ⟨t.e_NoStrand, rfl, kit_ref T.r_NoCloth_NoCloth T.x_NoStrand T.r_NoCloth_NoStrand⟩, _, rfl, true, rfl, ?_⟩
    refine iteT ?_
    refine ⟨_, rfl, ea, rfl, he, _, rfl, rfl, ?_⟩
    rw [decide_eq_true rfl]
    exact k
end
end Mine
set_option Elab.async false
set_option linter.all false
set_option maxRecDepth 100000
set_option maxHeartbeats 4000000
namespace Mine
open PySem L2
section
variable {P : Program} {w : World} {K : PySem.W.Frag} {mg : Str → Option Value} {base : Heap} {t : Adr}
theorem cutT_tk {u : List Nat} {k : Nat} (h : k ≤ u.length) : cutT u none (some (k : Int)) = u.take k := by
  unfold cutT
  rw [HT.sIx_none, HT.sIx_nat, List.drop_zero, Nat.min_eq_left h, Nat.sub_zero]
theorem cutT_dp {u : List Nat} {k : Nat} (h : k ≤ u.length) : cutT u (some (k : Int)) none = u.drop k := by
  unfold cutT
  have e1 : HT.sIx u.length 0 (some (k : Int)) = k := by rw [HT.sIx_nat, Nat.min_eq_left h]
  have e2 : HT.sIx u.length u.length none = u.length := rfl
  rw [e1, e2]
  exact List.take_of_length_le (by rw [List.length_drop]; omega)
theorem cutV_to {xs : List V} {k : Nat} (h : k ≤ xs.length) : cutV xs none (some (k : Int)) = xs.take k := by
  unfold cutV
  rw [HT.sIx_none, HT.sIx_nat, List.drop_zero, Nat.min_eq_left h, Nat.sub_zero]
theorem cutV_tail {xs : List V} {k : Nat} (h : k ≤ xs.length) : cutV xs (some (k : Int)) none = xs.drop k := by
  unfold cutV
  have e1 : HT.sIx xs.length 0 (some (k : Int)) = k := by rw [HT.sIx_nat, Nat.min_eq_left h]
  have e2 : HT.sIx xs.length xs.length none = xs.length := rfl
  rw [e1, e2]
  exact List.take_of_length_le (by rw [List.length_drop]; omega)
theorem vS_take (cl : List (List Nat)) (k : Nat) : (vS cl).take k = vS (cl.take k) := by unfold vS; rw [List.map_take]
theorem vS_drop (cl : List (List Nat)) (k : Nat) : (vS cl).drop k = vS (cl.drop k) := by unfold vS; rw [List.map_drop]
theorem vS_two (a b : List (List Nat)) : vS a ++ vS b = vS (a ++ b) := by unfold vS; rw [List.map_append]
def put (cl : List (List Nat)) (p : Nat) (u : List Nat) : List (List Nat) := cl.take p ++ [u] ++ cl.drop (p + 1)
theorem put_at {cl : List (List Nat)} {p : Nat} (hp : p < cl.length) (u : List Nat) : u ∈ put cl p u := by unfold put; simp
theorem put_len {cl : List (List Nat)} {p : Nat} (hp : p < cl.length) (u : List Nat) : (put cl p u).length = cl.length := by
  unfold put
  rw [List.length_append, List.length_append, List.length_take, List.length_drop, List.length_singleton]
  omega
theorem put_mem {cl : List (List Nat)} {p : Nat} {u v : List Nat} (h : v ∈ put cl p u) : v ∈ cl ∨ v = u := by
  unfold put at h
  rcases List.mem_append.mp h with h | h
  · rcases List.mem_append.mp h with h | h
    · exact .inl (List.mem_of_mem_take h)
    · exact .inr (List.mem_singleton.mp h)
  · exact .inl (List.mem_of_mem_drop h)
theorem put_other {cl : List (List Nat)} {m n p : Nat} (C : Cl cl m n) (hp : p < n) (h2 : 2 ≤ n) (u : List Nat) : ∃ v ∈ put cl p u, v.length = m := by
  have hn := C.hn
  by_cases h0 : p = 0
  · have h1 : 1 < cl.length := by omega
    refine ⟨cl[1], ?_, C.hm _ (List.getElem_mem h1)⟩
    unfold put
    refine List.mem_append_right _ ?_
    rw [h0]
    have : (cl.drop (0 + 1))[0]? = some cl[1] := by rw [List.getElem?_drop]; exact List.getElem?_eq_getElem h1
    exact List.mem_of_getElem? this
  · have h1 : 0 < cl.length := by omega
    refine ⟨cl[0], ?_, C.hm _ (List.getElem_mem h1)⟩
    unfold put
    refine List.mem_append_left _ (List.mem_append_left _ ?_)
    have : (cl.take p)[0]? = some cl[0] := by rw [List.getElem?_take_of_lt (by omega)]; exact List.getElem?_eq_getElem h1
    exact List.mem_of_getElem? this
theorem cl_small {cl : List (List Nat)} {m n : Nat} (C : Cl cl m n) : cl.length ≤ 1000 ∧ ∀ u ∈ cl, u.length ≤ 1000 := by
  have := C.hn
  have := C.n40
  have := C.m40
  exact ⟨by omega, fun u hu => by rw [C.hm u hu]; omega⟩
theorem no_len {cl : List (List Nat)} {m n p : Nat} (C : Cl cl m n) (hp : p < n) (h2 : 2 ≤ n) {u : List Nat} (hu : u.length ≠ m) (hs : u.length ≤ 1000) : NoCl (put cl p u) := by
  have hn := C.hn
  obtain ⟨s1, s2⟩ := cl_small C
  refine ⟨by rw [put_len (by omega)]; exact s1, fun v hv => ?_, fun ⟨m', n', C'⟩ => ?_⟩
  · rcases put_mem hv with h | h
    · exact s2 v h
    · rw [h]; exact hs
  · obtain ⟨v, hv, lv⟩ := put_other C hp h2 u
    have e1 := C'.hm v hv
    have e2 := C'.hm u (put_at (by omega) u)
    omega
theorem no_sign {cl : List (List Nat)} {m n p : Nat} (C : Cl cl m n) (hp : p < n) {u : List Nat} {c : Nat} (hc : c ∈ u) (hn2 : ¬ Sg c) (hs : u.length ≤ 1000) : NoCl (put cl p u) := by
  have hn := C.hn
  obtain ⟨s1, s2⟩ := cl_small C
  refine ⟨by rw [put_len (by omega)]; exact s1, fun v hv => ?_, fun ⟨m', n', C'⟩ => hn2 (C'.sg u (put_at (by omega) u) c hc)⟩
  rcases put_mem hv with h | h
  · exact s2 v h
  · rw [h]; exact hs
theorem no_nil : NoCl [] := ⟨by simp, fun u h => (by cases h), fun ⟨m, n, C⟩ => by have := C.hn; have := C.n1; simp at *; omega⟩
abbrev lit1 : Str := " !\"$&'()*+,-/0123456789:;<=>?@ABCDEFGHIJKLMNOPQRSTUVWXYZ[\\]^_`"
abbrev lit2 : Str := "abcdefghijklmnopqrstuvwxyz{|}~"
theorem lit_ok : (lit1 ++ lit2).cps.toList.all (fun c => decide (c ≠ 35 ∧ c ≠ 46)) = true := by decide +kernel
theorem lit_len : (lit1 ++ lit2).length = 92 := by decide +kernel
theorem lit_at {z : Int} (h0 : 0 ≤ z) (h1 : z < ((lit1 ++ lit2).length : Int)) : ∃ c, atI (lit1 ++ lit2).cps.toList z = some c ∧ ¬ Sg c := by
  have hl : (lit1 ++ lit2).cps.toList.length = (lit1 ++ lit2).length := by unfold Str.length; simp
  have hz : z.toNat < (lit1 ++ lit2).cps.toList.length := by rw [hl]; omega
  refine ⟨(lit1 ++ lit2).cps.toList[z.toNat], atI_of h0 (List.getElem?_eq_getElem hz), fun hg => ?_⟩
  have := of_decide_eq_true (List.all_eq_true.mp lit_ok _ (List.getElem_mem hz))
  rcases hg with h | h
  · exact this.1 h
  · exact this.2 h
def Spoil (H : Hp) (Q : VK) : Prop := ∀ (l : Addr) (cl' : List (List Nat)) (H' : Hp), Same H H' → H' l = some (.lst (vS cl')) → NoCl cl' → Q (.ref l) H'
theorem tx_h (u : List Nat) : tx u ++ "#" = tx (u ++ [35]) := by rw [show (("#" : Str)) = tx [35] from by decide +kernel, tx_app]
theorem by_restU {G : Prop} {R : List Nat → Prop} (C : List Nat → Prop) (main : (∀ u, C u → R u) → G) (rest : ∀ u, C u → R u) : G := main rest
def sp_olen : Sp := fun vs H Q _ => ∃ (a : Addr) (cl : List (List Nat)) (m n : Nat) (cell : Int), vs = [.ref a, .int cell] ∧ H a = some (.lst (vS cl)) ∧ Cl cl m n ∧ Spoil H Q
theorem ok_law_other_length (T : Txt K mg t) : FnOk P w K mg base CX0 1 t.f_law_other_length t.d_law_other_length ["rows", "cell"] sp_olen := by
  refine T.law_other_length.F.ok sc_law_other_length (fun vs H Q E h => ?_) (fun cdv A outer s H vs Q E hr h => ?_)
  · obtain ⟨a, cl, m, n, cell, rfl, _⟩ := h
    rfl
  · obtain ⟨a, cl, m, n, cell, rfl, ha, C, k⟩ := h
    have hsz : sizeLine = 16777216 := sizeLine_eq
    have c1 := C.n1
    have c2 := C.n40
    have c3 := C.m1
    have c4 := C.m40
    have hcn := C.hn
    have hlen : (vS cl).length = n := by rw [vS_len, hcn]
    refine ⟨_, (pss_cons (ps_set (i := 2) sc_law_other_length.nd rfl (Or.inl rfl) (pe_op op_mod (pe_op op_fdiv (pv 1) pe_int) (pe_callB (call_len_seqK (K := K)) rfl T.b_len bt_len (pa_cons (pv 0) pa_nil))))
      (pss_cons (ps_set (i := 3) sc_law_other_length.nd rfl (Or.inl rfl) (pe_op op_add_str (pe_ix (ix_listK (K := K)) (pv 0) (pv 2) (fun _ _ => rfl)) pe_str))
      (pss_cons (ps_if (PW.pt (pw_and (pt_cmpR op_eq (pe_op op_mod (pv 1) pe_int) pe_int (nomark _)) (pw_and1 (pt_cmpR op_gt (pe_callB (call_len_seqK (K := K)) rfl T.b_len bt_len (pa_cons (pv 0) pa_nil)) pe_int (nomark _)))))
        (pss_one (ps_set (i := 3) sc_law_other_length.nd rfl (Or.inl rfl) (pe_slice sl_str (pe_ix (ix_listK (K := K)) (pv 0) (pv 2) (fun _ _ => rfl)) (po_some pe_int) po_none)))
        pss_nil)
      (pss_cons (ps_if (pt_cmpR op_eq (pe_callB (call_len_seqK (K := K)) rfl T.b_len bt_len (pa_cons (pv 0) pa_nil)) pe_int (nomark _))
        (pss_one (ps_ret (pe_op op_cat (pv 0) (pe_lst (pa_cons (pv 3) pa_nil)))))
        pss_nil)
      (pss_one (ps_ret (pe_op op_cat (pe_op op_cat (pe_slice (sl_listK (K := K)) (pv 0) po_none (po_some (pv 2))) (pe_lst (pa_cons (pv 3) pa_nil))) (pe_slice (sl_listK (K := K)) (pv 0) (po_some (pe_op op_add (pv 2) pe_int)) po_none)))))))), ?_⟩
    refine ⟨_, rfl, _, _, rfl, rfl, ⟨by decide, by decide⟩, _, rfl, _, _, rfl, .inl (SqL.of ha), _, _, rfl, rfl, (by rw [hlen]; show (0 : Int) < (n : Int); omega), ?_⟩
    rw [hlen]
    obtain ⟨p, ep, hp⟩ : ∃ p : Nat, cell / 2 % (n : Int) = (p : Int) ∧ p < n := ⟨(cell / 2 % (n : Int)).toNat, by have := Int.emod_nonneg (cell / 2) (show (n : Int) ≠ 0 by omega); omega, by have := Int.emod_nonneg (cell / 2) (show (n : Int) ≠ 0 by omega); have := Int.emod_lt_of_pos (cell / 2) (show (0 : Int) < n by omega); omega⟩
    dsimp only
    rw [ep]
    have hpl : p < cl.length := by omega
    have lp := C.hm cl[p] (List.getElem_mem hpl)
    have e1 : atI (vS cl) (p : Int) = some (.str (tx cl[p])) := atI_of (by omega) (by rw [Int.toNat_natCast]; exact vS_get (List.getElem?_eq_getElem hpl))
    refine ⟨_, rfl, _, rfl, _, _, _, _, rfl, rfl, SqL.of ha, e1, _, _, rfl, rfl, (by rw [tx_len]; show _ + 1 ≤ sizeLine; omega), ?_⟩
    rw [tx_h]
    apply by_restU (fun u => u.length ≠ m ∧ u.length ≤ 100 ∧ (n = 1 → u.length = m + 1))
    · intro rest
      obtain ⟨u0, hu0⟩ : ∃ u0, u0 = cl[p] ++ [35] := ⟨_, rfl⟩
      have l0 : u0.length = m + 1 := by rw [hu0, List.length_append, List.length_singleton]; omega
      rw [← hu0]
      refine ⟨_, rfl, _, _, rfl, rfl, (by show (0 : Int) < 2; decide), rfl, _, rfl, ?_⟩
      refine ite2D ?tt ?ff
      case ff => exact fun _ => iteF (rest u0 ⟨by omega, by omega, fun _ => l0⟩)
      case tt =>
        intro _
        refine ⟨_, rfl, _, _, rfl, .inl (SqL.of ha), _, _, rfl, rfl, _, rfl, ?_⟩
        rw [hlen]
        refine ite2D ?t2 ?f2
        case f2 => exact fun _ => rest u0 ⟨by omega, by omega, fun _ => l0⟩
        case t2 =>
          intro h2
          refine ⟨_, rfl, _, rfl, _, _, _, _, rfl, rfl, SqL.of ha, e1, _, rfl, _, rfl, (by omega), ?_⟩
          rw [show cutT cl[p] (some 1) none = cl[p].drop 1 from cutT_dp (k := 1) (by omega)]
          exact rest _ ⟨by rw [List.length_drop]; omega, by rw [List.length_drop]; omega, fun z => by omega⟩
    rintro u ⟨u1, u2, u3⟩
    refine ⟨_, rfl, _, _, rfl, .inl (SqL.of ha), rfl, _, rfl, ?_⟩
    rw [hlen]
    refine ite2D (fun h => ?_) (fun h => ?_)
    · have n1 : n = 1 := by have := V.int.inj h; omega
      refine ⟨_, rfl, _, rfl, (by show 1 ≤ sizeLine; decide), fun l2 n2 => ?_⟩
      have s2 : Same H (upd H l2 (.lst [.str (tx u)])) := .upd n2
      refine ⟨_, _, _, _, rfl, rfl, s2 _ _ ha, upd_same, (by rw [hlen]; show _ + 1 ≤ sizeLine; omega), fun l3 n3 => ?_⟩
      rw [vS_app]
      obtain ⟨t1, t3⟩ := cl_small C
      refine k l3 _ _ (s2.new n3) upd_same ⟨by rw [List.length_append, List.length_singleton]; omega, fun v hv => ?_, fun ⟨m', n', C'⟩ => ?_⟩
      · rcases List.mem_append.mp hv with h | h
        · exact t3 v h
        · rw [List.mem_singleton.mp h]; omega
      · have a1 := C'.hm cl[p] (List.mem_append_left _ (List.getElem_mem hpl))
        have a2 := C'.hm u (by simp)
        omega
    · have h2 : 2 ≤ n := by
        have : n ≠ 1 := fun z => h (by rw [z]; rfl)
        omega
      have fin := no_len C hp h2 (u := u) u1 (by omega)
      refine ⟨_, rfl, _, rfl, _, rfl, _, _, rfl, SqL.of ha, fun l1 n1 => ?_⟩
      rw [cutV_to (by rw [vS_len]; omega), vS_take]
      have s1 : Same H (upd H l1 (.lst (vS (cl.take p)))) := .upd n1
      refine ⟨_, rfl, (by show 1 ≤ sizeLine; decide), fun l2 n2 => ?_⟩
      have s2 := s1.new (o := .lst [.str (tx u)]) n2
      refine ⟨_, _, _, _, rfl, rfl, (Same.upd n2) _ _ upd_same, upd_same, (by rw [vS_len, List.length_take]; show _ + 1 ≤ sizeLine; omega), fun l3 n3 => ?_⟩
      rw [vS_app]
      have s3 := s2.new (o := .lst (vS (cl.take p ++ [u]))) n3
      refine ⟨_, rfl, _, rfl, _, _, rfl, rfl, _, rfl, _, _, rfl, SqL.of (s3 _ _ ha), fun l4 n4 => ?_⟩
      rw [show (p : Int) + 1 = ((p + 1 : Nat) : Int) by omega, cutV_tail (by rw [vS_len]; omega), vS_drop]
      have s4 := s3.new (o := .lst (vS (cl.drop (p + 1)))) n4
      refine ⟨_, _, _, _, rfl, rfl, (Same.upd n4) _ _ upd_same, upd_same, (by rw [vS_len, vS_len, List.length_append, List.length_take, List.length_drop]; show _ + 1 + _ ≤ sizeLine; omega), fun l5 n5 => ?_⟩
      rw [vS_two]
      exact k l5 _ _ (s4.new n5) upd_same fin
theorem ok_law_other_sign (T : Txt K mg t) : FnOk P w K mg base CX0 1 t.f_law_other_sign t.d_law_other_sign ["rows", "cell"] sp_olen := by
  refine T.law_other_sign.F.ok sc_law_other_sign (fun vs H Q E h => ?_) (fun cdv A outer s H vs Q E hr h => ?_)
  · obtain ⟨a, cl, m, n, cell, rfl, _⟩ := h
    rfl
  · obtain ⟨a, cl, m, n, cell, rfl, ha, C, k⟩ := h
    have hsz : sizeLine = 16777216 := sizeLine_eq
    have c1 := C.n1
    have c2 := C.n40
    have c3 := C.m1
    have c4 := C.m40
    have hcn := C.hn
    have hlen : (vS cl).length = n := by rw [vS_len, hcn]
    have h0 : 0 < cl.length := by omega
    have l0 := C.hm cl[0] (List.getElem_mem h0)
    refine ⟨_, (pss_cons (ps_set (i := 2) sc_law_other_sign.nd rfl (Or.inl rfl) pe_str)
      (pss_cons (ps_set (i := 2) sc_law_other_sign.nd rfl (Or.inl rfl) (pe_op op_add_str (pv 2) pe_str))
      (pss_cons (ps_set (i := 3) sc_law_other_sign.nd rfl (Or.inl rfl) (pe_op op_mod (pv 1) (pe_callB (call_len_seqK (K := K)) rfl T.b_len bt_len (pa_cons (pv 0) pa_nil))))
      (pss_cons (ps_set (i := 4) sc_law_other_sign.nd rfl (Or.inl rfl) (pe_op op_mod (pe_op op_fdiv (pv 1) pe_int) (pe_callB call_len_str rfl T.b_len bt_len (pa_cons (pe_ix (ix_listK (K := K)) (pv 0) pe_int (fun _ _ => rfl)) pa_nil))))
      (pss_cons (ps_set (i := 5) sc_law_other_sign.nd rfl (Or.inl rfl) (pe_ix (ix_listK (K := K)) (pv 0) (pv 3) (fun _ _ => rfl)))
      (pss_cons (ps_set (i := 6) sc_law_other_sign.nd rfl (Or.inl rfl) (pe_ix ix_str (pv 2) (pe_op op_mod (pe_op op_fdiv (pv 1) pe_int) (pe_callB call_len_str rfl T.b_len bt_len (pa_cons (pv 2) pa_nil))) (fun _ _ => rfl)))
      (pss_cons (ps_set (i := 7) sc_law_other_sign.nd rfl (Or.inl rfl) (pe_op op_add_str (pe_op op_add_str (pe_slice sl_str (pv 5) po_none (po_some (pv 4))) (pv 6)) (pe_slice sl_str (pv 5) (po_some (pe_op op_add (pv 4) pe_int)) po_none)))
      (pss_one (ps_ret (pe_op op_cat (pe_op op_cat (pe_slice (sl_listK (K := K)) (pv 0) po_none (po_some (pv 3))) (pe_lst (pa_cons (pv 7) pa_nil))) (pe_slice (sl_listK (K := K)) (pv 0) (po_some (pe_op op_add (pv 3) pe_int)) po_none))))))))))), ?_⟩
    refine ⟨_, rfl, _, _, rfl, rfl, (by decide +kernel), ?_⟩
    refine ⟨_, rfl, _, rfl, _, _, rfl, .inl (SqL.of ha), _, _, rfl, rfl, (by rw [hlen]; show (0 : Int) < (n : Int); omega), ?_⟩
    rw [hlen]
    obtain ⟨p, ep, hp⟩ : ∃ p : Nat, cell % (n : Int) = (p : Int) ∧ p < n := ⟨(cell % (n : Int)).toNat, by have := Int.emod_nonneg cell (show (n : Int) ≠ 0 by omega); omega, by have := Int.emod_nonneg cell (show (n : Int) ≠ 0 by omega); have := Int.emod_lt_of_pos cell (show (0 : Int) < n by omega); omega⟩
    dsimp only
    rw [ep]
    refine ⟨_, rfl, _, _, rfl, rfl, ⟨by decide, by decide⟩, _, rfl, _, _, _, _, rfl, rfl, SqL.of ha, atI_of (by decide) (vS_get (List.getElem?_eq_getElem h0)), _, rfl, (by rw [tx_len, l0]; exact small40 c4), _, _, rfl, rfl, (by rw [tx_len, l0]; show (0 : Int) < (m : Int); omega), ?_⟩
    rw [tx_len, l0]
    obtain ⟨e, ee, he⟩ : ∃ e : Nat, cell / 40 % (m : Int) = (e : Int) ∧ e < m := ⟨(cell / 40 % (m : Int)).toNat, by have := Int.emod_nonneg (cell / 40) (show (m : Int) ≠ 0 by omega); omega, by have := Int.emod_nonneg (cell / 40) (show (m : Int) ≠ 0 by omega); have := Int.emod_lt_of_pos (cell / 40) (show (0 : Int) < m by omega); omega⟩
    dsimp only
    rw [ee]
    have hpl : p < cl.length := by omega
    have lp := C.hm cl[p] (List.getElem_mem hpl)
    have e1 : atI (vS cl) (p : Int) = some (.str (tx cl[p])) := atI_of (by omega) (by rw [Int.toNat_natCast]; exact vS_get (List.getElem?_eq_getElem hpl))
    refine ⟨_, rfl, _, rfl, _, _, _, _, rfl, rfl, SqL.of ha, e1, ?_⟩
    have lz : (0 : Int) < ((lit1 ++ lit2).length : Int) := by rw [lit_len]; decide
    obtain ⟨c, ec, nc⟩ := lit_at (z := cell / 1600 % ((lit1 ++ lit2).length : Int)) (Int.emod_nonneg _ (by omega)) (Int.emod_lt_of_pos _ lz)
    refine ⟨_, rfl, _, rfl, _, _, rfl, rfl, ⟨by decide, by decide⟩, _, rfl, _, rfl, (by rw [lit_len]; decide), _, _, rfl, rfl, lz, _, _, c, rfl, rfl, (by rw [lit_len]; decide), ec, ?_⟩
    refine ⟨_, rfl, _, rfl, _, rfl, _, rfl, (by omega), ?_⟩
    rw [cutT_tk (by omega)]
    refine ⟨_, rfl, _, _, rfl, rfl, (by rw [tx_len, List.length_take]; show _ + 1 ≤ sizeLine; omega), ?_⟩
    rw [tx_one, tx_app]
    refine ⟨_, rfl, _, rfl, _, _, rfl, rfl, _, rfl, _, rfl, (by omega), ?_⟩
    rw [show (e : Int) + 1 = ((e + 1 : Nat) : Int) by omega, cutT_dp (by omega)]
    refine ⟨_, _, rfl, rfl, (by rw [tx_len, tx_len, List.length_append, List.length_take, List.length_drop]; show _ + 1 + _ ≤ sizeLine; omega), ?_⟩
    rw [tx_app]
    have fin := no_sign C hp (u := cl[p].take e ++ [c] ++ cl[p].drop (e + 1)) (c := c) (by simp) nc (by rw [List.length_append, List.length_append, List.length_take, List.length_drop, List.length_singleton]; omega)
    obtain ⟨row, hrow⟩ : ∃ row, row = cl[p].take e ++ [c] ++ cl[p].drop (e + 1) := ⟨_, rfl⟩
    rw [← hrow] at fin ⊢
    refine ⟨_, rfl, _, rfl, _, rfl, _, _, rfl, SqL.of ha, fun l1 n1 => ?_⟩
    rw [cutV_to (by rw [vS_len]; omega), vS_take]
    have s1 : Same H (upd H l1 (.lst (vS (cl.take p)))) := .upd n1
    refine ⟨_, rfl, (by show 1 ≤ sizeLine; decide), fun l2 n2 => ?_⟩
    have s2 := s1.new (o := .lst [.str (tx row)]) n2
    refine ⟨_, _, _, _, rfl, rfl, (Same.upd n2) _ _ upd_same, upd_same, (by rw [vS_len, List.length_take]; show _ + 1 ≤ sizeLine; omega), fun l3 n3 => ?_⟩
    rw [vS_app]
    have s3 := s2.new (o := .lst (vS (cl.take p ++ [row]))) n3
    refine ⟨_, rfl, _, rfl, _, _, rfl, rfl, _, rfl, _, _, rfl, SqL.of (s3 _ _ ha), fun l4 n4 => ?_⟩
    rw [show (p : Int) + 1 = ((p + 1 : Nat) : Int) by omega, cutV_tail (by rw [vS_len]; omega), vS_drop]
    have s4 := s3.new (o := .lst (vS (cl.drop (p + 1)))) n4
    refine ⟨_, _, _, _, rfl, rfl, (Same.upd n4) _ _ upd_same, upd_same, (by rw [vS_len, vS_len, List.length_append, List.length_take, List.length_drop]; show _ + 1 + _ ≤ sizeLine; omega), fun l5 n5 => ?_⟩
    rw [vS_two]
    exact k l5 _ _ (s4.new n5) upd_same fin
end
end Mine
set_option Elab.async false
set_option linter.all false
set_option maxRecDepth 100000
set_option maxHeartbeats 4000000
namespace Mine
open PySem L2
section
variable {P : Program} {w : World} {K : PySem.W.Frag} {mg : Str → Option Value} {base : Heap} {t : Adr}
theorem no_long {cl : List (List Nat)} (h1 : 40 < cl.length) (h2 : cl.length ≤ 1000) (h3 : ∀ u ∈ cl, u.length ≤ 1000) : NoCl cl := ⟨h2, h3, fun ⟨m, n, C⟩ => by have := C.hn; have := C.n40; omega⟩
theorem no_far {cl : List (List Nat)} {L : Nat} (h1 : 40 < L ∨ L = 0) (hL : L ≤ 1000) (h0 : 0 < cl.length) (h2 : cl.length ≤ 1000) (h3 : ∀ u ∈ cl, u.length = L) : NoCl cl := ⟨h2, fun u hu => by rw [h3 u hu]; exact hL, fun ⟨m, n, C⟩ => by
  have a1 := C.hm cl[0] (List.getElem_mem h0)
  have a2 := h3 cl[0] (List.getElem_mem h0)
  have := C.m40
  have := C.m1
  omega⟩
theorem cutT_min (u : List Nat) (k : Nat) : cutT u none (some (k : Int)) = u.take (min k u.length) := by
  unfold cutT
  rw [HT.sIx_none, HT.sIx_nat, List.drop_zero, Nat.sub_zero]
theorem rep_len9 (u : List Nat) : ∀ k, ((List.replicate k u).flatten).length = k * u.length
  | 0 => by simp
  | k + 1 => by rw [List.replicate_succ, List.flatten_cons, List.length_append, rep_len9 u k, Nat.add_mul, Nat.one_mul]; omega
def sp_spoiled : Sp := sp_olen
theorem ok_law_spoiled (T : Txt K mg t) : FnOk P w K mg base CX0 2 t.f_law_spoiled t.d_law_spoiled ["rows", "cell"] sp_spoiled := by
  have G_law_other_length : FnOk P w K mg base CX0 1 t.f_law_other_length t.d_law_other_length _ _ := ok_law_other_length T
  have G_law_other_sign : FnOk P w K mg base CX0 1 t.f_law_other_sign t.d_law_other_sign _ _ := ok_law_other_sign T
  refine T.law_spoiled.F.ok sc_law_spoiled (fun vs H Q E h => ?_) (fun cdv A outer s H vs Q E hr h => ?_)
  · obtain ⟨a, cl, m, n, cell, rfl, _⟩ := h
    rfl
  · obtain ⟨a, cl, m, n, cell, rfl, ha, C, k⟩ := h
    have hsz : sizeLine = 16777216 := sizeLine_eq
    have c1 := C.n1
    have c2 := C.n40
    have c3 := C.m1
    have c4 := C.m40
    have hcn := C.hn
    have hlen : (vS cl).length = n := by rw [vS_len, hcn]
    obtain ⟨N, eN, N1, N2⟩ : ∃ N : Nat, 41 + cell / 7 % 20 = (N : Int) ∧ 41 ≤ N ∧ N ≤ 60 := ⟨(41 + cell / 7 % 20).toNat, by have := Int.emod_nonneg (cell / 7) (show (20 : Int) ≠ 0 by decide); omega, by have := Int.emod_nonneg (cell / 7) (show (20 : Int) ≠ 0 by decide); omega, by have := Int.emod_lt_of_pos (cell / 7) (show (0 : Int) < 20 by decide); omega⟩
    refine ⟨_, (pss_cons (ps_set (i := 2) sc_law_spoiled.nd rfl (Or.inr rfl) (pe_op op_fdiv (pv 1) pe_int))
      (pss_cons (ps_if (pt_cmpR op_eq (pe_op op_mod (pv 1) pe_int) pe_int (nomark _))
        (pss_one (ps_ret (pe_lst pa_nil)))
        pss_nil)
      (pss_cons (ps_if (pt_cmpR op_eq (pe_op op_mod (pv 1) pe_int) pe_int (nomark _))
        (pss_one (ps_ret (pe_comp (CompOk.mk (caps := [0]) (Nc := ["k", "rows"]) rfl (by decide +kernel) (by decide +kernel) (comp_fr (sc0 := defScope s_law_spoiled) rfl (by decide +kernel)) rfl rfl rfl (by decide +kernel) (fun k j h => match k, h with | 0, h => by obtain rfl := Option.some.inj h; exact ⟨_, rfl, rfl, rfl⟩ | _ + 1, h => by simp at h)) rfl (pi_range1 rfl T.b_range (pa_cons (pe_op op_add pe_int (pe_op op_mod (pv 2) pe_int)) pa_nil)) (fun _ _ _ _ _ => .nil) (fun _ _ _ _ _ => (pe_ix (ix_listK (K := K)) (pv 1) (pe_op op_mod (pv 0) (pe_callB (call_len_seqK (K := K)) rfl T.b_len bt_len (pa_cons (pv 1) pa_nil))) (fun _ _ => rfl))))))
        pss_nil)
      (pss_cons (ps_if (pt_cmpR op_eq (pe_op op_mod (pv 1) pe_int) pe_int (nomark _))
        (pss_one (ps_ret (pe_comp (CompOk.mk (caps := [2]) (Nc := ["text", "rest"]) rfl (by decide +kernel) (by decide +kernel) (comp_fr (sc0 := defScope s_law_spoiled) rfl (by decide +kernel)) rfl rfl rfl (by decide +kernel) (fun k j h => match k, h with | 0, h => by obtain rfl := Option.some.inj h; exact ⟨_, rfl, rfl, rfl⟩ | _ + 1, h => by simp at h)) rfl (pi_listK (K := K) (pv 0)) (fun _ _ _ _ _ => .nil) (fun _ _ _ _ _ => (pe_slice sl_str (pe_op op_repS (pv 0) pe_int) po_none (po_some (pe_op op_add pe_int (pe_op op_mod (pv 1) pe_int))))))))
        pss_nil)
      (pss_cons (ps_if (pt_cmpR op_eq (pe_op op_mod (pv 1) pe_int) pe_int (nomark _))
        (pss_one (ps_ret (pe_comp (CompOk.mk (caps := []) (Nc := ["text"]) rfl (by decide +kernel) (by decide +kernel) (comp_fr (sc0 := defScope s_law_spoiled) rfl (by decide +kernel)) rfl rfl rfl (by decide +kernel) (fun _ _ h => by simp at h)) rfl (pi_listK (K := K) (pv 0)) (fun _ _ _ _ _ => .nil) (fun _ _ _ _ _ => pe_str))))
        pss_nil)
      (pss_cons (ps_if (pt_cmpR op_eq (pe_op op_mod (pv 1) pe_int) pe_int (nomark _))
        (pss_one (ps_ret (pe_call (G_law_other_length.mono (by decide)) hr rfl T.law_other_length.m T.law_other_length.F.kp T.law_other_length.b .nil pass0 (pa_cons (pv 0) (pa_cons (pv 2) pa_nil)))))
        pss_nil)
      (pss_one (ps_ret (pe_call (G_law_other_sign.mono (by decide)) hr rfl T.law_other_sign.m T.law_other_sign.F.kp T.law_other_sign.b .nil pass0 (pa_cons (pv 0) (pa_cons (pv 2) pa_nil))))))))))), ?_⟩
    refine ⟨_, rfl, _, _, rfl, rfl, ⟨by decide, by decide⟩, ?_⟩
    refine ⟨_, rfl, _, _, rfl, rfl, (by show (0 : Int) < 7; decide), rfl, _, rfl, ?_⟩
    refine ite2D (fun _ => ?_) (fun _ => ?_)
    · refine ⟨Nat.zero_le _, fun l nl => ?_⟩
      exact k l [] _ (.upd nl) upd_same no_nil
    refine ⟨_, rfl, _, _, rfl, rfl, (by show (0 : Int) < 7; decide), rfl, _, rfl, ?_⟩
    refine ite2D (fun _ => ?_) (fun _ => ?_)
    · refine ⟨_, rfl, _, _, rfl, rfl, (by show (0 : Int) < 20; decide), _, _, rfl, rfl, _, rfl, (by omega), (by omega), ?_⟩
      rw [eN, Int.toNat_natCast]
      refine comp_range (lo := 0) (n := N) (fun i ys H2 => H2 = H ∧ ∃ ds : List (List Nat), ys = vS ds ∧ ds.length = i ∧ ∀ u ∈ ds, u.length = m) ⟨rfl, [], rfl, rfl, fun _ h => absurd h (by simp)⟩ ?_ ?_ ?_ ?_
      · rintro i ys H2 hi ⟨rfl, ds, rfl, dl, _⟩
        rw [vS_len, dl]
        exact Nat.le_refl _
      · omega
      · rintro i ys H2 hi ⟨rfl, ds, rfl, dl, dm⟩
        have hix : (0 + (i : Int)) % (n : Int) = ((i % n : Nat) : Int) := by rw [Int.zero_add]; omega
        have hlt : i % n < cl.length := by rw [hcn]; exact Nat.mod_lt _ (by omega)
        refine CTurn.no ?_
        refine ⟨_, rfl, _, rfl, _, rfl, _, _, rfl, .inl (SqL.of ha), _, _, rfl, rfl, (by rw [hlen]; show (0 : Int) < (n : Int); omega), _, _, _, _, rfl, rfl, SqL.of ha, (by rw [hlen]; exact atI_of (by rw [hix]; omega) (by rw [hix, Int.toNat_natCast]; exact vS_get (List.getElem?_eq_getElem hlt))), ?_⟩
        refine CN.of hi ⟨rfl, ds ++ [cl[i % n]], vS_app _ _, by rw [List.length_append, dl]; rfl, fun u hu => ?_⟩
        rcases List.mem_append.mp hu with h | h
        · exact dm u h
        · rw [List.mem_singleton.mp h]; exact C.hm _ (List.getElem_mem hlt)
      · rintro ys H2 l ⟨rfl, ds, rfl, dl, dm⟩ nl
        exact k l ds _ (.upd nl) upd_same (no_long (by omega) (by omega) fun u hu => by rw [dm u hu]; omega)
    refine ⟨_, rfl, _, _, rfl, rfl, (by show (0 : Int) < 7; decide), rfl, _, rfl, ?_⟩
    refine ite2D (fun _ => ?_) (fun _ => ?_)
    · refine ⟨_, rfl, _, rfl, ⟨_, SqL.of ha⟩, comp_list (K := K) (a := a) (xs := vS cl) (fun i ys H2 => H2 = H ∧ ∃ ds : List (List Nat), ys = vS ds ∧ ds.length = i ∧ ∀ u ∈ ds, u.length = min N (41 * m)) ⟨rfl, [], rfl, rfl, fun _ h => absurd h (by simp)⟩ ?_ ?_ ?_ ?_⟩
      · rintro i ys H2 hi ⟨rfl, ds, rfl, dl, _⟩
        exact ⟨SqL.of ha, by rw [vS_len, dl]; exact Nat.le_refl _⟩
      · rw [hlen]; omega
      · rintro i x ys H2 hi hx ⟨rfl, ds, rfl, dl, dm⟩
        obtain ⟨u, hu, rfl⟩ := vS_got hx
        have ul := C.hm u (List.mem_of_getElem? hu)
        have rl : ((List.replicate 41 u).flatten).length = 41 * m := by rw [rep_len9, ul]
        refine CTurn.no ?_
        refine ⟨_, rfl, u, 41, rfl, rfl, by decide, by decide, (by rw [ul]; show m * 41 ≤ sizeLine; omega), ?_⟩
        refine ⟨_, rfl, _, _, rfl, rfl, (by show (0 : Int) < 20; decide), _, _, rfl, rfl, _, rfl, _, rfl, (by show ((List.replicate 41 u).flatten).length ≤ _; rw [rl]; omega), ?_⟩
        rw [eN]
        refine CN.of hi ⟨rfl, ds ++ [((List.replicate 41 u).flatten).take (min N (41 * m))], ?_, by rw [List.length_append, dl]; rfl, fun v hv => ?_⟩
        · rw [← vS_app]
          congr 3
          have := cutT_min ((List.replicate 41 u).flatten) N
          rw [rl] at this
          exact congrArg tx this
        · rcases List.mem_append.mp hv with h | h
          · exact dm v h
          · rw [List.mem_singleton.mp h, List.length_take, rl]; omega
      · rintro ys H2 l ⟨rfl, ds, rfl, dl, dm⟩ nl
        exact k l ds _ (.upd nl) upd_same (no_far (L := min N (41 * m)) (.inl (by omega)) (by omega) (by omega) (by omega) dm)
    refine ⟨_, rfl, _, _, rfl, rfl, (by show (0 : Int) < 7; decide), rfl, _, rfl, ?_⟩
    refine ite2D (fun _ => ?_) (fun _ => ?_)
    · refine ⟨_, rfl, _, rfl, ⟨_, SqL.of ha⟩, comp_list (K := K) (a := a) (xs := vS cl) (fun i ys H2 => H2 = H ∧ ys = vS (List.replicate i [])) ⟨rfl, rfl⟩ ?_ ?_ ?_ ?_⟩
      · rintro i ys H2 hi ⟨rfl, rfl⟩
        exact ⟨SqL.of ha, by rw [vS_len, List.length_replicate]; exact Nat.le_refl _⟩
      · rw [hlen]; omega
      · rintro i x ys H2 hi hx ⟨rfl, rfl⟩
        refine CTurn.no ?_
        show CN (vS cl).length (fun i ys H2' => H2' = H2 ∧ ys = vS (List.replicate i [])) i (vS (List.replicate i []) ++ [V.str ""]) H2
        refine CN.of hi ⟨rfl, ?_⟩
        rw [List.replicate_succ', ← vS_app]
        rw [show (("" : Str)) = tx [] from by decide +kernel]
      · rintro ys H2 l ⟨rfl, rfl⟩ nl
        exact k l _ _ (.upd nl) upd_same (no_far (L := 0) (.inr rfl) (by decide) (by rw [List.length_replicate, hlen]; omega) (by rw [List.length_replicate, hlen]; omega) fun u hu => by rw [List.eq_of_mem_replicate hu]; rfl)
    refine ⟨_, rfl, _, _, rfl, rfl, (by show (0 : Int) < 7; decide), rfl, _, rfl, ?_⟩
    refine ite2D (fun _ => ?_) (fun _ => ?_)
    · exact ⟨_, rfl, _, rfl, a, cl, m, n, _, rfl, ha, C, k⟩
    · exact ⟨_, rfl, _, rfl, a, cl, m, n, _, rfl, ha, C, k⟩
end
end Mine
set_option Elab.async false
set_option linter.all false
set_option maxRecDepth 100000
set_option maxHeartbeats 4000000
namespace Mine
open PySem L2
section
variable {P : Program} {w : World} {K : PySem.W.Frag} {mg : Str → Option Value} {base : Heap} {t : Adr}
def sp_law (K : PySem.W.Frag) (tT : Addr) : Sp := fun vs H Q _ => ∃ (a : Addr) (ns : List Int), vs = [.ref a] ∧ SqL K H a (vI ns) ∧ ns.length ≤ 63 ∧ Tb tT "layers_of.<locals>.<lambda>" H ∧ ∀ H', Q (.bl true) H'
theorem sp_law_holds {K : PySem.W.Frag} {tT : Addr} {H : Hp} {a : Addr} {ns : List Int} (hl : ns.length ≤ 63) (hS : SqL K H a (ns.map V.int)) (tb : Tb tT "layers_of.<locals>.<lambda>" H) : sp_law K tT [.ref a] H (fun v _ => v = .bl true) fun _ _ _ => False := ⟨a, ns, rfl, hS, hl, tb, fun _ => rfl⟩
theorem ok_law {tc tT : Addr} (T : Txt K mg t) (hcd : t.d_layers_of.code = .ref tc) (hCd : PySem.W.CodeHd base tc tT) (hBm : Bm mg base) : FnOk P w K mg base CX0 10 t.f_law t.d_law ["script"] (sp_law K tT) := by
  have G_law_cloth : FnOk P w K mg base CX0 3 t.f_law_cloth t.d_law_cloth _ _ := ok_law_cloth T
  have G_law_at : FnOk P w K mg base CX0 1 t.f_law_at t.d_law_at _ _ := ok_law_at T
  have G_law_spoiled : FnOk P w K mg base CX0 2 t.f_law_spoiled t.d_law_spoiled _ _ := ok_law_spoiled T
  have G_law_caught : FnOk P w K mg base CX0 9 t.f_law_caught t.d_law_caught _ _ := ok_law_caught T hcd hCd hBm
  have G_law_refused : FnOk P w K mg base CX0 2 t.f_law_refused t.d_law_refused _ _ := ok_law_refused T
  refine T.law.F.ok sc_law (fun vs H Q E h => ?_) (fun cdv A outer s H vs Q E hr h => ?_)
  · obtain ⟨a, ns, rfl, _⟩ := h
    rfl
  · obtain ⟨a, ns, rfl, hS, hl, tb, k⟩ := h
    have hsz : sizeLine = 16777216 := sizeLine_eq
    refine ⟨_, (pss_cons (ps_set (i := 1) sc_law.nd rfl (Or.inl rfl) (pe_call (G_law_cloth.mono (by decide)) hr rfl T.law_cloth.m T.law_cloth.F.kp T.law_cloth.b .nil pass0 (pa_cons (pv 0) (pa_cons pe_int pa_nil))))
      (pss_cons (ps_set (i := 2) sc_law.nd rfl (Or.inl rfl) (pe_callB call_len_str rfl T.b_len bt_len (pa_cons (pe_ix (ix_listK (K := K)) (pv 1) pe_int (fun _ _ => rfl)) pa_nil)))
      (pss_cons (ps_set (i := 3) sc_law.nd rfl (Or.inl rfl) (pe_call (G_law_spoiled.mono (by decide)) hr rfl T.law_spoiled.m T.law_spoiled.F.kp T.law_spoiled.b .nil pass0 (pa_cons (pv 1) (pa_cons (pe_call (G_law_at.mono (by decide)) hr rfl T.law_at.m T.law_at.F.kp T.law_at.b .nil pass0 (pa_cons (pv 0) (pa_cons pe_int pa_nil))) pa_nil))))
      (pss_cons (ps_set (i := 4) sc_law.nd rfl (Or.inl rfl) (pe_op op_mod (pe_call (G_law_at.mono (by decide)) hr rfl T.law_at.m T.law_at.F.kp T.law_at.b .nil pass0 (pa_cons (pv 0) (pa_cons pe_int pa_nil))) (pv 2)))
      (pss_cons (ps_set (i := 5) sc_law.nd rfl (Or.inl rfl) (pe_op op_add (pv 2) (pe_op op_mod (pe_call (G_law_at.mono (by decide)) hr rfl T.law_at.m T.law_at.F.kp T.law_at.b .nil pass0 (pa_cons (pv 0) (pa_cons pe_int pa_nil))) (pe_callB (call_len_seqK (K := K)) rfl T.b_len bt_len (pa_cons (pv 1) pa_nil)))))
      (pss_cons (ps_set (i := 6) sc_law.nd rfl (Or.inl rfl) (pe_op op_mod (pe_call (G_law_at.mono (by decide)) hr rfl T.law_at.m T.law_at.F.kp T.law_at.b .nil pass0 (pa_cons (pv 0) (pa_cons pe_int pa_nil))) (pe_op op_pow pe_int pe_int)))
      (pss_cons (ps_for PassesOwn.never rfl (pi_range1 rfl T.b_range (pa_cons pe_int pa_nil)) (pg_name (i := 7) sc_law.nd rfl (Or.inl rfl))
        (pss_cons (ps_if (pt_cmpR op_notN (pe_call (G_law_caught.mono (by decide)) hr rfl T.law_caught.m T.law_caught.F.kp T.law_caught.b .nil pass0 (pa_cons (pv 7) (pa_cons (pe_callTy (call_list_ofK (K := K)) rfl T.b_list bt_list (pa_cons (pv 1) pa_nil)) (pa_cons (pv 4) (pa_cons (pv 5) (pa_cons (pe_lst (pa_cons (pv 4) (pa_cons (pv 5) pa_nil))) pa_nil)))))) pe_non (nomark _))
          (pss_one (ps_ret pe_bl))
          pss_nil)
        (pss_cons (ps_if (pt_not (pt_val (pe_call (G_law_refused.mono (by decide)) hr rfl T.law_refused.m T.law_refused.F.kp T.law_refused.b .nil pass0 (pa_cons (pe_call (G_law_caught.mono (by decide)) hr rfl T.law_caught.m T.law_caught.F.kp T.law_caught.b .nil pass0 (pa_cons (pv 7) (pa_cons (pe_callTy (call_list_ofK (K := K)) rfl T.b_list bt_list (pa_cons (pv 3) pa_nil)) (pa_cons (pv 4) (pa_cons (pv 5) (pa_cons (pe_lst (pa_cons (pv 4) (pa_cons (pv 5) pa_nil))) pa_nil)))))) pa_nil))))
          (pss_one (ps_ret pe_bl))
          pss_nil)
        (pss_one (ps_if (pt_not (pt_val (pe_call (G_law_refused.mono (by decide)) hr rfl T.law_refused.m T.law_refused.F.kp T.law_refused.b .nil pass0 (pa_cons (pe_call (G_law_caught.mono (by decide)) hr rfl T.law_caught.m T.law_caught.F.kp T.law_caught.b .nil pass0 (pa_cons (pv 7) (pa_cons (pe_callTy (call_list_ofK (K := K)) rfl T.b_list bt_list (pa_cons (pv 3) pa_nil)) (pa_cons (pe_op op_sub (pe_un un_neg pe_int) (pv 6)) (pa_cons (pe_op op_add (pv 6) pe_int) (pa_cons (pe_lst (pa_cons (pv 5) (pa_cons (pv 4) pa_nil))) pa_nil)))))) pa_nil))))
          (pss_one (ps_ret pe_bl))
          pss_nil)))))
      (pss_one (ps_ret pe_bl))))))))), ?_⟩
    refine ⟨_, rfl, a, ns, 24, rfl, hS, hl, by decide, by decide, fun lr cl m n H1 s1 nlr hlr C m30 n30 => ?_⟩
    have h0 : 0 < cl.length := by rw [C.hn]; exact C.n1
    have hm0 := C.hm cl[0] (List.getElem_mem h0)
    have m1 := C.m1
    have n1 := C.n1
    have hlen : (vS cl).length = n := by rw [vS_len, C.hn]
    have a0 : atI (vS cl) 0 = some (.str (tx cl[0])) := atI_of (by decide) (vS_get (List.getElem?_eq_getElem h0))
    refine ⟨_, rfl, _, _, _, _, rfl, rfl, SqL.of hlr, a0, _, rfl, (by rw [tx_len, hm0]; exact small40 C.m40), ?_⟩
    rw [tx_len, hm0]
    refine ⟨_, rfl, _, rfl, a, ns, 4, rfl, s1.seq hS, by decide, fun c4 => ?_⟩
    refine ⟨lr, cl, m, n, c4, rfl, hlr, C, fun ls cl' H2 s2 hls NC => ?_⟩
    have u2 := s1.trans s2
    refine ⟨_, rfl, a, ns, 5, rfl, u2.seq hS, by decide, fun c5 => ?_⟩
    refine ⟨_, rfl, _, _, rfl, rfl, (by show (0 : Int) < (m : Int); omega), ?_⟩
    obtain ⟨u, eu, hu⟩ : ∃ u : Nat, c5 % (m : Int) = (u : Int) ∧ u < m := ⟨(c5 % (m : Int)).toNat, by have := Int.emod_nonneg c5 (show (m : Int) ≠ 0 by omega); omega, by have := Int.emod_nonneg c5 (show (m : Int) ≠ 0 by omega); have := Int.emod_lt_of_pos c5 (show (0 : Int) < m by omega); omega⟩
    dsimp only
    rw [eu]
    have hlr2 := s2 _ _ hlr
    refine ⟨_, rfl, _, rfl, a, ns, 6, rfl, u2.seq hS, by decide, fun c6 => ?_⟩
    refine ⟨_, rfl, _, _, rfl, .inl (SqL.of hlr2), _, _, rfl, rfl, (by rw [hlen]; show (0 : Int) < (n : Int); omega), _, _, rfl, rfl, ?_⟩
    rw [hlen]
    obtain ⟨v, ev, hv1, hv2⟩ : ∃ v : Nat, (m : Int) + c6 % (n : Int) = (v : Int) ∧ m ≤ v ∧ v < m + n := ⟨((m : Int) + c6 % (n : Int)).toNat, by have := Int.emod_nonneg c6 (show (n : Int) ≠ 0 by omega); omega, by have := Int.emod_nonneg c6 (show (n : Int) ≠ 0 by omega); omega, by have := Int.emod_nonneg c6 (show (n : Int) ≠ 0 by omega); have := Int.emod_lt_of_pos c6 (show (0 : Int) < n by omega); omega⟩
    dsimp only
    rw [ev]
    refine ⟨_, rfl, a, ns, 7, rfl, u2.seq hS, by decide, fun c7 => ?_⟩
    refine ⟨_, _, rfl, rfl, ⟨by decide, by decide, by decide⟩, _, _, rfl, rfl, (by show (0 : Int) < 10 ^ 60; decide), ?_⟩
    obtain ⟨bd, ebd⟩ : ∃ bd : Int, bd = c7 % 10 ^ 60 := ⟨_, rfl⟩
    have tb2 := tb.same u2
    refine ⟨_, rfl, (by decide), (by decide), ?_⟩
    refine for_range (lo := 0) (n := 8) (fun i σ H3 => ∃ (v7 : Option V), σ = [some (.ref a), some (.ref lr), some (.int (m : Int)), some (.ref ls), some (.int (u : Int)), some (.int (v : Int)), some (.int (c7 % 10 ^ 60)), v7] ∧ SameT H2 H3 ∧ Tb tT "layers_of.<locals>.<lambda>" H3)
      ⟨none, rfl, (Same.refl H2).toT, tb2⟩ ?_ ?_
    · rintro i σ H3 hi ⟨v7, rfl, t3, tb3⟩
      have hlr3 := t3.lst hlr2
      refine ⟨_, rfl, _, rfl, _, _, rfl, .inl (SqL.of hlr3), fun l1 nl1 => ?_⟩
      have s4 : Same H3 (upd H3 l1 (.lst (vS cl))) := .upd nl1
      have g4 : (upd H3 l1 (.lst (vS cl))) l1 = some (.lst (vS cl)) := upd_same
      generalize upd H3 l1 (.lst (vS cl)) = H4 at s4 g4 ⊢
      refine ⟨_, rfl, _, rfl, _, rfl, _, rfl, (by show 2 ≤ sizeLine; decide), fun b1 nb1 => ?_⟩
      have s5 : Same H4 (upd H4 b1 (.lst [.int (u : Int), .int (v : Int)])) := .upd nb1
      have g5 : (upd H4 b1 (.lst [.int (u : Int), .int (v : Int)])) b1 = some (.lst (vI (cI [u, v]))) := upd_same
      generalize upd H4 b1 (.lst [.int (u : Int), .int (v : Int)]) = H5 at s5 g5 ⊢
      have v5 := s4.trans s5
      refine .inl ⟨l1, b1, cl, m, n, u, v, _, rfl, SqL.of (s5 _ _ g4), C, by omega, tb3.same v5, hu, hv1, hv2, SqL.of g5, fun x H6 t6 tb6 => ?_⟩
      refine ⟨rfl, false, rfl, ?_⟩
      refine iteF ?_
      have t6' : SameT H2 H6 := t3.trans (v5.toT.trans t6)
      have hls6 := t6'.lst hls
      refine ⟨_, rfl, _, rfl, _, _, rfl, .inl (SqL.of hls6), fun l2 nl2 => ?_⟩
      have s7 : Same H6 (upd H6 l2 (.lst (vS cl'))) := .upd nl2
      have g7 : (upd H6 l2 (.lst (vS cl'))) l2 = some (.lst (vS cl')) := upd_same
      generalize upd H6 l2 (.lst (vS cl')) = H7 at s7 g7 ⊢
      refine ⟨_, rfl, _, rfl, _, rfl, _, rfl, (by show 2 ≤ sizeLine; decide), fun b2 nb2 => ?_⟩
      have s8 := Same.upd (o := .lst [.int (u : Int), .int (v : Int)]) nb2
      generalize upd H7 b2 (.lst [.int (u : Int), .int (v : Int)]) = H8 at s8 ⊢
      refine .inr ⟨l2, cl', _, _, _, _, rfl, SqL.of (s8 _ _ g7), NC, fun ea nea => ?_⟩
      have s9 := Same.upd (o := exH t.e_NoCloth ea) nea
      refine ⟨ea, rfl, upd_same, _, rfl, ?_⟩
      refine iteF ?_
      have w9 := (s7.trans s8).trans s9
      generalize upd H8 ea (exH t.e_NoCloth ea) = H9 at s9 w9 ⊢
      have hls9 := w9 _ _ hls6
      refine ⟨_, rfl, _, rfl, _, _, rfl, .inl (SqL.of hls9), fun l3 nl3 => ?_⟩
      have s10 : Same H9 (upd H9 l3 (.lst (vS cl'))) := .upd nl3
      have g10 : (upd H9 l3 (.lst (vS cl'))) l3 = some (.lst (vS cl')) := upd_same
      generalize upd H9 l3 (.lst (vS cl')) = H10 at s10 g10 ⊢
      refine ⟨_, rfl, _, rfl, _, _, rfl, rfl, _, rfl, _, _, rfl, rfl, _, rfl, _, rfl, (by show 2 ≤ sizeLine; decide), fun b3 nb3 => ?_⟩
      have s11 := Same.upd (o := .lst [.int (v : Int), .int (u : Int)]) nb3
      generalize upd H10 b3 (.lst [.int (v : Int), .int (u : Int)]) = H11 at s11 ⊢
      refine .inr ⟨l3, cl', _, _, _, _, rfl, SqL.of (s11 _ _ g10), NC, fun eb neb => ?_⟩
      have s12 := Same.upd (o := exH t.e_NoCloth eb) neb
      refine ⟨eb, rfl, upd_same, _, rfl, ?_⟩
      refine iteF ?_
      have w12 := w9.trans ((s10.trans s11).trans s12)
      exact ⟨_, rfl, t6'.trans w12.toT, tb6.same w12⟩
    · rintro σ H3 ⟨v7, rfl, t3, tb3⟩
      exact k _
end
end Mine
set_option Elab.async false
set_option linter.all false
set_option maxRecDepth 100000
set_option maxHeartbeats 4000000
namespace Mine
open PySem L2
theorem law_mk {P : Program} {w : World} {K : PySem.W.Frag} {h : Heap} {mg : Str → Option Value} {fa tc tT : Addr} {t1 : Value} {t2 : Option Addr} {t3 : Array (Option Value)} {tvs : Array Value} {f_measured : Addr} {od_measured an_measured : Option Addr} {sl_measured : Array (Option Value)} {oc_measured kV_measured dc_measured pm_measured cd_measured ct_measured : Value}
    {f_measured_texts : Addr} {od_measured_texts an_measured_texts : Option Addr} {sl_measured_texts : Array (Option Value)} {oc_measured_texts kV_measured_texts dc_measured_texts pm_measured_texts cd_measured_texts ct_measured_texts : Value}
    {f_check_pick : Addr} {od_check_pick an_check_pick : Option Addr} {sl_check_pick : Array (Option Value)} {oc_check_pick kV_check_pick dc_check_pick pm_check_pick cd_check_pick ct_check_pick : Value}
    {f_check_strand : Addr} {od_check_strand an_check_strand : Option Addr} {sl_check_strand : Array (Option Value)} {oc_check_strand kV_check_strand dc_check_strand pm_check_strand cd_check_strand ct_check_strand : Value}
    {f_end_signs : Addr} {od_end_signs an_end_signs : Option Addr} {sl_end_signs : Array (Option Value)} {oc_end_signs kV_end_signs dc_end_signs pm_end_signs cd_end_signs ct_end_signs : Value}
    {f_strand_over : Addr} {od_strand_over an_strand_over : Option Addr} {sl_strand_over : Array (Option Value)} {oc_strand_over kV_strand_over dc_strand_over pm_strand_over cd_strand_over ct_strand_over : Value}
    {f_scores_of : Addr} {od_scores_of an_scores_of : Option Addr} {sl_scores_of : Array (Option Value)} {oc_scores_of kV_scores_of dc_scores_of pm_scores_of cd_scores_of ct_scores_of : Value}
    {f_tops_of : Addr} {od_tops_of an_tops_of : Option Addr} {sl_tops_of : Array (Option Value)} {oc_tops_of kV_tops_of dc_tops_of pm_tops_of cd_tops_of ct_tops_of : Value}
    {f_layers_of : Addr} {od_layers_of an_layers_of : Option Addr} {sl_layers_of : Array (Option Value)} {oc_layers_of kV_layers_of dc_layers_of pm_layers_of cd_layers_of ct_layers_of : Value}
    {f_layer_numbers : Addr} {od_layer_numbers an_layer_numbers : Option Addr} {sl_layer_numbers : Array (Option Value)} {oc_layer_numbers kV_layer_numbers dc_layer_numbers pm_layer_numbers cd_layer_numbers ct_layer_numbers : Value}
    {f_check_set : Addr} {od_check_set an_check_set : Option Addr} {sl_check_set : Array (Option Value)} {oc_check_set kV_check_set dc_check_set pm_check_set cd_check_set ct_check_set : Value}
    {f_lower_strands : Addr} {od_lower_strands an_lower_strands : Option Addr} {sl_lower_strands : Array (Option Value)} {oc_lower_strands kV_lower_strands dc_lower_strands pm_lower_strands cd_lower_strands ct_lower_strands : Value}
    {f_lower_within : Addr} {od_lower_within an_lower_within : Option Addr} {sl_lower_within : Array (Option Value)} {oc_lower_within kV_lower_within dc_lower_within pm_lower_within cd_lower_within ct_lower_within : Value}
    {f_ways_from : Addr} {od_ways_from an_ways_from : Option Addr} {sl_ways_from : Array (Option Value)} {oc_ways_from kV_ways_from dc_ways_from pm_ways_from cd_ways_from ct_ways_from : Value}
    {f_way_to : Addr} {od_way_to an_way_to : Option Addr} {sl_way_to : Array (Option Value)} {oc_way_to kV_way_to dc_way_to pm_way_to cd_way_to ct_way_to : Value}
    {f_upper_part : Addr} {od_upper_part an_upper_part : Option Addr} {sl_upper_part : Array (Option Value)} {oc_upper_part kV_upper_part dc_upper_part pm_upper_part cd_upper_part ct_upper_part : Value}
    {f_way_between : Addr} {od_way_between an_way_between : Option Addr} {sl_way_between : Array (Option Value)} {oc_way_between kV_way_between dc_way_between pm_way_between cd_way_between ct_way_between : Value}
    {f_round_way : Addr} {od_round_way an_round_way : Option Addr} {sl_round_way : Array (Option Value)} {oc_round_way kV_round_way dc_round_way pm_round_way cd_round_way ct_round_way : Value}
    {f_lifted_off : Addr} {od_lifted_off an_lifted_off : Option Addr} {sl_lifted_off : Array (Option Value)} {oc_lifted_off kV_lifted_off dc_lifted_off pm_lifted_off cd_lifted_off ct_lifted_off : Value}
    {f_web_of_set : Addr} {od_web_of_set an_web_of_set : Option Addr} {sl_web_of_set : Array (Option Value)} {oc_web_of_set kV_web_of_set dc_web_of_set pm_web_of_set cd_web_of_set ct_web_of_set : Value}
    {f_law_at : Addr} {od_law_at an_law_at : Option Addr} {sl_law_at : Array (Option Value)} {oc_law_at kV_law_at dc_law_at pm_law_at cd_law_at ct_law_at : Value}
    {f_law_numbers : Addr} {od_law_numbers an_law_numbers : Option Addr} {sl_law_numbers : Array (Option Value)} {oc_law_numbers kV_law_numbers dc_law_numbers pm_law_numbers cd_law_numbers ct_law_numbers : Value}
    {f_law_levels : Addr} {od_law_levels an_law_levels : Option Addr} {sl_law_levels : Array (Option Value)} {oc_law_levels kV_law_levels dc_law_levels pm_law_levels cd_law_levels ct_law_levels : Value}
    {f_law_text : Addr} {od_law_text an_law_text : Option Addr} {sl_law_text : Array (Option Value)} {oc_law_text kV_law_text dc_law_text pm_law_text cd_law_text ct_law_text : Value}
    {f_law_cloth : Addr} {od_law_cloth an_law_cloth : Option Addr} {sl_law_cloth : Array (Option Value)} {oc_law_cloth kV_law_cloth dc_law_cloth pm_law_cloth cd_law_cloth ct_law_cloth : Value}
    {f_law_other_sign : Addr} {od_law_other_sign an_law_other_sign : Option Addr} {sl_law_other_sign : Array (Option Value)} {oc_law_other_sign kV_law_other_sign dc_law_other_sign pm_law_other_sign cd_law_other_sign ct_law_other_sign : Value}
    {f_law_other_length : Addr} {od_law_other_length an_law_other_length : Option Addr} {sl_law_other_length : Array (Option Value)} {oc_law_other_length kV_law_other_length dc_law_other_length pm_law_other_length cd_law_other_length ct_law_other_length : Value}
    {f_law_spoiled : Addr} {od_law_spoiled an_law_spoiled : Option Addr} {sl_law_spoiled : Array (Option Value)} {oc_law_spoiled kV_law_spoiled dc_law_spoiled pm_law_spoiled cd_law_spoiled ct_law_spoiled : Value}
    {f_law_called : Addr} {od_law_called an_law_called : Option Addr} {sl_law_called : Array (Option Value)} {oc_law_called kV_law_called dc_law_called pm_law_called cd_law_called ct_law_called : Value}
    {f_law_caught : Addr} {od_law_caught an_law_caught : Option Addr} {sl_law_caught : Array (Option Value)} {oc_law_caught kV_law_caught dc_law_caught pm_law_caught cd_law_caught ct_law_caught : Value}
    {f_law_refused : Addr} {od_law_refused an_law_refused : Option Addr} {sl_law_refused : Array (Option Value)} {oc_law_refused kV_law_refused dc_law_refused pm_law_refused cd_law_refused ct_law_refused : Value}
    {f_law : Addr} {od_law an_law : Option Addr} {sl_law : Array (Option Value)} {oc_law kV_law dc_law pm_law cd_law ct_law : Value}
    {q_MOST_STRANDS : Tok}
    {e_WeaveError : Addr}
    {e_NoCloth : Addr}
    {e_NoStrand : Addr}
    {f_WeaveError_called : Addr} {od_WeaveError_called an_WeaveError_called : Option Addr} {sl_WeaveError_called : Array (Option Value)} {oc_WeaveError_called kV_WeaveError_called dc_WeaveError_called pm_WeaveError_called cd_WeaveError_called ct_WeaveError_called : Value}
    {f_NoCloth_called : Addr} {od_NoCloth_called an_NoCloth_called : Option Addr} {sl_NoCloth_called : Array (Option Value)} {oc_NoCloth_called kV_NoCloth_called dc_NoCloth_called pm_NoCloth_called cd_NoCloth_called ct_NoCloth_called : Value}
    {f_NoStrand_called : Addr} {od_NoStrand_called an_NoStrand_called : Option Addr} {sl_NoStrand_called : Array (Option Value)} {oc_NoStrand_called kV_NoStrand_called dc_NoStrand_called pm_NoStrand_called cd_NoStrand_called ct_NoStrand_called : Value}
    (X : K.In h) (G : h.Ns mainGlobals mg) (hfa : mg "law" = some (.ref fa))
    (a_measured : PySem.W.nsIn K mainGlobals "measured" = some (some (.ref f_measured)))
    (l_measured : K.lookup f_measured = some ⟨oc_measured, od_measured, .func (PySem.W.fnOf "measured" "measured" (defArgs s_measured) (defBody s_measured) (defScope s_measured) .none kV_measured dc_measured pm_measured an_measured cd_measured ct_measured), sl_measured⟩)
    (c_measured : PySem.W.codeIn K cd_measured "measured" = true)
    (k_measured : PySem.W.keepIn K (.ref f_measured) = true)
    (a_measured_texts : PySem.W.nsIn K mainGlobals "measured_texts" = some (some (.ref f_measured_texts)))
    (l_measured_texts : K.lookup f_measured_texts = some ⟨oc_measured_texts, od_measured_texts, .func (PySem.W.fnOf "measured_texts" "measured_texts" (defArgs s_measured_texts) (defBody s_measured_texts) (defScope s_measured_texts) .none kV_measured_texts dc_measured_texts pm_measured_texts an_measured_texts cd_measured_texts ct_measured_texts), sl_measured_texts⟩)
    (c_measured_texts : PySem.W.codeIn K cd_measured_texts "measured_texts" = true)
    (k_measured_texts : PySem.W.keepIn K (.ref f_measured_texts) = true)
    (a_check_pick : PySem.W.nsIn K mainGlobals "check_pick" = some (some (.ref f_check_pick)))
    (l_check_pick : K.lookup f_check_pick = some ⟨oc_check_pick, od_check_pick, .func (PySem.W.fnOf "check_pick" "check_pick" (defArgs s_check_pick) (defBody s_check_pick) (defScope s_check_pick) .none kV_check_pick dc_check_pick pm_check_pick an_check_pick cd_check_pick ct_check_pick), sl_check_pick⟩)
    (c_check_pick : PySem.W.codeIn K cd_check_pick "check_pick" = true)
    (k_check_pick : PySem.W.keepIn K (.ref f_check_pick) = true)
    (a_check_strand : PySem.W.nsIn K mainGlobals "check_strand" = some (some (.ref f_check_strand)))
    (l_check_strand : K.lookup f_check_strand = some ⟨oc_check_strand, od_check_strand, .func (PySem.W.fnOf "check_strand" "check_strand" (defArgs s_check_strand) (defBody s_check_strand) (defScope s_check_strand) .none kV_check_strand dc_check_strand pm_check_strand an_check_strand cd_check_strand ct_check_strand), sl_check_strand⟩)
    (c_check_strand : PySem.W.codeIn K cd_check_strand "check_strand" = true)
    (k_check_strand : PySem.W.keepIn K (.ref f_check_strand) = true)
    (a_end_signs : PySem.W.nsIn K mainGlobals "end_signs" = some (some (.ref f_end_signs)))
    (l_end_signs : K.lookup f_end_signs = some ⟨oc_end_signs, od_end_signs, .func (PySem.W.fnOf "end_signs" "end_signs" (defArgs s_end_signs) (defBody s_end_signs) (defScope s_end_signs) .none kV_end_signs dc_end_signs pm_end_signs an_end_signs cd_end_signs ct_end_signs), sl_end_signs⟩)
    (c_end_signs : PySem.W.codeIn K cd_end_signs "end_signs" = true)
    (k_end_signs : PySem.W.keepIn K (.ref f_end_signs) = true)
    (a_strand_over : PySem.W.nsIn K mainGlobals "strand_over" = some (some (.ref f_strand_over)))
    (l_strand_over : K.lookup f_strand_over = some ⟨oc_strand_over, od_strand_over, .func (PySem.W.fnOf "strand_over" "strand_over" (defArgs s_strand_over) (defBody s_strand_over) (defScope s_strand_over) .none kV_strand_over dc_strand_over pm_strand_over an_strand_over cd_strand_over ct_strand_over), sl_strand_over⟩)
    (c_strand_over : PySem.W.codeIn K cd_strand_over "strand_over" = true)
    (k_strand_over : PySem.W.keepIn K (.ref f_strand_over) = true)
    (a_scores_of : PySem.W.nsIn K mainGlobals "scores_of" = some (some (.ref f_scores_of)))
    (l_scores_of : K.lookup f_scores_of = some ⟨oc_scores_of, od_scores_of, .func (PySem.W.fnOf "scores_of" "scores_of" (defArgs s_scores_of) (defBody s_scores_of) (defScope s_scores_of) .none kV_scores_of dc_scores_of pm_scores_of an_scores_of cd_scores_of ct_scores_of), sl_scores_of⟩)
    (c_scores_of : PySem.W.codeIn K cd_scores_of "scores_of" = true)
    (k_scores_of : PySem.W.keepIn K (.ref f_scores_of) = true)
    (a_tops_of : PySem.W.nsIn K mainGlobals "tops_of" = some (some (.ref f_tops_of)))
    (l_tops_of : K.lookup f_tops_of = some ⟨oc_tops_of, od_tops_of, .func (PySem.W.fnOf "tops_of" "tops_of" (defArgs s_tops_of) (defBody s_tops_of) (defScope s_tops_of) .none kV_tops_of dc_tops_of pm_tops_of an_tops_of cd_tops_of ct_tops_of), sl_tops_of⟩)
    (c_tops_of : PySem.W.codeIn K cd_tops_of "tops_of" = true)
    (k_tops_of : PySem.W.keepIn K (.ref f_tops_of) = true)
    (a_layers_of : PySem.W.nsIn K mainGlobals "layers_of" = some (some (.ref f_layers_of)))
    (l_layers_of : K.lookup f_layers_of = some ⟨oc_layers_of, od_layers_of, .func (PySem.W.fnOf "layers_of" "layers_of" (defArgs s_layers_of) (defBody s_layers_of) (defScope s_layers_of) .none kV_layers_of dc_layers_of pm_layers_of an_layers_of cd_layers_of ct_layers_of), sl_layers_of⟩)
    (c_layers_of : PySem.W.codeIn K cd_layers_of "layers_of" = true)
    (k_layers_of : PySem.W.keepIn K (.ref f_layers_of) = true)
    (a_layer_numbers : PySem.W.nsIn K mainGlobals "layer_numbers" = some (some (.ref f_layer_numbers)))
    (l_layer_numbers : K.lookup f_layer_numbers = some ⟨oc_layer_numbers, od_layer_numbers, .func (PySem.W.fnOf "layer_numbers" "layer_numbers" (defArgs s_layer_numbers) (defBody s_layer_numbers) (defScope s_layer_numbers) .none kV_layer_numbers dc_layer_numbers pm_layer_numbers an_layer_numbers cd_layer_numbers ct_layer_numbers), sl_layer_numbers⟩)
    (c_layer_numbers : PySem.W.codeIn K cd_layer_numbers "layer_numbers" = true)
    (k_layer_numbers : PySem.W.keepIn K (.ref f_layer_numbers) = true)
    (a_check_set : PySem.W.nsIn K mainGlobals "check_set" = some (some (.ref f_check_set)))
    (l_check_set : K.lookup f_check_set = some ⟨oc_check_set, od_check_set, .func (PySem.W.fnOf "check_set" "check_set" (defArgs s_check_set) (defBody s_check_set) (defScope s_check_set) .none kV_check_set dc_check_set pm_check_set an_check_set cd_check_set ct_check_set), sl_check_set⟩)
    (c_check_set : PySem.W.codeIn K cd_check_set "check_set" = true)
    (k_check_set : PySem.W.keepIn K (.ref f_check_set) = true)
    (a_lower_strands : PySem.W.nsIn K mainGlobals "lower_strands" = some (some (.ref f_lower_strands)))
    (l_lower_strands : K.lookup f_lower_strands = some ⟨oc_lower_strands, od_lower_strands, .func (PySem.W.fnOf "lower_strands" "lower_strands" (defArgs s_lower_strands) (defBody s_lower_strands) (defScope s_lower_strands) .none kV_lower_strands dc_lower_strands pm_lower_strands an_lower_strands cd_lower_strands ct_lower_strands), sl_lower_strands⟩)
    (c_lower_strands : PySem.W.codeIn K cd_lower_strands "lower_strands" = true)
    (k_lower_strands : PySem.W.keepIn K (.ref f_lower_strands) = true)
    (a_lower_within : PySem.W.nsIn K mainGlobals "lower_within" = some (some (.ref f_lower_within)))
    (l_lower_within : K.lookup f_lower_within = some ⟨oc_lower_within, od_lower_within, .func (PySem.W.fnOf "lower_within" "lower_within" (defArgs s_lower_within) (defBody s_lower_within) (defScope s_lower_within) .none kV_lower_within dc_lower_within pm_lower_within an_lower_within cd_lower_within ct_lower_within), sl_lower_within⟩)
    (c_lower_within : PySem.W.codeIn K cd_lower_within "lower_within" = true)
    (k_lower_within : PySem.W.keepIn K (.ref f_lower_within) = true)
    (a_ways_from : PySem.W.nsIn K mainGlobals "ways_from" = some (some (.ref f_ways_from)))
    (l_ways_from : K.lookup f_ways_from = some ⟨oc_ways_from, od_ways_from, .func (PySem.W.fnOf "ways_from" "ways_from" (defArgs s_ways_from) (defBody s_ways_from) (defScope s_ways_from) .none kV_ways_from dc_ways_from pm_ways_from an_ways_from cd_ways_from ct_ways_from), sl_ways_from⟩)
    (c_ways_from : PySem.W.codeIn K cd_ways_from "ways_from" = true)
    (k_ways_from : PySem.W.keepIn K (.ref f_ways_from) = true)
    (a_way_to : PySem.W.nsIn K mainGlobals "way_to" = some (some (.ref f_way_to)))
    (l_way_to : K.lookup f_way_to = some ⟨oc_way_to, od_way_to, .func (PySem.W.fnOf "way_to" "way_to" (defArgs s_way_to) (defBody s_way_to) (defScope s_way_to) .none kV_way_to dc_way_to pm_way_to an_way_to cd_way_to ct_way_to), sl_way_to⟩)
    (c_way_to : PySem.W.codeIn K cd_way_to "way_to" = true)
    (k_way_to : PySem.W.keepIn K (.ref f_way_to) = true)
    (a_upper_part : PySem.W.nsIn K mainGlobals "upper_part" = some (some (.ref f_upper_part)))
    (l_upper_part : K.lookup f_upper_part = some ⟨oc_upper_part, od_upper_part, .func (PySem.W.fnOf "upper_part" "upper_part" (defArgs s_upper_part) (defBody s_upper_part) (defScope s_upper_part) .none kV_upper_part dc_upper_part pm_upper_part an_upper_part cd_upper_part ct_upper_part), sl_upper_part⟩)
    (c_upper_part : PySem.W.codeIn K cd_upper_part "upper_part" = true)
    (k_upper_part : PySem.W.keepIn K (.ref f_upper_part) = true)
    (a_way_between : PySem.W.nsIn K mainGlobals "way_between" = some (some (.ref f_way_between)))
    (l_way_between : K.lookup f_way_between = some ⟨oc_way_between, od_way_between, .func (PySem.W.fnOf "way_between" "way_between" (defArgs s_way_between) (defBody s_way_between) (defScope s_way_between) .none kV_way_between dc_way_between pm_way_between an_way_between cd_way_between ct_way_between), sl_way_between⟩)
    (c_way_between : PySem.W.codeIn K cd_way_between "way_between" = true)
    (k_way_between : PySem.W.keepIn K (.ref f_way_between) = true)
    (a_round_way : PySem.W.nsIn K mainGlobals "round_way" = some (some (.ref f_round_way)))
    (l_round_way : K.lookup f_round_way = some ⟨oc_round_way, od_round_way, .func (PySem.W.fnOf "round_way" "round_way" (defArgs s_round_way) (defBody s_round_way) (defScope s_round_way) .none kV_round_way dc_round_way pm_round_way an_round_way cd_round_way ct_round_way), sl_round_way⟩)
    (c_round_way : PySem.W.codeIn K cd_round_way "round_way" = true)
    (k_round_way : PySem.W.keepIn K (.ref f_round_way) = true)
    (a_lifted_off : PySem.W.nsIn K mainGlobals "lifted_off" = some (some (.ref f_lifted_off)))
    (l_lifted_off : K.lookup f_lifted_off = some ⟨oc_lifted_off, od_lifted_off, .func (PySem.W.fnOf "lifted_off" "lifted_off" (defArgs s_lifted_off) (defBody s_lifted_off) (defScope s_lifted_off) .none kV_lifted_off dc_lifted_off pm_lifted_off an_lifted_off cd_lifted_off ct_lifted_off), sl_lifted_off⟩)
    (c_lifted_off : PySem.W.codeIn K cd_lifted_off "lifted_off" = true)
    (k_lifted_off : PySem.W.keepIn K (.ref f_lifted_off) = true)
    (a_web_of_set : PySem.W.nsIn K mainGlobals "web_of_set" = some (some (.ref f_web_of_set)))
    (l_web_of_set : K.lookup f_web_of_set = some ⟨oc_web_of_set, od_web_of_set, .func (PySem.W.fnOf "web_of_set" "web_of_set" (defArgs s_web_of_set) (defBody s_web_of_set) (defScope s_web_of_set) .none kV_web_of_set dc_web_of_set pm_web_of_set an_web_of_set cd_web_of_set ct_web_of_set), sl_web_of_set⟩)
    (c_web_of_set : PySem.W.codeIn K cd_web_of_set "web_of_set" = true)
    (k_web_of_set : PySem.W.keepIn K (.ref f_web_of_set) = true)
    (a_law_at : PySem.W.nsIn K mainGlobals "_law_at" = some (some (.ref f_law_at)))
    (l_law_at : K.lookup f_law_at = some ⟨oc_law_at, od_law_at, .func (PySem.W.fnOf "_law_at" "_law_at" (defArgs s_law_at) (defBody s_law_at) (defScope s_law_at) .none kV_law_at dc_law_at pm_law_at an_law_at cd_law_at ct_law_at), sl_law_at⟩)
    (c_law_at : PySem.W.codeIn K cd_law_at "_law_at" = true)
    (k_law_at : PySem.W.keepIn K (.ref f_law_at) = true)
    (a_law_numbers : PySem.W.nsIn K mainGlobals "_law_numbers" = some (some (.ref f_law_numbers)))
    (l_law_numbers : K.lookup f_law_numbers = some ⟨oc_law_numbers, od_law_numbers, .func (PySem.W.fnOf "_law_numbers" "_law_numbers" (defArgs s_law_numbers) (defBody s_law_numbers) (defScope s_law_numbers) .none kV_law_numbers dc_law_numbers pm_law_numbers an_law_numbers cd_law_numbers ct_law_numbers), sl_law_numbers⟩)
    (c_law_numbers : PySem.W.codeIn K cd_law_numbers "_law_numbers" = true)
    (k_law_numbers : PySem.W.keepIn K (.ref f_law_numbers) = true)
    (a_law_levels : PySem.W.nsIn K mainGlobals "_law_levels" = some (some (.ref f_law_levels)))
    (l_law_levels : K.lookup f_law_levels = some ⟨oc_law_levels, od_law_levels, .func (PySem.W.fnOf "_law_levels" "_law_levels" (defArgs s_law_levels) (defBody s_law_levels) (defScope s_law_levels) .none kV_law_levels dc_law_levels pm_law_levels an_law_levels cd_law_levels ct_law_levels), sl_law_levels⟩)
    (c_law_levels : PySem.W.codeIn K cd_law_levels "_law_levels" = true)
    (k_law_levels : PySem.W.keepIn K (.ref f_law_levels) = true)
    (a_law_text : PySem.W.nsIn K mainGlobals "_law_text" = some (some (.ref f_law_text)))
    (l_law_text : K.lookup f_law_text = some ⟨oc_law_text, od_law_text, .func (PySem.W.fnOf "_law_text" "_law_text" (defArgs s_law_text) (defBody s_law_text) (defScope s_law_text) .none kV_law_text dc_law_text pm_law_text an_law_text cd_law_text ct_law_text), sl_law_text⟩)
    (c_law_text : PySem.W.codeIn K cd_law_text "_law_text" = true)
    (k_law_text : PySem.W.keepIn K (.ref f_law_text) = true)
    (a_law_cloth : PySem.W.nsIn K mainGlobals "_law_cloth" = some (some (.ref f_law_cloth)))
    (l_law_cloth : K.lookup f_law_cloth = some ⟨oc_law_cloth, od_law_cloth, .func (PySem.W.fnOf "_law_cloth" "_law_cloth" (defArgs s_law_cloth) (defBody s_law_cloth) (defScope s_law_cloth) .none kV_law_cloth dc_law_cloth pm_law_cloth an_law_cloth cd_law_cloth ct_law_cloth), sl_law_cloth⟩)
    (c_law_cloth : PySem.W.codeIn K cd_law_cloth "_law_cloth" = true)
    (k_law_cloth : PySem.W.keepIn K (.ref f_law_cloth) = true)
    (a_law_other_sign : PySem.W.nsIn K mainGlobals "_law_other_sign" = some (some (.ref f_law_other_sign)))
    (l_law_other_sign : K.lookup f_law_other_sign = some ⟨oc_law_other_sign, od_law_other_sign, .func (PySem.W.fnOf "_law_other_sign" "_law_other_sign" (defArgs s_law_other_sign) (defBody s_law_other_sign) (defScope s_law_other_sign) .none kV_law_other_sign dc_law_other_sign pm_law_other_sign an_law_other_sign cd_law_other_sign ct_law_other_sign), sl_law_other_sign⟩)
    (c_law_other_sign : PySem.W.codeIn K cd_law_other_sign "_law_other_sign" = true)
    (k_law_other_sign : PySem.W.keepIn K (.ref f_law_other_sign) = true)
    (a_law_other_length : PySem.W.nsIn K mainGlobals "_law_other_length" = some (some (.ref f_law_other_length)))
    (l_law_other_length : K.lookup f_law_other_length = some ⟨oc_law_other_length, od_law_other_length, .func (PySem.W.fnOf "_law_other_length" "_law_other_length" (defArgs s_law_other_length) (defBody s_law_other_length) (defScope s_law_other_length) .none kV_law_other_length dc_law_other_length pm_law_other_length an_law_other_length cd_law_other_length ct_law_other_length), sl_law_other_length⟩)
    (c_law_other_length : PySem.W.codeIn K cd_law_other_length "_law_other_length" = true)
    (k_law_other_length : PySem.W.keepIn K (.ref f_law_other_length) = true)
    (a_law_spoiled : PySem.W.nsIn K mainGlobals "_law_spoiled" = some (some (.ref f_law_spoiled)))
    (l_law_spoiled : K.lookup f_law_spoiled = some ⟨oc_law_spoiled, od_law_spoiled, .func (PySem.W.fnOf "_law_spoiled" "_law_spoiled" (defArgs s_law_spoiled) (defBody s_law_spoiled) (defScope s_law_spoiled) .none kV_law_spoiled dc_law_spoiled pm_law_spoiled an_law_spoiled cd_law_spoiled ct_law_spoiled), sl_law_spoiled⟩)
    (c_law_spoiled : PySem.W.codeIn K cd_law_spoiled "_law_spoiled" = true)
    (k_law_spoiled : PySem.W.keepIn K (.ref f_law_spoiled) = true)
    (a_law_called : PySem.W.nsIn K mainGlobals "_law_called" = some (some (.ref f_law_called)))
    (l_law_called : K.lookup f_law_called = some ⟨oc_law_called, od_law_called, .func (PySem.W.fnOf "_law_called" "_law_called" (defArgs s_law_called) (defBody s_law_called) (defScope s_law_called) .none kV_law_called dc_law_called pm_law_called an_law_called cd_law_called ct_law_called), sl_law_called⟩)
    (c_law_called : PySem.W.codeIn K cd_law_called "_law_called" = true)
    (k_law_called : PySem.W.keepIn K (.ref f_law_called) = true)
    (a_law_caught : PySem.W.nsIn K mainGlobals "_law_caught" = some (some (.ref f_law_caught)))
    (l_law_caught : K.lookup f_law_caught = some ⟨oc_law_caught, od_law_caught, .func (PySem.W.fnOf "_law_caught" "_law_caught" (defArgs s_law_caught) (defBody s_law_caught) (defScope s_law_caught) .none kV_law_caught dc_law_caught pm_law_caught an_law_caught cd_law_caught ct_law_caught), sl_law_caught⟩)
    (c_law_caught : PySem.W.codeIn K cd_law_caught "_law_caught" = true)
    (k_law_caught : PySem.W.keepIn K (.ref f_law_caught) = true)
    (a_law_refused : PySem.W.nsIn K mainGlobals "_law_refused" = some (some (.ref f_law_refused)))
    (l_law_refused : K.lookup f_law_refused = some ⟨oc_law_refused, od_law_refused, .func (PySem.W.fnOf "_law_refused" "_law_refused" (defArgs s_law_refused) (defBody s_law_refused) (defScope s_law_refused) .none kV_law_refused dc_law_refused pm_law_refused an_law_refused cd_law_refused ct_law_refused), sl_law_refused⟩)
    (c_law_refused : PySem.W.codeIn K cd_law_refused "_law_refused" = true)
    (k_law_refused : PySem.W.keepIn K (.ref f_law_refused) = true)
    (a_law : PySem.W.nsIn K mainGlobals "law" = some (some (.ref f_law)))
    (l_law : K.lookup f_law = some ⟨oc_law, od_law, .func (PySem.W.fnOf "law" "law" (defArgs s_law) (defBody s_law) (defScope s_law) .none kV_law dc_law pm_law an_law cd_law ct_law), sl_law⟩)
    (c_law : PySem.W.codeIn K cd_law "law" = true)
    (k_law : PySem.W.keepIn K (.ref f_law) = true)
    (z_ValueError : PySem.W.nsIn K mainGlobals "ValueError" = some none)
    (z_enumerate : PySem.W.nsIn K mainGlobals "enumerate" = some none)
    (z_int : PySem.W.nsIn K mainGlobals "int" = some none)
    (z_isinstance : PySem.W.nsIn K mainGlobals "isinstance" = some none)
    (z_len : PySem.W.nsIn K mainGlobals "len" = some none)
    (z_list : PySem.W.nsIn K mainGlobals "list" = some none)
    (z_range : PySem.W.nsIn K mainGlobals "range" = some none)
    (z_reversed : PySem.W.nsIn K mainGlobals "reversed" = some none)
    (z_sorted : PySem.W.nsIn K mainGlobals "sorted" = some none)
    (z_sum : PySem.W.nsIn K mainGlobals "sum" = some none)
    (z_zip : PySem.W.nsIn K mainGlobals "zip" = some none)
    (x_MOST_STRANDS : PySem.W.nsIn K mainGlobals "MOST_STRANDS" = some (some (.int 40 q_MOST_STRANDS)))
    (n_WeaveError : PySem.W.nsIn K mainGlobals "WeaveError" = some (some (.ref e_WeaveError)))
    (n_NoCloth : PySem.W.nsIn K mainGlobals "NoCloth" = some (some (.ref e_NoCloth)))
    (n_NoStrand : PySem.W.nsIn K mainGlobals "NoStrand" = some (some (.ref e_NoStrand)))
    (y1_WeaveError : PySem.W.excIn K e_WeaveError vE vN = true)
    (y2_WeaveError : PySem.W.findIn K (.ref e_WeaveError) "__getattribute__" = some (some (.builtin "BaseException.__getattribute__")))
    (y3_WeaveError : PySem.W.findIn K (.ref e_WeaveError) "__getattr__" = some none)
    (y4_WeaveError : PySem.W.findIn K (.ref e_WeaveError) "__class__" = some (some (.builtin "object.__class__")))
    (y5_WeaveError : PySem.W.specialIn K (.builtin "object.__class__") "__get__" = some (some (.builtin "getset_descriptor.__get__")))
    (y6_WeaveError : PySem.W.takesIn K (.builtin "object.__class__") = some true)
    (y7_WeaveError : PySem.W.mroIn K e_WeaveError (.type "object") = some true)
    (y8_WeaveError : PySem.W.mroIn K e_WeaveError (.type "BaseException") = some true)
    (y9_WeaveError : PySem.W.isClsIn K e_WeaveError = true)
    (y10_WeaveError : PySem.W.typeIn K (.ref e_WeaveError) = some (.type "type"))
    (y11_WeaveError : PySem.W.mroIn K e_WeaveError (.type "ValueError") = some true)
    (y1_NoCloth : PySem.W.excIn K e_NoCloth vE vN = true)
    (y2_NoCloth : PySem.W.findIn K (.ref e_NoCloth) "__getattribute__" = some (some (.builtin "BaseException.__getattribute__")))
    (y3_NoCloth : PySem.W.findIn K (.ref e_NoCloth) "__getattr__" = some none)
    (y4_NoCloth : PySem.W.findIn K (.ref e_NoCloth) "__class__" = some (some (.builtin "object.__class__")))
    (y7_NoCloth : PySem.W.mroIn K e_NoCloth (.type "object") = some true)
    (y8_NoCloth : PySem.W.mroIn K e_NoCloth (.type "BaseException") = some true)
    (y9_NoCloth : PySem.W.isClsIn K e_NoCloth = true)
    (y10_NoCloth : PySem.W.typeIn K (.ref e_NoCloth) = some (.type "type"))
    (y11_NoCloth : PySem.W.mroIn K e_NoCloth (.type "ValueError") = some true)
    (r_NoCloth_WeaveError : PySem.W.mroIn K e_NoCloth (.ref e_WeaveError) = some true)
    (r_NoCloth_NoCloth : PySem.W.mroIn K e_NoCloth (.ref e_NoCloth) = some true)
    (r_NoCloth_NoStrand : PySem.W.mroIn K e_NoCloth (.ref e_NoStrand) = some false)
    (y1_NoStrand : PySem.W.excIn K e_NoStrand vE vN = true)
    (y2_NoStrand : PySem.W.findIn K (.ref e_NoStrand) "__getattribute__" = some (some (.builtin "BaseException.__getattribute__")))
    (y3_NoStrand : PySem.W.findIn K (.ref e_NoStrand) "__getattr__" = some none)
    (y4_NoStrand : PySem.W.findIn K (.ref e_NoStrand) "__class__" = some (some (.builtin "object.__class__")))
    (y7_NoStrand : PySem.W.mroIn K e_NoStrand (.type "object") = some true)
    (y8_NoStrand : PySem.W.mroIn K e_NoStrand (.type "BaseException") = some true)
    (y9_NoStrand : PySem.W.isClsIn K e_NoStrand = true)
    (y10_NoStrand : PySem.W.typeIn K (.ref e_NoStrand) = some (.type "type"))
    (y11_NoStrand : PySem.W.mroIn K e_NoStrand (.type "ValueError") = some true)
    (r_NoStrand_WeaveError : PySem.W.mroIn K e_NoStrand (.ref e_WeaveError) = some true)
    (r_NoStrand_NoCloth : PySem.W.mroIn K e_NoStrand (.ref e_NoCloth) = some false)
    (r_NoStrand_NoStrand : PySem.W.mroIn K e_NoStrand (.ref e_NoStrand) = some true)
    (fm_WeaveError : PySem.W.findIn K (.ref e_WeaveError) "called" = some (some (.ref f_WeaveError_called)))
    (gm_WeaveError : PySem.W.isFn K (.ref f_WeaveError_called) = true)
    (lm_WeaveError : K.lookup f_WeaveError_called = some ⟨oc_WeaveError_called, od_WeaveError_called, .func (PySem.W.fnOf "called" "WeaveError.called" (defArgs s_WeaveError_called) (defBody s_WeaveError_called) (defScope s_WeaveError_called) .none kV_WeaveError_called dc_WeaveError_called pm_WeaveError_called an_WeaveError_called cd_WeaveError_called ct_WeaveError_called), sl_WeaveError_called⟩)
    (cm_WeaveError : PySem.W.codeIn K cd_WeaveError_called "WeaveError.called" = true)
    (km_WeaveError : PySem.W.keepIn K (.ref f_WeaveError_called) = true)
    (fm_NoCloth : PySem.W.findIn K (.ref e_NoCloth) "called" = some (some (.ref f_NoCloth_called)))
    (gm_NoCloth : PySem.W.isFn K (.ref f_NoCloth_called) = true)
    (lm_NoCloth : K.lookup f_NoCloth_called = some ⟨oc_NoCloth_called, od_NoCloth_called, .func (PySem.W.fnOf "called" "NoCloth.called" (defArgs s_NoCloth_called) (defBody s_NoCloth_called) (defScope s_NoCloth_called) .none kV_NoCloth_called dc_NoCloth_called pm_NoCloth_called an_NoCloth_called cd_NoCloth_called ct_NoCloth_called), sl_NoCloth_called⟩)
    (cm_NoCloth : PySem.W.codeIn K cd_NoCloth_called "NoCloth.called" = true)
    (km_NoCloth : PySem.W.keepIn K (.ref f_NoCloth_called) = true)
    (fm_NoStrand : PySem.W.findIn K (.ref e_NoStrand) "called" = some (some (.ref f_NoStrand_called)))
    (gm_NoStrand : PySem.W.isFn K (.ref f_NoStrand_called) = true)
    (lm_NoStrand : K.lookup f_NoStrand_called = some ⟨oc_NoStrand_called, od_NoStrand_called, .func (PySem.W.fnOf "called" "NoStrand.called" (defArgs s_NoStrand_called) (defBody s_NoStrand_called) (defScope s_NoStrand_called) .none kV_NoStrand_called dc_NoStrand_called pm_NoStrand_called an_NoStrand_called cd_NoStrand_called ct_NoStrand_called), sl_NoStrand_called⟩)
    (cm_NoStrand : PySem.W.codeIn K cd_NoStrand_called "NoStrand.called" = true)
    (km_NoStrand : PySem.W.keepIn K (.ref f_NoStrand_called) = true)
    (tab0 : cd_layers_of = .ref tc) (tab1 : K.lookup tc = some ⟨t1, t2, .fields tvs, t3⟩) (tab3 : (tvs[11]? : Option Value) = some (.ref tT)) (tab2 : PySem.W.noTabs K = true) :
    ∃ (fd : FuncData) (c T : Addr), (∀ (s : Shared) (v : Value), BindsTo s fd ⟨[v], []⟩ [("script", v)]) ∧ PySem.W.tabIn K "layers_of" = some (c, T) ∧ PySem.W.noTabs K = true ∧ ∀ base : Heap, K.In base → base.Ns mainGlobals mg → PySem.W.CodeHd base c T → Bm mg base → FnOk P w K mg base CX0 10 fa fd ["script"] (sp_law K T) := by
  have e := hfa.symm.trans (PySem.W.mg_of X G a_law)
  cases e
  have T := txt_mk X G a_measured l_measured c_measured k_measured a_measured_texts l_measured_texts c_measured_texts k_measured_texts a_check_pick l_check_pick c_check_pick k_check_pick a_check_strand l_check_strand c_check_strand k_check_strand a_end_signs l_end_signs c_end_signs k_end_signs a_strand_over l_strand_over c_strand_over k_strand_over a_scores_of l_scores_of c_scores_of k_scores_of a_tops_of l_tops_of c_tops_of k_tops_of a_layers_of l_layers_of c_layers_of k_layers_of a_layer_numbers l_layer_numbers c_layer_numbers k_layer_numbers a_check_set l_check_set c_check_set k_check_set a_lower_strands l_lower_strands c_lower_strands k_lower_strands a_lower_within l_lower_within c_lower_within k_lower_within a_ways_from l_ways_from c_ways_from k_ways_from a_way_to l_way_to c_way_to k_way_to a_upper_part l_upper_part c_upper_part k_upper_part a_way_between l_way_between c_way_between k_way_between a_round_way l_round_way c_round_way k_round_way a_lifted_off l_lifted_off c_lifted_off k_lifted_off a_web_of_set l_web_of_set c_web_of_set k_web_of_set a_law_at l_law_at c_law_at k_law_at a_law_numbers l_law_numbers c_law_numbers k_law_numbers a_law_levels l_law_levels c_law_levels k_law_levels a_law_text l_law_text c_law_text k_law_text a_law_cloth l_law_cloth c_law_cloth k_law_cloth a_law_other_sign l_law_other_sign c_law_other_sign k_law_other_sign a_law_other_length l_law_other_length c_law_other_length k_law_other_length a_law_spoiled l_law_spoiled c_law_spoiled k_law_spoiled a_law_called l_law_called c_law_called k_law_called a_law_caught l_law_caught c_law_caught k_law_caught a_law_refused l_law_refused c_law_refused k_law_refused a_law l_law c_law k_law z_ValueError z_enumerate z_int z_isinstance z_len z_list z_range z_reversed z_sorted z_sum z_zip x_MOST_STRANDS n_WeaveError n_NoCloth n_NoStrand y1_WeaveError y2_WeaveError y3_WeaveError y4_WeaveError y5_WeaveError y6_WeaveError y7_WeaveError y8_WeaveError y9_WeaveError y10_WeaveError y11_WeaveError y1_NoCloth y2_NoCloth y3_NoCloth y4_NoCloth y7_NoCloth y8_NoCloth y9_NoCloth y10_NoCloth y11_NoCloth r_NoCloth_WeaveError r_NoCloth_NoCloth r_NoCloth_NoStrand y1_NoStrand y2_NoStrand y3_NoStrand y4_NoStrand y7_NoStrand y8_NoStrand y9_NoStrand y10_NoStrand y11_NoStrand r_NoStrand_WeaveError r_NoStrand_NoCloth r_NoStrand_NoStrand fm_WeaveError gm_WeaveError lm_WeaveError cm_WeaveError km_WeaveError fm_NoCloth gm_NoCloth lm_NoCloth cm_NoCloth km_NoCloth fm_NoStrand gm_NoStrand lm_NoStrand cm_NoStrand km_NoStrand
  have hcd : (PySem.W.fnOf "layers_of" "layers_of" (defArgs s_layers_of) (defBody s_layers_of) (defScope s_layers_of) .none kV_layers_of dc_layers_of pm_layers_of an_layers_of cd_layers_of ct_layers_of).code = .ref tc := tab0
  exact ⟨_, tc, tT, fun s v => .of_eq rfl, tab_in a_layers_of l_layers_of hcd tab1 tab3, tab2, fun base _ _ hC hB => ok_law T hcd hC hB⟩
end Mine
open PySem PySem.W PyProof.Rows
def PySem.W.Fast.tw6542913819285652510 := ()
def PySem.W.Fast.tw8544641956139680204 := ()
def PySem.W.Fast.tw7604528940481741736 := ()
def PySem.W.Fast.tw6387859926174005136 := ()
def PySem.W.Fast.tw13592983527089658814 := ()
def PySem.W.Fast.tw7784928738632800884 := ()
def PySem.W.Fast.tw4353891966535072099 := ()
def PySem.W.Fast.tw13572284319757936523 := ()
def PySem.W.Fast.tw7134081324377491064 := ()
def PySem.W.Fast.tw7837504700258171332 := ()
def PySem.W.Fast.tw15315098855415324765 := ()
def PySem.W.Fast.tw15116827245853508111 := ()
def PySem.W.Fast.tw10870681541822841060 := ()
def PySem.W.Fast.tw15709902803904395334 := ()
def PySem.W.Fast.tw14349688127154717395 := ()
def PySem.W.Fast.tw4185463302417198076 := ()
def PySem.W.Fast.tw8728079088930285548 := ()
def PySem.W.Fast.tw10153597522776608280 := ()
def PySem.W.Fast.tw15351818681246094814 := ()
def PySem.W.Fast.tw8241286557822823744 := ()
def PySem.W.Fast.tw1574163785903573557 := ()
def PySem.W.Fast.tw5233690182354764052 := ()
def PySem.W.Fast.tw12524015722087593437 := ()
def PySem.W.Fast.tw17291041868508562245 := ()
def PySem.W.Fast.tw2521422861404624613 := ()
def PySem.W.Fast.tw16658972610479765616 := ()
def PySem.W.Fast.tw6595331748595564875 := ()
def PySem.W.Fast.tw3349658048915664085 := ()
def PySem.W.Fast.tw42359840328565002 := ()
def PySem.W.Fast.tw9388919564116784358 := ()
def PySem.W.Fast.tw14036051237746668703 := ()
def PySem.W.Fast.tw7742608351784035832 := ()
def PySem.W.Fast.tw3697400451038940542 := ()
def PySem.W.Fast.tw4058236222734779925 := ()
def PySem.W.Fast.tw13479837483209198232 := ()
def PySem.W.Fast.tw7476333516014964253 := ()
def PySem.W.Fast.tw951934427458046362 := ()
def PySem.W.Fast.tw13520203674190717450 := ()
def PySem.W.Fast.tw3345956048437752053 := ()
def PySem.W.Fast.tw17886914932175265463 := ()
def PySem.W.Fast.tw12595100678587381760 := ()
def PySem.W.Fast.tw17742891271473378327 := ()
def PySem.W.Fast.tw3822498614909238808 := ()
def PySem.W.Fast.tw12930477507707745136 := ()
def PySem.W.Fast.tw1711862287717346468 := ()
def PySem.W.Fast.tw1892723715947092752 := ()
def PySem.W.Fast.tw3136208878574862109 := ()
def PySem.W.Fast.tw17793849060394980624 := ()
def PySem.W.Fast.tw6999397386521750869 := ()
def PySem.W.Fast.tw8672467310305875050 := ()
def PySem.W.Fast.tw12671313207226260134 := ()
def PySem.W.Fast.tw1823649163309753477 := ()
def PySem.W.Fast.tw12323843817619716585 := ()
def PySem.W.Fast.tw15210217120790561605 := ()
def PySem.W.Fast.tw3737042475257417248 := ()
def PySem.W.Fast.tw5419944314407846932 := ()
def PySem.W.Fast.tw15508546134083405403 := ()
def PySem.W.Fast.tw7190328175884834985 := ()
def PySem.W.Fast.tw5179048404882461890 := ()
def PySem.W.Fast.tw12634471099033784557 := ()
def PySem.W.Fast.tw9739771907279618131 := ()
def PySem.W.Fast.tw6775991496901729337 := ()
def PySem.W.Fast.tw4085697184582263183 := ()
def PySem.W.Fast.tw11801370791296671035 := ()
def PySem.W.Fast.tw10324408855708510078 := ()
def PySem.W.Fast.tw9160353819918393187 := ()
def PySem.W.Fast.tw4516954401722310775 := ()
def PySem.W.Fast.tw15096727575999568747 := ()
def PySem.W.Fast.tw5113918889705081633 := ()
def PySem.W.Fast.tw17857340841441956483 := ()
def PySem.W.Fast.tw11113709138988756273 := ()
def PySem.W.Fast.tw12260202391626348506 := ()
def PySem.W.Fast.tw10735213731961702590 := ()
def PySem.W.Fast.tw9302025329780015489 := ()
def PySem.W.Fast.tw1646837306338671633 := ()
def PySem.W.Fast.tw6444944138436032324 := ()
def PySem.W.Fast.tw17006338350955467154 := ()
def PySem.W.Fast.tw8842540614493917649 := ()
def PySem.W.Fast.tw13929746663342797300 := ()
def PySem.W.Fast.tw11150456747575109735 := ()
def PySem.W.Fast.tw3447919492530997606 := ()
def PySem.W.Fast.tw16039967907950632678 := ()
def PySem.W.Fast.tw15562332644485777747 := ()
def PySem.W.Fast.tw13300925848130085335 := ()
def PySem.W.Fast.tw14033840829879823195 := ()
def PySem.W.Fast.tw610491259875579344 := ()
def PySem.W.Fast.tw6181124159995162467 := ()
def PySem.W.Fast.tw3411597600403392753 := ()
def PySem.W.Fast.tw11499852350812100069 := ()
def PySem.W.Fast.tw13229255442903855089 := ()
def PySem.W.Fast.tw9094235062255443783 := ()
def PySem.W.Fast.tw5414179129404545983 := ()
def PySem.W.Fast.tw2516482452880357894 := ()
def PySem.W.Fast.tw14708159733630182726 := ()
def PySem.W.Fast.tw2102289029590711667 := ()
def PySem.W.Fast.tw13519705476254471116 := ()
def PySem.W.Fast.tw5371665145777505397 := ()
def PySem.W.Fast.tw8248233683177699912 := ()
def PySem.W.Fast.tw16257955865862035129 := ()
def PySem.W.Fast.tw17836664875560196251 := ()
def PySem.W.Fast.tw4410849067931387642 := ()
def PySem.W.Fast.tw16502103264281512082 := ()
def PySem.W.Fast.tw6665293043982112787 := ()
def PySem.W.Fast.tw2187970887534586427 := ()
def PySem.W.Fast.tw493356932383474242 := ()
def PySem.W.Fast.tw2983345598748378101 := ()
def PySem.W.Fast.tw2893269076285925922 := ()
def PySem.W.Fast.tw553455566552607324 := ()
def PySem.W.Fast.tw18048941519262253042 := ()
def PySem.W.Fast.tw1349261894110152145 := ()
def PySem.W.Fast.tw5017997325866238287 := ()
def PySem.W.Fast.tw9313609756876563512 := ()
def PySem.W.Fast.tw15839352607162892824 := ()
def PySem.W.Fast.tw14086123241275105286 := ()
def PySem.W.Fast.tw3270719804413265612 := ()
def PySem.W.Fast.tw13777980713331363959 := ()
def PySem.W.Fast.tw11218852073221217559 := ()
def PySem.W.Fast.tw7497979002150423334 := ()
def PySem.W.Fast.tw6833231262984677089 := ()
def PySem.W.Fast.tw829806894952821693 := ()
def PySem.W.Fast.tw17984267527251946781 := ()
def PySem.W.Fast.tw3093834190917617946 := ()
def PySem.W.Fast.tw3117354687966298319 := ()
def PySem.W.Fast.tw8091714516664895807 := ()
def PySem.W.Fast.tw13804428595546758940 := ()
def PySem.W.Fast.tw235989323064173796 := ()
def PySem.W.Fast.tw4018445628091172532 := ()
def PySem.W.Fast.tw15918270517403979226 := ()
def PySem.W.Fast.tw11090756345249284738 := ()
def PySem.W.Fast.tw5612697773165043566 := ()
def PySem.W.Fast.tw18159188975181451204 := ()
def PySem.W.Fast.tw3129366429285315022 := ()
def PySem.W.Fast.tw13545131649072817894 := ()
def PySem.W.Fast.tw8902968292724363168 := ()
def PySem.W.Fast.tw5292101204901127275 := ()
def PySem.W.Fast.tw9785212670174517041 := ()
def PySem.W.Fast.tw5927104449182391101 := ()
def PySem.W.Fast.tw11476864370269387658 := ()
def PySem.W.Fast.tw12309521277233072230 := ()
def PySem.W.Fast.tw3382774985749963357 := ()
def PySem.W.Fast.tw8823261388263003890 := ()
def PySem.W.Fast.tw16865183166123188066 := ()
def PySem.W.Fast.tw18344668037975187389 := ()
def PySem.W.Fast.tw5486634102466697406 := ()
def PySem.W.Fast.tw13386588777702884591 := ()
def PySem.W.Fast.tw1432320693325238434 := ()
def PySem.W.Fast.tw4712759976615736604 := ()
def PySem.W.Fast.tw8998262524276734152 := ()
def PySem.W.Fast.tw6882698176485707538 := ()
def PySem.W.Fast.tw12622804400488652724 := ()
def PySem.W.Fast.tw1501437108700199375 := ()
def PySem.W.Fast.tw16025681547480856948 := ()
def PySem.W.Fast.tw13218115296296089821 := ()
def PySem.W.Fast.tw11973553303257604935 := ()
def PySem.W.Fast.tw4438489000557151467 := ()
def PySem.W.Fast.tw14976299503754460372 := ()
def PySem.W.Fast.tw1974692690506805329 := ()
def PySem.W.Fast.tw15020461403587137803 := ()
def PySem.W.Fast.tw5731434315973537676 := ()
def PySem.W.Fast.tw3685086603029716459 := ()
def PySem.W.Fast.tw12489677505359207103 := ()
def PySem.W.Fast.tw15902939161615315601 := ()
def PySem.W.Fast.tw17862633433510822408 := ()
def PySem.W.Fast.tw916602107267997846 := ()
def PySem.W.Fast.tw9917409425820980217 := ()
def PySem.W.Fast.tw11069672537073536483 := ()
def PySem.W.Fast.tw9340477226892361556 := ()
def PySem.W.Fast.tw5376126435692889885 := ()
def PySem.W.Fast.tw2881589703571618691 := ()
def PySem.W.Fast.tw1254099302274896858 := ()
def PySem.W.Fast.tw10238909183339154962 := ()
def PySem.W.Fast.tw2189325186226779756 := ()
def PySem.W.Fast.tw16165383054430305687 := ()
def PySem.W.Fast.tw153010009781704913 := ()
def PySem.W.Fast.tw10505147760113957278 := ()
def PySem.W.Fast.tw11773725297874127158 := ()
def PySem.W.Fast.tw6969606897388858064 := ()
def PySem.W.Fast.tw6898586472784196036 := ()
def PySem.W.Fast.tw2267790334131547861 := ()
def PySem.W.Fast.tw11035676806721539901 := ()
def PySem.W.Fast.tw16716011994805230583 := ()
def PySem.W.Fast.tw10994812592732348067 := ()
def PySem.W.Fast.tw17130212441610226659 := ()
def PySem.W.Fast.tw6242420046200976157 := ()
def PySem.W.Fast.tw15651716974425762873 := ()
def PySem.W.Fast.tw1629373078377608040 := ()
def PySem.W.Fast.tw18062904274039816390 := ()
def PySem.W.Fast.tw13572441537926344772 := ()
def PySem.W.Fast.tw11024616276580817948 := ()
def PySem.W.Fast.tw12198521648026401916 := ()
def PySem.W.Fast.tw5137168220358828875 := ()
def PySem.W.Fast.tw5226122400433373323 := ()
def PySem.W.Fast.tw3271214519523363463 := ()
def PySem.W.Fast.tw10673482814909954092 := ()
def PySem.W.Fast.tw17144342852719238938 := ()
def PySem.W.Fast.tw13843741920185583237 := ()
def PySem.W.Fast.tw7340129001889583363 := ()
def PySem.W.Fast.tw11995294148223301167 := ()
def PySem.W.Fast.tw18380412644995966376 := ()
def PySem.W.Fast.tw8356453077591702732 := ()
def PySem.W.Fast.tw1816677016532086688 := ()
def PySem.W.Fast.tw11641913614126657805 := ()
def PySem.W.Fast.tw18370272669900075388 := ()
def PySem.W.Fast.tw7267525164376048843 := ()
def PySem.W.Fast.tw27774513103948335 := ()
def PySem.W.Fast.tw11597409998676210085 := ()
def PySem.W.Fast.tw15726251700114693416 := ()
def PySem.W.Fast.tw5776532290585321723 := ()
def PySem.W.Fast.tw3644047128178254440 := ()
def PySem.W.Fast.tw16670719679703704074 := ()
def PySem.W.Fast.tw11126641761135147490 := ()
def PySem.W.Fast.tw5388368587865613003 := ()
def PySem.W.Fast.tw17053703894622628857 := ()
def PySem.W.Fast.tw9865853158732543629 := ()
def PySem.W.Fast.tw11711422182378866524 := ()
def PySem.W.Fast.tw4308636804555396862 := ()
def PySem.W.Fast.tw14732590319889333774 := ()
def PySem.W.Fast.tw18417175226313247780 := ()
def PySem.W.Fast.tw18166824225669147709 := ()
def PySem.W.Fast.tw10009452379455951466 := ()
def PySem.W.Fast.tw2468951207461795013 := ()
def PySem.W.Fast.tw17595022885933896779 := ()
def PySem.W.Fast.tw4463368454692606433 := ()
def PySem.W.Fast.tw7269761143492607702 := ()
def PySem.W.Fast.tw14711023171650442059 := ()
def PySem.W.Fast.tw15838696961476529684 := ()
def PySem.W.Fast.tw231780252944615033 := ()
def PySem.W.Fast.tw4783790488649902550 := ()
def PySem.W.Fast.tw13433252212976290240 := ()
def PySem.W.Fast.tw5468108038900494049 := ()
def PySem.W.Fast.tw9072576195049528252 := ()
def PySem.W.Fast.tw15425857414880276485 := ()
def PySem.W.Fast.tw1121415056278422397 := ()
def PySem.W.Fast.tw8552271255935504011 := ()
def PySem.W.Fast.tw11991863582768984532 := ()
def PySem.W.Fast.tw6999269744225794836 := ()
def PySem.W.Fast.tw15788875209964028038 := ()
def PySem.W.Fast.tw8568386888286515164 := ()
def PySem.W.Fast.tw14374828266895798283 := ()
def PySem.W.Fast.tw5233232723687251305 := ()
def PySem.W.Fast.tw10653368544383698213 := ()
def PySem.W.Fast.tw7902871641246320348 := ()
def PySem.W.Fast.tw4351964629533513688 := ()
def PySem.W.Fast.tw15685374287051915352 := ()
def PySem.W.Fast.tw15765740355074364032 := ()
def PySem.W.Fast.tw8848592158597795376 := ()
def PySem.W.Fast.tw12424404699560648595 := ()
def PySem.W.Fast.tw489462353094793009 := ()
def PySem.W.Fast.tw117351956106472081 := ()
def PySem.W.Fast.tw14039648665321742393 := ()
def PySem.W.Fast.tw14060985424274556698 := ()
def PySem.W.Fast.tw12492173979800951562 := ()
def PySem.W.Fast.tw15514092547161037454 := ()
def PySem.W.Fast.tw16038800062177398052 := ()
def PySem.W.Fast.tw11466439851396965663 := ()
def PySem.W.Fast.tw10725797293387849010 := ()
def PySem.W.Fast.tw12960463367527768988 := ()
def PySem.W.Fast.tw3597442512107281162 := ()
def PySem.W.Fast.tw17544247810881285677 := ()
set_option maxRecDepth 100000 in
set_option maxHeartbeats 0 in
theorem PySem.Challenge.cw_heddle_k73_no_cloths_in_layers_holds : PySem.Challenge.rw_heddle_k73_no_cloths_in_layers.Holds := by
  w_on; o_law; k_head; (case hw => w_witness2)
  k_fill
  refine L2.walk_ofT (l := PySem.Challenge.rw_heddle_k73_no_cloths_in_layers) (n := 63) (k := 10) (x := "script") (y := "layers_of") (qn := "layers_of.<locals>.<lambda>") (CX := L2.CX0) (sp := Mine.sp_law) rfl (by decide) rfl ⟨rfl, by decide, by decide⟩ (fun w h Y => PySem.W.km_in_of Y) rfl ?F ?S ?C
  case F =>
    intro w mg fa h KX G hmg
    refine' Mine.law_mk KX G hmg ?a_measured ?l_measured ?c_measured ?k_measured ?a_measured_texts ?l_measured_texts ?c_measured_texts ?k_measured_texts ?a_check_pick ?l_check_pick ?c_check_pick ?k_check_pick ?a_check_strand ?l_check_strand ?c_check_strand ?k_check_strand ?a_end_signs ?l_end_signs ?c_end_signs ?k_end_signs ?a_strand_over ?l_strand_over ?c_strand_over ?k_strand_over ?a_scores_of ?l_scores_of ?c_scores_of ?k_scores_of ?a_tops_of ?l_tops_of ?c_tops_of ?k_tops_of ?a_layers_of ?l_layers_of ?c_layers_of ?k_layers_of ?a_layer_numbers ?l_layer_numbers ?c_layer_numbers ?k_layer_numbers ?a_check_set ?l_check_set ?c_check_set ?k_check_set ?a_lower_strands ?l_lower_strands ?c_lower_strands ?k_lower_strands ?a_lower_within ?l_lower_within ?c_lower_within ?k_lower_within ?a_ways_from ?l_ways_from ?c_ways_from ?k_ways_from ?a_way_to ?l_way_to ?c_way_to ?k_way_to ?a_upper_part ?l_upper_part ?c_upper_part ?k_upper_part ?a_way_between ?l_way_between ?c_way_between ?k_way_between ?a_round_way ?l_round_way ?c_round_way ?k_round_way ?a_lifted_off ?l_lifted_off ?c_lifted_off ?k_lifted_off ?a_web_of_set ?l_web_of_set ?c_web_of_set ?k_web_of_set ?a_law_at ?l_law_at ?c_law_at ?k_law_at ?a_law_numbers ?l_law_numbers ?c_law_numbers ?k_law_numbers ?a_law_levels ?l_law_levels ?c_law_levels ?k_law_levels ?a_law_text ?l_law_text ?c_law_text ?k_law_text ?a_law_cloth ?l_law_cloth ?c_law_cloth ?k_law_cloth ?a_law_other_sign ?l_law_other_sign ?c_law_other_sign ?k_law_other_sign ?a_law_other_length ?l_law_other_length ?c_law_other_length ?k_law_other_length ?a_law_spoiled ?l_law_spoiled ?c_law_spoiled ?k_law_spoiled ?a_law_called ?l_law_called ?c_law_called ?k_law_called ?a_law_caught ?l_law_caught ?c_law_caught ?k_law_caught ?a_law_refused ?l_law_refused ?c_law_refused ?k_law_refused ?a_law ?l_law ?c_law ?k_law ?z_ValueError ?z_enumerate ?z_int ?z_isinstance ?z_len ?z_list ?z_range ?z_reversed ?z_sorted ?z_sum ?z_zip ?x_MOST_STRANDS ?n_WeaveError ?n_NoCloth ?n_NoStrand ?y1_WeaveError ?y2_WeaveError ?y3_WeaveError ?y4_WeaveError ?y5_WeaveError ?y6_WeaveError ?y7_WeaveError ?y8_WeaveError ?y9_WeaveError ?y10_WeaveError ?y11_WeaveError ?y1_NoCloth ?y2_NoCloth ?y3_NoCloth ?y4_NoCloth ?y7_NoCloth ?y8_NoCloth ?y9_NoCloth ?y10_NoCloth ?y11_NoCloth ?r_NoCloth_WeaveError ?r_NoCloth_NoCloth ?r_NoCloth_NoStrand ?y1_NoStrand ?y2_NoStrand ?y3_NoStrand ?y4_NoStrand ?y7_NoStrand ?y8_NoStrand ?y9_NoStrand ?y10_NoStrand ?y11_NoStrand ?r_NoStrand_WeaveError ?r_NoStrand_NoCloth ?r_NoStrand_NoStrand ?fm_WeaveError ?gm_WeaveError ?lm_WeaveError ?cm_WeaveError ?km_WeaveError ?fm_NoCloth ?gm_NoCloth ?lm_NoCloth ?cm_NoCloth ?km_NoCloth ?fm_NoStrand ?gm_NoStrand ?lm_NoStrand ?cm_NoStrand ?km_NoStrand ?tab0 ?tab1 ?tab3 ?tab2
    (case a_measured => k_is)
    (case l_measured => k_is)
    (case c_measured => k_is)
    (case k_measured => k_is)
    (case a_measured_texts => k_is)
    (case l_measured_texts => k_is)
    (case c_measured_texts => k_is)
    (case k_measured_texts => k_is)
    (case a_check_pick => k_is)
    (case l_check_pick => k_is)
    (case c_check_pick => k_is)
    (case k_check_pick => k_is)
    (case a_check_strand => k_is)
    (case l_check_strand => k_is)
    (case c_check_strand => k_is)
    (case k_check_strand => k_is)
    (case a_end_signs => k_is)
    (case l_end_signs => k_is)
    (case c_end_signs => k_is)
    (case k_end_signs => k_is)
    (case a_strand_over => k_is)
    (case l_strand_over => k_is)
    (case c_strand_over => k_is)
    (case k_strand_over => k_is)
    (case a_scores_of => k_is)
    (case l_scores_of => k_is)
    (case c_scores_of => k_is)
    (case k_scores_of => k_is)
    (case a_tops_of => k_is)
    (case l_tops_of => k_is)
    (case c_tops_of => k_is)
    (case k_tops_of => k_is)
    (case a_layers_of => k_is)
    (case l_layers_of => k_is)
    (case c_layers_of => k_is)
    (case k_layers_of => k_is)
    (case a_layer_numbers => k_is)
    (case l_layer_numbers => k_is)
    (case c_layer_numbers => k_is)
    (case k_layer_numbers => k_is)
    (case a_check_set => k_is)
    (case l_check_set => k_is)
    (case c_check_set => k_is)
    (case k_check_set => k_is)
    (case a_lower_strands => k_is)
    (case l_lower_strands => k_is)
    (case c_lower_strands => k_is)
    (case k_lower_strands => k_is)
    (case a_lower_within => k_is)
    (case l_lower_within => k_is)
    (case c_lower_within => k_is)
    (case k_lower_within => k_is)
    (case a_ways_from => k_is)
    (case l_ways_from => k_is)
    (case c_ways_from => k_is)
    (case k_ways_from => k_is)
    (case a_way_to => k_is)
    (case l_way_to => k_is)
    (case c_way_to => k_is)
    (case k_way_to => k_is)
    (case a_upper_part => k_is)
    (case l_upper_part => k_is)
    (case c_upper_part => k_is)
    (case k_upper_part => k_is)
    (case a_way_between => k_is)
    (case l_way_between => k_is)
    (case c_way_between => k_is)
    (case k_way_between => k_is)
    (case a_round_way => k_is)
    (case l_round_way => k_is)
    (case c_round_way => k_is)
    (case k_round_way => k_is)
    (case a_lifted_off => k_is)
    (case l_lifted_off => k_is)
    (case c_lifted_off => k_is)
    (case k_lifted_off => k_is)
    (case a_web_of_set => k_is)
    (case l_web_of_set => k_is)
    (case c_web_of_set => k_is)
    (case k_web_of_set => k_is)
    (case a_law_at => k_is)
    (case l_law_at => k_is)
    (case c_law_at => k_is)
    (case k_law_at => k_is)
    (case a_law_numbers => k_is)
    (case l_law_numbers => k_is)
    (case c_law_numbers => k_is)
    (case k_law_numbers => k_is)
    (case a_law_levels => k_is)
    (case l_law_levels => k_is)
    (case c_law_levels => k_is)
    (case k_law_levels => k_is)
    (case a_law_text => k_is)
    (case l_law_text => k_is)
    (case c_law_text => k_is)
    (case k_law_text => k_is)
    (case a_law_cloth => k_is)
    (case l_law_cloth => k_is)
    (case c_law_cloth => k_is)
    (case k_law_cloth => k_is)
    (case a_law_other_sign => k_is)
    (case l_law_other_sign => k_is)
    (case c_law_other_sign => k_is)
    (case k_law_other_sign => k_is)
    (case a_law_other_length => k_is)
    (case l_law_other_length => k_is)
    (case c_law_other_length => k_is)
    (case k_law_other_length => k_is)
    (case a_law_spoiled => k_is)
    (case l_law_spoiled => k_is)
    (case c_law_spoiled => k_is)
    (case k_law_spoiled => k_is)
    (case a_law_called => k_is)
    (case l_law_called => k_is)
    (case c_law_called => k_is)
    (case k_law_called => k_is)
    (case a_law_caught => k_is)
    (case l_law_caught => k_is)
    (case c_law_caught => k_is)
    (case k_law_caught => k_is)
    (case a_law_refused => k_is)
    (case l_law_refused => k_is)
    (case c_law_refused => k_is)
    (case k_law_refused => k_is)
    (case a_law => k_is)
    (case l_law => k_is)
    (case c_law => k_is)
    (case k_law => k_is)
    (case z_ValueError => k_is)
    (case z_enumerate => k_is)
    (case z_int => k_is)
    (case z_isinstance => k_is)
    (case z_len => k_is)
    (case z_list => k_is)
    (case z_range => k_is)
    (case z_reversed => k_is)
    (case z_sorted => k_is)
    (case z_sum => k_is)
    (case z_zip => k_is)
    (case x_MOST_STRANDS => k_is)
    (case n_WeaveError => k_is)
    (case n_NoCloth => k_is)
    (case n_NoStrand => k_is)
    (case y1_WeaveError => k_exc)
    (case y2_WeaveError => k_is)
    (case y3_WeaveError => k_is)
    (case y4_WeaveError => k_is)
    (case y5_WeaveError => k_is)
    (case y6_WeaveError => k_is)
    (case y7_WeaveError => k_is)
    (case y8_WeaveError => k_is)
    (case y9_WeaveError => k_is)
    (case y10_WeaveError => k_is)
    (case y11_WeaveError => k_is)
    (case y1_NoCloth => k_exc)
    (case y2_NoCloth => k_is)
    (case y3_NoCloth => k_is)
    (case y4_NoCloth => k_is)
    (case y7_NoCloth => k_is)
    (case y8_NoCloth => k_is)
    (case y9_NoCloth => k_is)
    (case y10_NoCloth => k_is)
    (case y11_NoCloth => k_is)
    (case r_NoCloth_WeaveError => k_is)
    (case r_NoCloth_NoCloth => k_is)
    (case r_NoCloth_NoStrand => k_is)
    (case y1_NoStrand => k_exc)
    (case y2_NoStrand => k_is)
    (case y3_NoStrand => k_is)
    (case y4_NoStrand => k_is)
    (case y7_NoStrand => k_is)
    (case y8_NoStrand => k_is)
    (case y9_NoStrand => k_is)
    (case y10_NoStrand => k_is)
    (case y11_NoStrand => k_is)
    (case r_NoStrand_WeaveError => k_is)
    (case r_NoStrand_NoCloth => k_is)
    (case r_NoStrand_NoStrand => k_is)
    (case fm_WeaveError => k_is)
    (case gm_WeaveError => k_is)
    (case lm_WeaveError => k_is)
    (case cm_WeaveError => k_is)
    (case km_WeaveError => k_is)
    (case fm_NoCloth => k_is)
    (case gm_NoCloth => k_is)
    (case lm_NoCloth => k_is)
    (case cm_NoCloth => k_is)
    (case km_NoCloth => k_is)
    (case fm_NoStrand => k_is)
    (case gm_NoStrand => k_is)
    (case lm_NoStrand => k_is)
    (case cm_NoStrand => k_is)
    (case km_NoStrand => k_is)
    (case tab0 => exact rfl)
    (case tab1 => k_is)
    (case tab3 => exact rfl)
    (case tab2 => kernel_rfl)
  case S => exact fun K T H a ns hl hS tb => Mine.sp_law_holds hl hS tb
  case C => exact fun _ _ _ _ z => z
