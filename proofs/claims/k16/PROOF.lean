import PyProof.Rows.All
import Wide.All
import OpenK.AllK
import Wide.FinOn
import Lean
import PyProof.EqAt
import PyProof.EqKinds
import PyProof.TupleCall
import PyProof.StrBlockL
import PyProof.EnumMake
import PyProof.CollectIter
import PyProof.JoinWalk
import PyProof.StrOps
import PyProof.StrLawsIdx
import PyProof.StrLawsIn
import PyProof.ListRange
import PyProof.Rows.Range3
import PyProof.Rows.SumAny
import KE.KIntText
import KE.LcSums
import PyProof.LongRange
import PyProof.StrOps2
import PyProof.FitsBits
import PyProof.NeKinds
import PyProof.Rows.ZipGen
import PyProof.Draws
import PyProof.Rows.SeqMore
import PyProof.Rows.SortRev
import PyProof.Rows.SortWalk
import PyProof.Rows.CallKwBuiltin
import PyProof.Rows.MinMaxN
import PyProof.Rows.SetFrom
import PyProof.CollectWalk
import PyProof.DictWalks
import PySem.Challenge.RW_heddle_k16_whole_loom
set_option Elab.async false
set_option linter.all false
set_option maxRecDepth 100000
namespace L2
open PySem PySem.Spec PyProof.Rows
abbrev Key := Sum Int Str
def keyIs : Key → Value → Bool
  | .inl k, v => Value.isInt k v
  | .inr x, v => Value.isStrOf x v
def keyH (w : World) : Key → Int
  | .inl k => hashInt k
  | .inr x => hashStr w x
theorem keyIs_shape : ∀ {k : Key} {v : Value}, keyIs k v = true → (∃ i t, k = Sum.inl i ∧ v = Value.int i t) ∨ (∃ x t, k = Sum.inr x ∧ v = Value.str x t)
  | .inl i, v, h => by
    obtain ⟨t, e⟩ := Value.isInt_shape (k := i) (v := v) h
    exact .inl ⟨i, t, rfl, e⟩
  | .inr x, v, h => by
    obtain ⟨t, e⟩ := Value.isStrOf_shape (x := x) (v := v) h
    exact .inr ⟨x, t, rfl, e⟩
theorem keyIs_int (i : Int) (t : Tok) : keyIs (.inl i) (.int i t) = true := by simp [keyIs, Value.isInt]
theorem keyIs_str (x : Str) (t : Tok) : keyIs (.inr x) (.str x t) = true := by simp [keyIs, Value.isStrOf]
theorem key_ll (a b : Int) : decide ((Sum.inl a : Key) = Sum.inl b) = (a == b) := by
  by_cases e : a = b
  · subst e; simp
  · have h : ¬ (Sum.inl a : Key) = Sum.inl b := fun q => e (Sum.inl.inj q)
    rw [decide_eq_false h]
    exact (beq_eq_false_iff_ne.mpr e).symm
theorem key_rr (a b : Str) : decide ((Sum.inr a : Key) = Sum.inr b) = decide (a = b) := by
  by_cases e : a = b
  · subst e; simp
  · have h : ¬ (Sum.inr a : Key) = Sum.inr b := fun q => e (Sum.inr.inj q)
    rw [decide_eq_false h, decide_eq_false e]
theorem key_lr (a : Int) (b : Str) : decide ((Sum.inl a : Key) = Sum.inr b) = false := decide_eq_false (fun q => nomatch q)
theorem key_rl (a : Str) (b : Int) : decide ((Sum.inr a : Key) = Sum.inl b) = false := decide_eq_false (fun q => nomatch q)
def mixKind (prog : Program) (w : World) : PySem.KeyKind prog w Key where
  is := keyIs
  hash := keyH w
  inj := fun v a b ha hb => by
    rcases keyIs_shape ha with ⟨i, t, rfl, rfl⟩ | ⟨x, t, rfl, rfl⟩
    · rcases keyIs_shape hb with ⟨j, u, rfl, e⟩ | ⟨y, u, rfl, e⟩
      · injection e with e1 _; rw [e1]
      · exact nomatch e
    · rcases keyIs_shape hb with ⟨j, u, rfl, e⟩ | ⟨y, u, rfl, e⟩
      · exact nomatch e
      · injection e with e1 _; rw [e1]
  byValue := fun k v h => by
    rcases keyIs_shape h with ⟨i, t, rfl, rfl⟩ | ⟨x, t, rfl, rfl⟩ <;> rfl
  pyHash := fun hv h => by
    rcases keyIs_shape hv with ⟨i, t, rfl, rfl⟩ | ⟨x, t, rfl, rfl⟩
    · exact wpAny_pyHash_int h
    · exact wpAny_pyHash_str h
  eqBool := fun hu hv h => by
    rcases keyIs_shape hu with ⟨i, t, rfl, rfl⟩ | ⟨x, t, rfl, rfl⟩
    · rcases keyIs_shape hv with ⟨j, u, rfl, rfl⟩ | ⟨y, u, rfl, rfl⟩
      · rw [key_ll] at h; exact wpAny_eqBool_int h
      · rw [key_lr] at h; exact SeqAt.EqAt.int_str i t y u _ _ _ _ h
    · rcases keyIs_shape hv with ⟨j, u, rfl, rfl⟩ | ⟨y, u, rfl, rfl⟩
      · rw [key_rl] at h; exact SeqAt.EqAt.str_int x t j u _ _ _ _ h
      · rw [key_rr] at h; exact wpAny_eqBool_str h
  «strs» := fun k x t v h => by
    rcases keyIs_shape h with ⟨i, u, rfl, e⟩ | ⟨y, u, rfl, e⟩
    · exact nomatch e
    · injection e with e1 _
      subst e1
      cases v <;> rfl
theorem mixKind_int (prog : Program) (w : World) (i : Int) (t : Tok) : (mixKind prog w).is (.inl i) (.int i t) = true := keyIs_int i t
theorem mixKind_str (prog : Program) (w : World) (x : Str) (t : Tok) : (mixKind prog w).is (.inr x) (.str x t) = true := keyIs_str x t
open PySem PySem.Spec PyProof.Rows
inductive V where
  | non | bl (b : Bool) | int (i : Int) | str (x : Str) | byt (b : Array UInt8) | flt (b : UInt64) | ref (a : Addr) | ty (n : String)
  deriving DecidableEq
def RelV : V → Value → Prop
  | .non, u => u = Value.none
  | .bl b, u => u = Value.bool b
  | .int i, u => ∃ t, u = Value.int i t
  | .str x, u => ∃ t, u = Value.str x t
  | .byt b, u => ∃ t, u = Value.bytes b t
  | .flt b, u => ∃ t, u = Value.float b t
  | .ref a, u => u = Value.ref a
  | .ty n, u => u = Value.type n
abbrev Vals : List V → List Value → Prop := Paired RelV
theorem Vals.length {xs : List V} {us : List Value} (r : Vals xs us) : xs.length = us.length := Paired.length r
theorem Vals.get : ∀ {xs : List V} {us : List Value} {i : Nat} {x : V}, Vals xs us → xs[i]? = some x → ∃ u, us[i]? = some u ∧ RelV x u
  | _, _, _, _, .nil, e => by simp at e
  | _, _, 0, _, .cons r _, e => by simp at e; subst e; exact ⟨_, rfl, r⟩
  | _, _, i + 1, x, .cons _ t, e => by
    obtain ⟨u, h1, h2⟩ := Vals.get (i := i) (x := x) t (by simpa using e)
    exact ⟨u, by simpa using h1, h2⟩
theorem Vals.set {x : V} {u : Value} (r : RelV x u) : ∀ {xs : List V} {us : List Value} (i : Nat), Vals xs us → Vals (xs.set i x) (us.set i u)
  | _, _, _, .nil => .nil
  | _, _, 0, .cons _ t => .cons r t
  | _, _, i + 1, .cons q t => .cons q (Vals.set r i t)
theorem Vals.append : ∀ {xs ys : List V} {us ws : List Value}, Vals xs us → Vals ys ws → Vals (xs ++ ys) (us ++ ws)
  | _, _, _, _, .nil, s => s
  | _, _, _, _, .cons r t, s => .cons r (Vals.append t s)
def RelO : Option V → Option Value → Prop
  | some v, some u => RelV v u
  | none, none => True
  | _, _ => False
def KV {κ : Type} : List (κ × V) → List (κ × Value) → Prop := Paired fun (p : κ × V) (q : κ × Value) => p.1 = q.1 ∧ RelV p.2 q.2
def kV : Key → V
  | .inl i => .int i
  | .inr x => .str x
inductive HO where
  | lst (xs : List V)
  | tup (xs : List V)
  | dK (kvs : List (Key × V)) | dT (kvs : List (List Key × V))
  | set (S : Int → Bool) (n : Nat)
  | ins (C dx : Addr) (fs : List (Str × V))
  | own (x : Addr)
  | xd (fs : List (Str × V))
  | met (f x : Addr)
  | rng (lo hi : Int)
  | frz (o : Obj) (u : HO)
  | tbl (ps : Array Value)
  | ext (φ : Heap → Prop)
abbrev Hp := Addr → Option HO
def upd (H : Hp) (a : Addr) (o : HO) : Hp := fun b => if b = a then some o else H b
theorem upd_same {H : Hp} {a : Addr} {o : HO} : upd H a o a = some o := by unfold upd; rw [if_pos rfl]
theorem upd_ne {H : Hp} {a b : Addr} {o : HO} (h : b ≠ a) : upd H a o b = H b := by unfold upd; rw [if_neg h]
theorem ne_of {H : Hp} {a b : Addr} {o u : HO} (h : H a = some o) (h' : H b = some u) (d : o ≠ u) : a ≠ b := by
  intro e; subst e; rw [h] at h'; exact d (Option.some.inj h')
theorem ne_of_none {H : Hp} {a b : Addr} {o : HO} (h : H a = some o) (h' : H b = none) : a ≠ b := by
  intro e; subst e; rw [h] at h'; cases h'
section
variable (P : Program) (w : World)
def ObjOk (H : Hp) (h : Heap) (a : Addr) : HO → Prop
  | .lst xs => xs.length ≤ sizeLine ∧ ∃ (its : List Value) (n : Nat), Vals xs its ∧ h.get? a = some { cls := .type "list", data := .seq its.toArray n }
  | .tup xs => xs.length ≤ sizeLine ∧ ∃ its : List Value, Vals xs its ∧ IsTup h a its.toArray
  | .dK kvs => kvs.length ≤ sizeLine ∧ (a == sysModules) = false ∧ ∃ vs, KV kvs vs ∧ h.DictOf (mixKind P w) a vs
  | .dT kvs => kvs.length ≤ sizeLine ∧ (a == sysModules) = false ∧ ∃ xs : List (List Key × Addr × Value),
      Paired (fun (p : List Key × V) (q : List Key × Addr × Value) => p.1 = q.1 ∧ H q.2.1 = some (.tup (p.1.map kV)) ∧ RelV p.2 q.2.2) kvs xs ∧
      ∃ o es ep, h.get? a = some o ∧ o.ExactDict ∧ o.data = .dict es ep ∧ es.toList = xs.map (entryOfKey (tupleKind (mixKind P w))) ∧ (xs.map (·.1)).Nodup
  | .set S n => h.SetOf (intKind P w) a S n
  | .ins C dx fs => H dx = some (.own a) ∧ fs.length ≤ 1000 ∧ dx ≠ a ∧ h.get? a = some (PySem.W.instObj C dx) ∧
      ∃ mA, h.Ns1 dx mA ∧ (∀ f, RelO (fs.lookup f) (mA f)) ∧ PySem.Within mA (fs.map (·.1))
  | .own _ => ∃ o, h.get? a = some o
  | .xd fs => ∃ mA, h.Ns1 a mA ∧ ∀ f, RelO (fs.lookup f) (mA f)
  | .rng lo hi => ∃ t u v, h.get? a = some { cls := .type "range", data := .fields #[.int lo t, .int hi u, .int 1 v] }
  | .frz o u => h.get? a = some o ∧ ObjOk H h a u
  | .tbl ps => h.get? a = some { cls := .none, data := .fields ps }
  | .met f x => h.get? a = some (PySem.W.methodObj (.ref f) (.ref x))
  | .ext φ => φ h ∧ (∃ o, h.get? a = some o) ∧ ∀ h1 h2 : Heap, φ h1 → (∀ o, h1.get? a = some o → h2.get? a = some o) → φ h2
def HOk (H : Hp) (h : Heap) : Prop := ∀ a o, H a = some o → ObjOk P w H h a o
end
section
variable {P : Program} {w : World} {H H' : Hp} {h h' : Heap} {a : Addr} {o : HO}
theorem ObjOk.lt (x : ObjOk P w H h a o) : a < h.objs.size := by
  cases o with
  | lst xs => obtain ⟨_, _, _, _, e⟩ := x; exact Heap.lt_size e
  | tup xs => obtain ⟨_, _, _, p⟩ := x; exact p.lt
  | dK kvs => obtain ⟨_, _, _, _, o, _, _, e, _⟩ := x; exact Heap.lt_size e
  | dT kvs => obtain ⟨_, _, _, _, o, _, _, e, _⟩ := x; exact Heap.lt_size e
  | set S n => obtain ⟨o, _, _, _, e, _⟩ := x; exact Heap.lt_size e
  | ins C dx fs => obtain ⟨_, _, _, e, _⟩ := x; exact Heap.lt_size e
  | own y => obtain ⟨_, e⟩ := x; exact Heap.lt_size e
  | xd fs => obtain ⟨_, ⟨_, _, _, e, _⟩, _⟩ := x; exact Heap.lt_size e
  | rng lo hi => obtain ⟨_, _, _, e⟩ := x; exact Heap.lt_size e
  | frz ob u => obtain ⟨e, _⟩ := x; exact Heap.lt_size e
  | tbl ps => exact Heap.lt_size (show h.get? a = some _ from x)
  | met f y => exact Heap.lt_size (show h.get? a = some _ from x)
  | ext φ => obtain ⟨_, ⟨_, e⟩, _⟩ := x; exact Heap.lt_size e
theorem Paired.mapP {α β : Type} {F G : α → β → Prop} : ∀ {l₁ : List α} {l₂ : List β}, Paired F l₁ l₂ → (∀ a b, F a b → G a b) → Paired G l₁ l₂
  | _, _, .nil, _ => .nil
  | _, _, .cons r t, f => .cons (f _ _ r) (Paired.mapP t f)
theorem ObjOk.stay (x : ObjOk P w H h a o) (k : ∀ b u, (b = a ∨ H b = some (.own a)) → h.get? b = some u → h'.get? b = some u)
    (ho : ∀ b, H b = some (.own a) → H' b = some (.own a)) (ht : ∀ b xs, H b = some (.tup xs) → H' b = some (.tup xs)) : ObjOk P w H' h' a o := by
  induction o with
  | lst xs => obtain ⟨z, its, n, r, e⟩ := x; exact ⟨z, its, n, r, k _ _ (.inl rfl) e⟩
  | tup xs => obtain ⟨z, its, r, ob, e, c⟩ := x; exact ⟨z, its, r, ob, k _ _ (.inl rfl) e, c⟩
  | dK kvs => obtain ⟨z, y, vs, r, ob, es, ep, e, c⟩ := x; exact ⟨z, y, vs, r, ob, es, ep, k _ _ (.inl rfl) e, c⟩
  | dT kvs =>
    obtain ⟨z, y, xs, r, ob, es, ep, e, c⟩ := x
    exact ⟨z, y, xs, Paired.mapP r fun p q z => ⟨z.1, ht _ _ z.2.1, z.2.2⟩, ob, es, ep, k _ _ (.inl rfl) e, c⟩
  | set S n => obtain ⟨ob, es, ep, t, e, c⟩ := x; exact ⟨ob, es, ep, t, k _ _ (.inl rfl) e, c⟩
  | ins C dx fs =>
    obtain ⟨d, z, ne, e, mA, ⟨od, es, ep, e2, c⟩, r⟩ := x
    exact ⟨ho _ d, z, ne, k _ _ (.inl rfl) e, mA, ⟨od, es, ep, k _ _ (.inr d) e2, c⟩, r⟩
  | own y => obtain ⟨ob, e⟩ := x; exact ⟨ob, k _ _ (.inl rfl) e⟩
  | xd fs => obtain ⟨mA, ⟨od, es, ep, e, c⟩, r⟩ := x; exact ⟨mA, ⟨od, es, ep, k _ _ (.inl rfl) e, c⟩, r⟩
  | rng lo hi => obtain ⟨t, u, v, e⟩ := x; exact ⟨t, u, v, k _ _ (.inl rfl) e⟩
  | frz ob u ih => obtain ⟨e, q⟩ := x; exact ⟨k _ _ (.inl rfl) e, ih q⟩
  | tbl ps =>
    have e : h.get? a = some { cls := .none, data := .fields ps } := x
    show h'.get? a = some { cls := .none, data := .fields ps }
    exact k a _ (.inl rfl) e
  | met f y =>
    have e : h.get? a = some (PySem.W.methodObj (.ref f) (.ref y)) := x
    show h'.get? a = some (PySem.W.methodObj (.ref f) (.ref y))
    exact k a _ (.inl rfl) e
  | ext φ => obtain ⟨p, ⟨o, e⟩, st⟩ := x; exact ⟨st _ _ p fun o q => k _ _ (.inl rfl) q, ⟨o, k _ _ (.inl rfl) e⟩, st⟩
theorem HOk.lt (x : HOk P w H h) (e : H a = some o) : a < h.objs.size := (x a o e).lt
theorem HOk.fresh (x : HOk P w H h) (e : h.objs.size ≤ a) : H a = none := by
  cases q : H a with
  | none => rfl
  | some u => exact absurd (Nat.lt_of_lt_of_le (x.lt q) e) (Nat.lt_irrefl _)
theorem HOk.kept (x : HOk P w H h) (k : ∀ b u, h.get? b = some u → h'.get? b = some u) : HOk P w H h' := fun a o e =>
  (x a o e).stay (fun b u _ q => k b u q) (fun _ q => q) fun _ _ q => q
theorem HOk.laid (x : HOk P w H h) (k : ∀ b u, h.get? b = some u → h'.get? b = some u) (hp : h.objs.size ≤ a) (new : ObjOk P w (upd H a o) h' a o) : HOk P w (upd H a o) h' := fun b u e => by
  have hn := x.fresh hp
  by_cases hb : b = a
  · subst hb; rw [upd_same] at e; cases e; exact new
  · rw [upd_ne hb] at e
    exact (x b u e).stay (fun c v _ q => k c v q) (fun c q => by rw [upd_ne (ne_of_none q hn)]; exact q) fun c xs q => by rw [upd_ne (ne_of_none q hn)]; exact q
end
def Rd (H : Hp) (a : Addr) (u : HO) : Prop := H a = some u ∨ ∃ o, H a = some (.frz o u)
theorem Rd.ok {P : Program} {w : World} {H : Hp} {h : Heap} {a : Addr} {u : HO} (r : Rd H a u) (x : HOk P w H h) : ObjOk P w H h a u := by
  rcases r with r | ⟨o, r⟩
  · exact x a u r
  · obtain ⟨_, q⟩ := x a _ r
    exact q
def Mut : Option HO → Prop
  | some (.lst _) => True
  | some (.dK _) => True
  | some (.dT _) => True
  | some (.set _ _) => True
  | some (.ins _ _ _) => True
  | some (.ext _) => True
  | _ => False
section
variable {P : Program} {w : World} {H : Hp} {h h' : Heap} {x e : Addr} {o' : HO}
theorem HOk.write (ok : HOk P w H h) (mu : Mut (H x)) (he : e = x ∨ H e = some (.own x)) (k : ∀ b u, b ≠ e → h.get? b = some u → h'.get? b = some u) (heo : ∃ u, h'.get? e = some u)
    (new : ObjOk P w (upd H x o') h' x o') : HOk P w (upd H x o') h' := fun b u q => by
  have nown : ∀ c y, H c = some (.own y) → c ≠ x := fun c y r z => by subst z; rw [r] at mu; exact mu
  have ntup : ∀ c xs, H c = some (.tup xs) → c ≠ x := fun c xs r z => by subst z; rw [r] at mu; exact mu
  by_cases hb : b = x
  · subst hb; rw [upd_same] at q; cases q; exact new
  · rw [upd_ne hb] at q
    by_cases hbe : b = e
    · have q' : H b = some (.own x) := by
        rcases he with z | z
        · exact absurd (hbe.trans z) hb
        · rw [hbe]; exact z
      rw [q] at q'; cases q'
      obtain ⟨v, hv⟩ := heo
      exact ⟨v, by rw [hbe]; exact hv⟩
    · refine (ok b u q).stay (fun c v hc r => k c v ?_ r) (fun c r => by rw [upd_ne (nown c b r)]; exact r) fun c xs r => by rw [upd_ne (ntup c xs r)]; exact r
      rcases hc with rfl | hc
      · exact hbe
      · rintro rfl
        rcases he with z | z
        · exact nown c b hc z
        · rw [hc] at z; cases z; exact hb rfl
end
structure Un (fs ex : List Addr) (H H' : Hp) (h h' : Heap) : Prop where
  keep : ∀ b o, h.get? b = some o → H b = none → b ∉ fs → b ∉ ex → h'.get? b = some o
  slot : ∀ b o, h.get? b = some o → H b = none → b ∈ fs → b ∉ ex → ∃ sl, h'.get? b = some { o with slots := sl }
  free : ∀ b o, h.get? b = some o → H b = none → b ∉ ex → H' b = none
  there : ∀ b o, h.get? b = some o → b ∉ ex → ∃ o', h'.get? b = some o'
  tups : ∀ b xs, H b = some (.tup xs) → H' b = some (.tup xs)
  frzs : ∀ b o u, H b = some (.frz o u) → H' b = some (.frz o u)
  tbls : ∀ b ps, H b = some (.tbl ps) → ∃ more, H' b = some (.tbl (ps ++ more))
section
variable {fs fs' ex ex' : List Addr} {H H1 H2 : Hp} {h h1 h2 h' : Heap} {a x e : Addr} {o : HO}
theorem Un.any (u : Un fs ex H H1 h h1) {b : Addr} {ob : Obj} (q : h.get? b = some ob) (n : H b = none) (hx : b ∉ ex) : ∃ sl, h1.get? b = some { ob with slots := sl } := by
  by_cases hb : b ∈ fs
  · exact u.slot b ob q n hb hx
  · exact ⟨ob.slots, u.keep b ob q n hb hx⟩
theorem Un.kept (k : ∀ b u, h.get? b = some u → h'.get? b = some u) : Un fs ex H H h h' :=
  ⟨fun b ob q _ _ _ => k b ob q, fun b ob q _ _ _ => ⟨ob.slots, k b ob q⟩, fun _ _ _ n _ => n, fun b ob q _ => ⟨ob, k b ob q⟩, fun _ _ q => q, fun _ _ _ q => q, fun _ ps q => ⟨#[], by rw [q]; simp⟩⟩
theorem Un.refl : Un fs ex H H h h := Un.kept fun _ _ q => q
theorem Un.laid (k : ∀ b u, h.get? b = some u → h'.get? b = some u) (hp : h.objs.size ≤ a) (hn : H a = none) : Un fs ex H (upd H a o) h h' where
  keep := fun b u q _ _ _ => k b u q
  slot := fun b u q _ _ _ => ⟨u.slots, k b u q⟩
  free := fun b u q n _ => by rw [upd_ne (Nat.ne_of_lt (Nat.lt_of_lt_of_le (Heap.lt_size q) hp))]; exact n
  there := fun b u q _ => ⟨u, k b u q⟩
  tups := fun b xs q => by rw [upd_ne (ne_of_none q hn)]; exact q
  frzs := fun b u xs q => by rw [upd_ne (ne_of_none q hn)]; exact q
  tbls := fun b ps q => ⟨#[], by rw [upd_ne (ne_of_none q hn), q]; simp⟩
theorem Un.write (mu : Mut (H x)) (he : e = x ∨ H e = some (.own x)) (k : ∀ b u, b ≠ e → h.get? b = some u → h'.get? b = some u) (heo : ∃ u, h'.get? e = some u) : Un fs ex H (upd H x o) h h' := by
  have hx : ∀ b, H b = none → b ≠ x := fun b n z => by subst z; rw [n] at mu; exact mu
  have hb : ∀ b, H b = none → b ≠ e := fun b n z => by
    subst z
    rcases he with r | r
    · exact hx b n r
    · rw [n] at r; cases r
  have hm : ∀ b u, H b = some u → ¬ Mut (some u) → b ≠ x := fun b u q nm z => by subst z; rw [q] at mu; exact nm mu
  refine ⟨fun b u q n _ _ => k b u (hb b n) q, fun b u q n _ _ => ⟨u.slots, k b u (hb b n) q⟩, fun b u q n _ => by rw [upd_ne (hx b n)]; exact n, fun b u q _ => ?_,
    fun b xs q => by rw [upd_ne (hm b _ q fun z => z)]; exact q, fun b u xs q => by rw [upd_ne (hm b _ q fun z => z)]; exact q, fun b ps q => ⟨#[], by rw [upd_ne (hm b _ q fun z => z), q]; simp⟩⟩
  by_cases hbe : b = e
  · subst hbe; exact heo
  · exact ⟨u, k b u hbe q⟩
end
def trk (h : Heap) (H : Hp) : List Addr := (List.range h.objs.size).filter fun a => (H a).isSome
def hidT (h : Heap) (H : Hp) : Heap := PySem.W.hideAll h (trk h H)
theorem hidT_size (h : Heap) (H : Hp) : (hidT h H).objs.size = h.objs.size := PySem.W.hideAll_size _ _
theorem hidT_get {h : Heap} {H : Hp} {b : Addr} {o : Obj} (e : h.get? b = some o) (n : H b = none) : (hidT h H).get? b = some o :=
  PySem.W.hideAll_get _ e fun hm => by
    have q : (H b).isSome = true := (List.mem_filter.mp hm).2
    rw [n] at q; simp at q
theorem of_hidT {h : Heap} {H : Hp} {b : Addr} {o : Obj} (e : (hidT h H).get? b = some o) : h.get? b = some o ∧ H b = none := by
  have e' : h.get? b = some o := PySem.W.of_hideAll (trk h H) e
  refine ⟨e', ?_⟩
  cases q : H b with
  | none => rfl
  | some x =>
    have hm : b ∈ trk h H := List.mem_filter.mpr ⟨List.mem_range.mpr (Heap.lt_size e'), by simp [q]⟩
    have z : (hidT h H).get? b = none := PySem.W.hideAll_none (trk h H) hm
    rw [z] at e; cases e
def allNews (g h : Heap) (L : Addr) : List (Addr × Obj) := (List.range h.objs.size).filterMap fun a => if a = L ∨ (g.get? a).isSome = true then none else (h.get? a).map fun o => (a, o)
def rest (g h : Heap) (L d : Addr) : List (Addr × Obj) := (allNews g h L).filter fun p => decide (p.1 ≠ d)
open PySem PySem.Spec PyProof.Rows
structure Mod (K : PySem.W.Frag) (mg : Str → Option Value) (base : Heap) : Prop where
  kin : K.In base
  glob : base.Ns mainGlobals mg
  blt : ∃ mb, base.Ns builtinsNs mb ∧ ∀ x : Str, x ≠ "__name__" → mb x = bootBuiltins x
  nolimit : base.NoLimit
structure Cx where
  prog : Program
  w : World
  K : PySem.W.Frag
  mg : Str → Option Value
  base : Heap
  A : Around
  N : List Str
  s₀ : Shared
  H₀ : Hp
  env : Env
  outer : List Env
  stack : List Env
  ex : List Addr
  fn : Str → Bool
  calm : Bool
  pn : List (Addr × Obj)
  xe : Value → Shared → Prop
def frs (l : List Env) : List Addr := l.filterMap (·.frame)
abbrev Cx.fs (X : Cx) : List Addr := frs X.outer
def Vis (sc : Scope) (x : Str) : Prop := sc.names.lookup x = some .local ∨ sc.names.lookup x = some .cell ∨ sc.names.lookup x = some .free
def Loc (sc : Scope) (x : Str) : Prop := sc.names.lookup x = some .local ∨ sc.names.lookup x = some .cell
def Look (env : Env) (h : Heap) (m : Str → Option Value) (x : Str) (u : Value) : Prop :=
  (env.kindOf x = some .local ∧ m x = some u) ∨ ((env.kindOf x = some .cell ∨ env.kindOf x = some .free) ∧ ∃ c, env.cells.lookup x = some c ∧ h.IsCell c (some u))
structure Cx.Ok (X : Cx) : Prop where
  mod : Mod X.K X.mg X.base
  kind : X.env.scope.kind = .function
  glob : X.env.globals = mainGlobals
  blt : X.env.builtins = builtinsNs
  above : X.s₀.heap.objs.size ≤ X.env.locals
  inj : ∀ x y c, X.env.cells.lookup x = some c → X.env.cells.lookup y = some c → x = y
  has : ∀ x, (X.env.kindOf x = some .cell ∨ X.env.kindOf x = some .free) → ∃ c, X.env.cells.lookup x = some c
  cab : ∀ x c, X.fn x = true → X.env.cells.lookup x = some c → X.s₀.heap.objs.size ≤ c
  hd : X.calm = true → X.A.handled = none
  frames : X.A.frames = some X.stack
  stk : X.stack = X.outer ∨ (X.stack = X.env :: X.outer ∧ X.env.frame = some X.env.locals)
  exf : ∀ b ∈ X.ex, b ≠ X.env.locals ∧ ∀ x c, X.env.cells.lookup x = some c → c ≠ b
  bs : ∀ b o, X.base.get? b = some o → X.s₀.heap.get? b = some o ∧ X.H₀ b = none
  bsz : X.base.objs.size ≤ X.s₀.heap.objs.size
  noex : ∀ b o, X.base.get? b = some o → b ∉ X.ex
  exfs : ∀ b ∈ X.ex, b ∉ X.fs
  funs : X.s₀.heap.FunFrames X.base X.outer
  frf : ∀ b ∈ X.fs, X.H₀ b = none
structure Inv (X : Cx) (pins : List (Addr × Obj)) (σ : List (Option V)) (H : Hp) (s : Shared) : Prop where
  ok : X.Ok
  os : s.os = X.s₀.os
  bare : AllBare s.gens
  base : Un X.fs X.ex X.H₀ H X.s₀.heap s.heap
  loc : ∃ m, s.heap.Ns X.env.locals m ∧ ∀ (i : Nat) (x : Str) (v : V), X.N[i]? = some x → σ[i]? = some (some v) → Vis X.env.scope x → ∃ u, RelV v u ∧ Look X.env s.heap m x u
  cell : ∀ x c, X.env.cells.lookup x = some c → ∃ v, s.heap.IsCell c v
  free : H X.env.locals = none
  freeC : ∀ x c, X.env.cells.lookup x = some c → H c = none
  pin : ∀ p ∈ X.pn ++ pins, s.heap.get? p.1 = some p.2 ∧ H p.1 = none ∧ p.1 ≠ X.env.locals ∧ p.1 ∉ X.fs ∧ ∀ v, p.2.data ≠ .cell v
  hok : HOk X.prog X.w H s.heap
  len : σ.length = X.N.length
section
variable {X : Cx} {pins : List (Addr × Obj)} {σ : List (Option V)} {H H' : Hp} {s : Shared} {h' : Heap}
theorem Cx.Ok.nofr (ok : X.Ok) {b : Addr} {o : Obj} (e : X.base.get? b = some o) : b ∉ X.fs := fun hb => by
  have := (ok.funs.mem hb).1
  rw [e] at this; cases this
theorem Inv.bs (I : Inv X pins σ H s) : ∀ b o, X.base.get? b = some o → s.heap.get? b = some o ∧ H b = none := fun b o e =>
  ⟨I.base.keep b o (I.ok.bs b o e).1 (I.ok.bs b o e).2 (I.ok.nofr e) (I.ok.noex b o e), I.base.free b o (I.ok.bs b o e).1 (I.ok.bs b o e).2 (I.ok.noex b o e)⟩
theorem Inv.bk (I : Inv X pins σ H s) : ∀ b o, X.base.get? b = some o → s.heap.get? b = some o := fun b o e => (I.bs b o e).1
theorem Inv.mod (I : Inv X pins σ H s) : Mod X.K X.mg X.base := I.ok.mod
theorem Inv.kIn (I : Inv X pins σ H s) : X.K.In s.heap := I.ok.mod.kin.keeps I.bk
theorem Inv.lt (I : Inv X pins σ H s) : X.env.locals < s.heap.objs.size := let ⟨_, hn, _⟩ := I.loc; hn.lt
theorem Inv.sz (I : Inv X pins σ H s) : X.s₀.heap.objs.size ≤ s.heap.objs.size := Nat.le_trans I.ok.above (Nat.le_of_lt I.lt)
theorem Inv.nofs (I : Inv X pins σ H s) {a : Addr} (h : s.heap.objs.size ≤ a) : a ∉ X.fs := fun hb => by
  obtain ⟨_, o, ho, _⟩ := I.ok.funs.mem hb
  exact absurd (Nat.lt_of_lt_of_le (Heap.lt_size ho) (Nat.le_trans I.sz h)) (Nat.lt_irrefl _)
theorem Inv.cne (I : Inv X pins σ H s) : ∀ x c, X.env.cells.lookup x = some c → c ≠ X.env.locals := fun x c e z => by
  obtain ⟨v, o, ho, hd⟩ := I.cell x c e
  obtain ⟨m, ⟨o', es, ep, ho', hd', _⟩, _⟩ := I.loc
  rw [z, ho'] at ho; cases ho; rw [hd'] at hd; cases hd
theorem Inv.funs (I : Inv X pins σ H s) : s.heap.FunFrames X.base X.outer := by
  have all : ∀ (l : List Env), (∀ b ∈ frs l, b ∈ X.fs) → X.s₀.heap.FunFrames X.base l → s.heap.FunFrames X.base l := by
    intro l
    induction l with
    | nil => intro _ _; trivial
    | cons env r ih =>
      intro hs hl
      obtain ⟨hk, ⟨L, o, hf, hn, ho, hd⟩, hr⟩ := hl
      have hL : L ∈ X.fs := hs L (by unfold frs; rw [List.filterMap_cons, hf]; exact List.mem_cons_self)
      obtain ⟨sl, e⟩ := I.base.slot L o ho (I.ok.frf L hL) hL fun z => I.ok.exfs L z hL
      exact ⟨hk, ⟨L, _, hf, hn, e, hd⟩, ih (fun b hb => hs b (by unfold frs; rw [List.filterMap_cons, hf]; exact List.mem_cons_of_mem _ hb)) hr⟩
  exact all X.outer (fun _ hb => hb) I.ok.funs
theorem Inv.stack (I : Inv X pins σ H s) : s.heap.FunFrames X.base X.stack := by
  rcases I.ok.stk with e | ⟨e, hf⟩
  · rw [e]; exact I.funs
  · rw [e]
    obtain ⟨m, hn, _⟩ := I.loc
    refine .cons (by rw [I.ok.kind]; decide) hf hn ?_ I.funs
    exact Heap.get?_none_of_le (Nat.le_trans I.ok.bsz I.ok.above)
theorem Inv.stkSub (I : Inv X pins σ H s) : ∀ b ∈ frs X.stack, b ∈ X.env.locals :: X.fs := fun b hb => by
  rcases I.ok.stk with e | ⟨e, hf⟩
  · rw [e] at hb; exact List.mem_cons_of_mem _ hb
  · rw [e] at hb
    unfold frs at hb
    rw [List.filterMap_cons, hf] at hb
    exact hb
theorem Inv.stkFree (I : Inv X pins σ H s) : ∀ b ∈ frs X.stack, H b = none := fun b hb => by
  rcases List.mem_cons.mp (I.stkSub b hb) with e | hb
  · rw [e]; exact I.free
  · obtain ⟨_, o, ho, _⟩ := I.ok.funs.mem hb
    exact I.base.free b o ho (I.ok.frf b hb) fun z => I.ok.exfs b z hb
theorem Inv.step {g' : Array GenState} {t' : Nat} {d' : Drawn} {ch : List Addr} (I : Inv X pins σ H s)
    (hch : ∀ b ∈ ch, (b ∈ X.ex ∨ X.s₀.heap.objs.size ≤ b) ∧ b ≠ X.env.locals ∧ (∀ x c, X.env.cells.lookup x = some c → c ≠ b) ∧ ∀ p ∈ X.pn ++ pins, p.1 ≠ b)
    (keep : ∀ b o, b ≠ X.env.locals → b ∉ X.fs → b ∉ ch → s.heap.get? b = some o → H b = none → h'.get? b = some o)
    (slot : ∀ b o, b ≠ X.env.locals → b ∈ X.fs → b ∉ ch → s.heap.get? b = some o → H b = none → ∃ sl, h'.get? b = some { o with slots := sl }) (free : ∀ b o, b ∉ ch → s.heap.get? b = some o → H b = none → H' b = none)
    (there : ∀ b o, b ∉ ch → s.heap.get? b = some o → ∃ o', h'.get? b = some o')
    (tups : ∀ b xs, H b = some (.tup xs) → H' b = some (.tup xs)) (frzs : ∀ b o u, H b = some (.frz o u) → H' b = some (.frz o u)) (tbls : ∀ b ps, H b = some (.tbl ps) → ∃ more, H' b = some (.tbl (ps ++ more)))
    (ns : ∀ m, s.heap.Ns X.env.locals m → h'.Ns X.env.locals m) (hok : HOk X.prog X.w H' h') (hg : AllBare g') :
    Inv X pins σ H' { s with heap := h', gens := g', drawn := d', toks := t' } := by
  have neL : ∀ b o, X.s₀.heap.get? b = some o → b ≠ X.env.locals := fun b o e => Nat.ne_of_lt (Nat.lt_of_lt_of_le (Heap.lt_size e) I.ok.above)
  have neC : ∀ b o, X.s₀.heap.get? b = some o → b ∉ X.ex → b ∉ ch := fun b o e hx hb => by
    rcases (hch b hb).1 with z | z
    · exact hx z
    · exact absurd (Nat.lt_of_lt_of_le (Heap.lt_size e) z) (Nat.lt_irrefl _)
  have cellK : ∀ x c, X.env.cells.lookup x = some c → ∀ v, s.heap.IsCell c v → h'.IsCell c v := fun x c e v ⟨o, ho, hd⟩ => by
    have nch : c ∉ ch := fun z => (hch c z).2.2.1 x c e rfl
    by_cases hc : c ∈ X.fs
    · obtain ⟨sl, q⟩ := slot c o (I.cne x c e) hc nch ho (I.freeC x c e)
      exact ⟨_, q, hd⟩
    · exact ⟨o, keep c o (I.cne x c e) hc nch ho (I.freeC x c e), hd⟩
  refine ⟨I.ok, I.os, hg, ⟨fun b o e n hb hx => ?_, fun b o e n hb hx => ?_, fun b o e n hx => ?_, fun b o e hx => ?_, fun b xs e => tups b xs (I.base.tups b xs e), fun b o xs e => frzs b o xs (I.base.frzs b o xs e), fun b ps e => ?_⟩, ?_, fun x c e => ?_, ?_, fun x c e => ?_, fun p hp => ?_, hok, I.len⟩
  · exact keep b o (neL b o e) hb (neC b o e hx) (I.base.keep b o e n hb hx) (I.base.free b o e n hx)
  · obtain ⟨sl, e1⟩ := I.base.slot b o e n hb hx
    obtain ⟨sl', e2⟩ := slot b _ (neL b o e) hb (neC b o e hx) e1 (I.base.free b o e n hx)
    exact ⟨sl', e2⟩
  · obtain ⟨o', e1⟩ := I.base.there b o e hx
    exact free b o' (neC b o e hx) e1 (I.base.free b o e n hx)
  · obtain ⟨o', e1⟩ := I.base.there b o e hx
    exact there b o' (neC b o e hx) e1
  · obtain ⟨m1, e1⟩ := I.base.tbls b ps e
    obtain ⟨m2, e2⟩ := tbls b _ e1
    exact ⟨m1 ++ m2, by rw [e2, Array.append_assoc]⟩
  · obtain ⟨m, hn, hl⟩ := I.loc
    refine ⟨m, ns m hn, fun i x v e1 e2 e3 => ?_⟩
    obtain ⟨u, r, l⟩ := hl i x v e1 e2 e3
    refine ⟨u, r, ?_⟩
    rcases l with l | ⟨k, c, e, z⟩
    · exact .inl l
    · exact .inr ⟨k, c, e, cellK x c e _ z⟩
  · obtain ⟨v, z⟩ := I.cell x c e
    exact ⟨v, cellK x c e v z⟩
  · obtain ⟨m, ⟨o, _, _, ho, _⟩, _⟩ := I.loc
    exact free _ o (fun z => (hch _ z).2.1 rfl) ho I.free
  · obtain ⟨v, o, ho, hd⟩ := I.cell x c e
    exact free c o (fun z => (hch c z).2.2.1 x c e rfl) ho (I.freeC x c e)
  · obtain ⟨e, n, ne, nf, d⟩ := I.pin p hp
    have nch : p.1 ∉ ch := fun z => (hch p.1 z).2.2.2 p hp rfl
    exact ⟨keep p.1 p.2 ne nf nch e n, free p.1 p.2 nch e n, ne, nf, d⟩
theorem Inv.un {t' : Nat} (I : Inv X pins σ H s) (u : Un X.fs [] H H' s.heap h') (hok : HOk X.prog X.w H' h') : Inv X pins σ H' { s with heap := h', toks := t' } := by
  obtain ⟨m, ⟨o, es, ep, ho, r⟩, _⟩ := id I.loc
  obtain ⟨sl, hL⟩ := u.any ho I.free (by simp)
  exact I.step (g' := s.gens) (d' := s.drawn) (ch := []) (fun _ z => nomatch z) (fun b o _ hb _ e n => u.keep b o e n hb (by simp)) (fun b o _ hb _ e n => u.slot b o e n hb (by simp)) (fun b o _ e n => u.free b o e n (by simp)) (fun b o _ e => u.there b o e (by simp)) u.tups u.frzs u.tbls (fun m' hm => by
    obtain ⟨o', es', ep', ho', r'⟩ := hm
    rw [ho] at ho'; cases ho'
    exact ⟨_, es', ep', hL, r'⟩) hok I.bare
theorem Inv.call {g' : Array GenState} {t' : Nat} {d' : Drawn} {ch : List Addr} (I : Inv X pins σ H s) (u : Un (frs X.stack) ch H H' s.heap h') (hok : HOk X.prog X.w H' h') (hg : AllBare g')
    (hch : ∀ b ∈ ch, (b ∈ X.ex ∨ X.s₀.heap.objs.size ≤ b) ∧ b ≠ X.env.locals ∧ (∀ x c, X.env.cells.lookup x = some c → c ≠ b) ∧ ∀ p ∈ X.pn ++ pins, p.1 ≠ b) :
    Inv X pins σ H' { s with heap := h', gens := g', drawn := d', toks := t' } := by
  obtain ⟨m, ⟨o, es, ep, ho, r⟩, _⟩ := id I.loc
  obtain ⟨sl, hL⟩ := u.any ho I.free fun z => (hch _ z).2.1 rfl
  exact I.step (ch := ch) hch (fun b o hL hb hc e n => u.keep b o e n (fun z => (List.mem_cons.mp (I.stkSub b z)).elim hL hb) hc) (fun b o _ _ hc e n => u.any e n hc) (fun b o hc e n => u.free b o e n hc) (fun b o hc e => u.there b o e hc) u.tups u.frzs u.tbls (fun m' hm => by
    obtain ⟨o', es', ep', ho', r'⟩ := hm
    rw [ho] at ho'; cases ho'
    exact ⟨_, es', ep', hL, r'⟩) hok hg
theorem Inv.turned {t' : Nat} {it : Addr} (I : Inv X pins σ H s) (k : ∀ b o, b ≠ it → s.heap.get? b = some o → h'.get? b = some o) (hn : H it = none) (hL : it ≠ X.env.locals)
    (h1 : it ∈ X.ex ∨ X.s₀.heap.objs.size ≤ it) (h2 : ∀ x c, X.env.cells.lookup x = some c → c ≠ it) (h3 : ∀ p ∈ X.pn ++ pins, p.1 ≠ it) : Inv X pins σ H { s with heap := h', toks := t' } := by
  have nit : ∀ b u, H b = some u → b ≠ it := fun b u e z => by rw [z, hn] at e; cases e
  refine I.step (g' := s.gens) (d' := s.drawn) (ch := [it]) (fun b hb => ?_) (fun b o _ _ hc e _ => k b o (fun z => hc (by simp [z])) e) (fun b o _ _ hc e _ => ⟨o.slots, k b o (fun z => hc (by simp [z])) e⟩) (fun _ _ _ _ n => n)
    (fun b o hc e => ⟨o, k b o (fun z => hc (by simp [z])) e⟩) (fun _ _ e => e) (fun _ _ _ e => e) (fun b ps e => ⟨#[], by rw [e]; simp⟩) (fun m hm => ?_) (fun b u e => ?_) I.bare
  · have e : b = it := by simpa using hb
    subst e
    exact ⟨h1, hL, h2, h3⟩
  · obtain ⟨o, es, ep, ho, r⟩ := hm
    exact ⟨o, es, ep, k _ o (Ne.symm hL) ho, r⟩
  · refine (I.hok b u e).stay (fun c v hc q => k c v ?_ q) (fun _ q => q) fun _ _ q => q
    rcases hc with z | z
    · rw [z]; exact nit b u e
    · exact nit c _ z
theorem Inv.tok (I : Inv X pins σ H s) (t : Nat) : Inv X pins σ H { s with toks := t } := I.un (h' := s.heap) (t' := t) Un.refl I.hok
theorem Inv.kept {t' : Nat} (I : Inv X pins σ H s) (k : ∀ b u, s.heap.get? b = some u → h'.get? b = some u) : Inv X pins σ H { s with heap := h', toks := t' } := I.un (Un.kept k) (I.hok.kept k)
theorem Inv.laid {a : Addr} {o : HO} {t' : Nat} (I : Inv X pins σ H s) (k : ∀ b u, s.heap.get? b = some u → h'.get? b = some u) (hp : s.heap.objs.size ≤ a) (new : ObjOk X.prog X.w (upd H a o) h' a o) :
    Inv X pins σ (upd H a o) { s with heap := h', toks := t' } := I.un (Un.laid k hp (I.hok.fresh hp)) (I.hok.laid k hp new)
theorem Inv.write {x e : Addr} {o : HO} {t' : Nat} (I : Inv X pins σ H s) (mu : Mut (H x)) (he : e = x ∨ H e = some (.own x)) (k : ∀ b u, b ≠ e → s.heap.get? b = some u → h'.get? b = some u) (heo : ∃ u, h'.get? e = some u)
    (new : ObjOk X.prog X.w (upd H x o) h' x o) : Inv X pins σ (upd H x o) { s with heap := h', toks := t' } := I.un (Un.write mu he k heo) (I.hok.write mu he k heo new)
theorem Inv.pins_of {pins' : List (Addr × Obj)} (I : Inv X pins σ H s) (h : ∀ p ∈ pins', s.heap.get? p.1 = some p.2 ∧ H p.1 = none ∧ p.1 ≠ X.env.locals ∧ p.1 ∉ X.fs ∧ ∀ v, p.2.data ≠ .cell v) : Inv X pins' σ H s :=
  ⟨I.ok, I.os, I.bare, I.base, I.loc, I.cell, I.free, I.freeC, fun p hp => (List.mem_append.mp hp).elim (fun z => I.pin p (List.mem_append_left _ z)) (h p), I.hok, I.len⟩
theorem nodup_ix {N : List Str} (hN : N.Nodup) {i j : Nat} {x : Str} (a : N[i]? = some x) (b : N[j]? = some x) : i = j := by
  obtain ⟨h1, e1⟩ := List.getElem?_eq_some_iff.mp a
  obtain ⟨h2, e2⟩ := List.getElem?_eq_some_iff.mp b
  exact (List.getElem_inj hN).mp (e1.trans e2.symm)
theorem store_ok2 {M : Model} {A : Around} {E : Value → Shared → Prop} {i : Nat} {x : Str} {v : V} {u : Value} {Q : Unit → Shared → Prop} (I : Inv X pins σ H s) (hN : X.N.Nodup) (hi : X.N[i]? = some x) (hx : Loc X.env.scope x) (r : RelV v u)
    (h : ∀ s', Inv X pins (σ.set i (some v)) H s' → (∃ a, Heap.SameBut a s.heap s'.heap ∧ (a = X.env.locals ∨ X.env.cells.lookup x = some a)) → Q () s') (hf : X.fn x = true ∨ X.env.scope.names.lookup x = some .local := by first | exact .inl rfl | exact .inr rfl | assumption) : wpAny M A (storeName X.env x u) Q E s := by
  obtain ⟨m, hn, hl⟩ := id I.loc
  have hcls : (X.env.scope.kind == .class || (X.env.scope.kind == .module && X.env.locals != X.env.globals)) = false := by rw [I.ok.kind]; rfl
  have hiσ : i < σ.length := by rw [I.len]; exact (List.getElem?_eq_some_iff.mp hi).1
  have cne := I.cne
  have tracked : ∀ {a : Addr} {h' : Heap}, (∃ o, s.heap.get? a = some o ∧ H a = none) → Heap.SameBut a s.heap h' → HOk X.prog X.w H h' := fun {a h'} ha hs b ob e => by
    obtain ⟨_, _, hfree⟩ := ha
    refine (I.hok b ob e).stay (fun c w' hc q => (hs.2 c ?_).trans q) (fun _ q => q) fun _ _ q => q
    rintro rfl
    rcases hc with rfl | hc
    · rw [hfree] at e; cases e
    · rw [hfree] at hc; cases hc
  rcases hx with hk | hk
  · refine wpAny_storeName_local hk hn (fun h' hn' hs => ?_) hcls
    obtain ⟨oL, _, _, hoL, _⟩ := id hn
    refine h _ ⟨I.ok, I.os, I.bare, ⟨fun b o e n hb hx => ?_, fun b o e n hb hx => ?_, I.base.free, fun b o e hx => ?_, I.base.tups, I.base.frzs, I.base.tbls⟩, ⟨_, hn', fun j y v' e1 e2 e3 => ?_⟩, fun y c e => ?_, I.free, I.freeC, fun p hp => ?_, tracked ⟨oL, hoL, I.free⟩ hs, by simpa using I.len⟩ ⟨_, hs, .inl rfl⟩
    · exact (hs.2 b (Nat.ne_of_lt (Nat.lt_of_lt_of_le (Heap.lt_size e) I.ok.above))).trans (I.base.keep b o e n hb hx)
    · obtain ⟨sl, e1⟩ := I.base.slot b o e n hb hx
      exact ⟨sl, (hs.2 b (Nat.ne_of_lt (Nat.lt_of_lt_of_le (Heap.lt_size e) I.ok.above))).trans e1⟩
    · obtain ⟨o', e1⟩ := I.base.there b o e hx
      exact ⟨o', (hs.2 b (Nat.ne_of_lt (Nat.lt_of_lt_of_le (Heap.lt_size e) I.ok.above))).trans e1⟩
    · by_cases hj : j = i
      · subst hj
        rw [hi] at e1; cases e1
        rw [List.getElem?_set_self hiσ] at e2
        cases e2
        exact ⟨u, r, .inl ⟨hk, by simp⟩⟩
      · rw [List.getElem?_set_ne (Ne.symm hj)] at e2
        obtain ⟨u', r', q⟩ := hl j y v' e1 e2 e3
        refine ⟨u', r', ?_⟩
        rcases q with ⟨k, e⟩ | ⟨k, c, e, z⟩
        · refine .inl ⟨k, ?_⟩
          have : y ≠ x := fun e => hj (nodup_ix hN e1 (e ▸ hi))
          simp [this, e]
        · exact .inr ⟨k, c, e, z.sameBut hs (cne y c e)⟩
    · obtain ⟨w', z⟩ := I.cell y c e
      exact ⟨w', z.sameBut hs (cne y c e)⟩
    · obtain ⟨e, n, ne, nf, d⟩ := I.pin p hp
      exact ⟨(hs.2 p.1 ne).trans e, n, ne, nf, d⟩
  · have hfn : X.fn x = true := by
      rcases hf with z | z
      · exact z
      · rw [z] at hk; cases hk
    obtain ⟨c, hc⟩ := I.ok.has x (.inl hk)
    obtain ⟨w', z⟩ := I.cell x c hc
    refine wpAny_storeName_cell I.ok.kind hk hc z (fun h' hc' hs => ?_)
    obtain ⟨oc, hoc, hocd⟩ := id z
    refine h { s with heap := h' } ⟨I.ok, I.os, I.bare, ⟨fun b o e n hb hx => ?_, fun b o e n hb hx => ?_, I.base.free, fun b o e hx => ?_, I.base.tups, I.base.frzs, I.base.tbls⟩, ⟨m, hn.sameBut hs (Ne.symm (cne x c hc)), fun j y v' e1 e2 e3 => ?_⟩, fun y c' e => ?_, I.free, I.freeC, fun p hp => ?_, tracked ⟨oc, hoc, I.freeC x c hc⟩ hs, by simpa using I.len⟩ ⟨c, hs, .inr hc⟩
    · exact (hs.2 b (Nat.ne_of_lt (Nat.lt_of_lt_of_le (Heap.lt_size e) (I.ok.cab x c hfn hc)))).trans (I.base.keep b o e n hb hx)
    · obtain ⟨sl, e1⟩ := I.base.slot b o e n hb hx
      exact ⟨sl, (hs.2 b (Nat.ne_of_lt (Nat.lt_of_lt_of_le (Heap.lt_size e) (I.ok.cab x c hfn hc)))).trans e1⟩
    · obtain ⟨o', e1⟩ := I.base.there b o e hx
      exact ⟨o', (hs.2 b (Nat.ne_of_lt (Nat.lt_of_lt_of_le (Heap.lt_size e) (I.ok.cab x c hfn hc)))).trans e1⟩
    · by_cases hj : j = i
      · subst hj
        rw [hi] at e1; cases e1
        rw [List.getElem?_set_self hiσ] at e2
        cases e2
        exact ⟨u, r, .inr ⟨.inl hk, c, hc, hc'⟩⟩
      · rw [List.getElem?_set_ne (Ne.symm hj)] at e2
        obtain ⟨u', r', q⟩ := hl j y v' e1 e2 e3
        refine ⟨u', r', ?_⟩
        rcases q with q | ⟨k, c', e, z'⟩
        · exact .inl q
        · refine .inr ⟨k, c', e, z'.sameBut hs ?_⟩
          rintro rfl
          exact hj (nodup_ix hN e1 (I.ok.inj _ _ _ e hc ▸ hi))
    · by_cases hcc : c' = c
      · subst hcc; exact ⟨_, hc'⟩
      · obtain ⟨w2, z2⟩ := I.cell y c' e
        exact ⟨w2, z2.sameBut hs hcc⟩
    · obtain ⟨e, n, ne, nf, d⟩ := I.pin p hp
      refine ⟨(hs.2 p.1 ?_).trans e, n, ne, nf, d⟩
      intro q
      rw [q, hoc] at e
      have q' : oc = p.2 := Option.some.inj e
      exact d w' (by rw [← q']; exact hocd)
theorem store_ok {M : Model} {A : Around} {E : Value → Shared → Prop} {i : Nat} {x : Str} {v : V} {u : Value} {Q : Unit → Shared → Prop} (I : Inv X pins σ H s) (hN : X.N.Nodup) (hi : X.N[i]? = some x) (hx : Loc X.env.scope x) (r : RelV v u)
    (h : ∀ s', Inv X pins (σ.set i (some v)) H s' → Q () s') (hf : X.fn x = true ∨ X.env.scope.names.lookup x = some .local := by first | exact .inl rfl | exact .inr rfl | assumption) : wpAny M A (storeName X.env x u) Q E s :=
  store_ok2 I hN hi hx r (fun s' I' _ => h s' I') hf
theorem Inv.call' {s' : Shared} {ch : List Addr} (I : Inv X pins σ H s) (ho : s'.os = s.os) (u : Un (frs X.stack) ch H H' s.heap s'.heap) (hok : HOk X.prog X.w H' s'.heap) (hg : AllBare s'.gens)
    (hch : ∀ b ∈ ch, (b ∈ X.ex ∨ X.s₀.heap.objs.size ≤ b) ∧ b ≠ X.env.locals ∧ (∀ x c, X.env.cells.lookup x = some c → c ≠ b) ∧ ∀ p ∈ X.pn ++ pins, p.1 ≠ b) : Inv X pins σ H' s' := by
  obtain ⟨h', g', d', t', o'⟩ := s'
  have e : o' = s.os := ho
  subst e
  exact I.call (g' := g') (t' := t') (d' := d') u hok hg hch
end
abbrev XK := Value → Option Addr → Hp → Prop
abbrev St := List (Option V)
abbrev VK := V → Hp → Prop
abbrev TE := St → Hp → VK → Prop
abbrev TT := St → Hp → (Bool → Hp → Prop) → Prop
abbrev TA := St → Hp → (List V → Hp → Prop) → Prop
structure Ends where
  nx : St → Hp → Prop
  rt : VK
  bk : St → Hp → Prop := fun _ _ => False
  ct : St → Hp → Prop := fun _ _ => False
abbrev TS := Ends → St → Hp → Prop
def EP (X : Cx) (pins : List (Addr × Obj)) (σ : St) (Q : VK) (u : Value) (s' : Shared) : Prop := ∃ v H', Inv X pins σ H' s' ∧ RelV v u ∧ Q v H'
def TP (X : Cx) (pins : List (Addr × Obj)) (σ : St) (Q : Bool → Hp → Prop) (b : Bool) (s' : Shared) : Prop := ∃ H', Inv X pins σ H' s' ∧ Q b H'
def AP (X : Cx) (pins : List (Addr × Obj)) (σ : St) (Q : List V → Hp → Prop) (us : List Value) (s' : Shared) : Prop := ∃ vs H', Inv X pins σ H' s' ∧ Vals vs us ∧ Q vs H'
def SP (X : Cx) (pins : List (Addr × Obj)) (D : Ends) (f : Flow) (s' : Shared) : Prop :=
  match f with
  | .next => ∃ σ' H', Inv X pins σ' H' s' ∧ D.nx σ' H'
  | .brk => ∃ σ' H', Inv X pins σ' H' s' ∧ D.bk σ' H'
  | .cont => ∃ σ' H', Inv X pins σ' H' s' ∧ D.ct σ' H'
  | .ret u => ∃ v σ' H', Inv X pins σ' H' s' ∧ RelV v u ∧ D.rt v H'
def PE (X : Cx) (e : Expr) (t : TE) : Prop :=
  ∀ (pins : List (Addr × Obj)) (s : Shared) (σ : St) (H : Hp) (Q : VK), Inv X pins σ H s → t σ H Q → wpAny (model X.prog X.w) X.A (eval e X.env) (EP X pins σ Q) X.xe s
def PT (X : Cx) (e : Expr) (t : TT) : Prop :=
  ∀ (pins : List (Addr × Obj)) (s : Shared) (σ : St) (H : Hp) (Q : Bool → Hp → Prop), Inv X pins σ H s → t σ H Q → wpAny (model X.prog X.w) X.A (isTrue e X.env (eval e X.env)) (TP X pins σ Q) X.xe s
def PW (X : Cx) (e : Expr) (t : TT) : Prop :=
  ∀ (whole : Sem Value) (pins : List (Addr × Obj)) (s : Shared) (σ : St) (H : Hp) (Q : Bool → Hp → Prop), Inv X pins σ H s → t σ H Q → wpAny (model X.prog X.w) X.A (isTrue e X.env whole) (TP X pins σ Q) X.xe s
theorem PW.pt {X : Cx} {e : Expr} {t : TT} (h : PW X e t) : PT X e t := h _
def PA (X : Cx) (es : List Expr) (t : TA) : Prop :=
  ∀ (pos : Pos) (pins : List (Addr × Obj)) (s : Shared) (σ : St) (H : Hp) (Q : List V → Hp → Prop), Inv X pins σ H s → t σ H Q → wpAny (model X.prog X.w) X.A (spliced (backTo pos (starEach es X.env))) (AP X pins σ Q) X.xe s
def PS (X : Cx) (st : Stmt) (t : TS) : Prop :=
  ∀ (pins : List (Addr × Obj)) (s : Shared) (σ : St) (H : Hp) (D : Ends), Inv X pins σ H s → t D σ H → wpAny (model X.prog X.w) X.A (exec st X.env) (SP X pins D) X.xe s
def PSs (X : Cx) (st : List Stmt) (t : TS) : Prop :=
  ∀ (pins : List (Addr × Obj)) (s : Shared) (σ : St) (H : Hp) (D : Ends), Inv X pins σ H s → t D σ H → wpAny (model X.prog X.w) X.A (execs st X.env) (SP X pins D) X.xe s
theorem thn {α : Type} {t : Sem α} {Q Q' : α → Shared → Prop} {M : Model} {A : Around} {E : Value → Shared → Prop} {s : Shared} (h : wpAny M A t Q E s) (hQ : ∀ a s, Q a s → Q' a s) : wpAny M A t Q' E s := wpAny_mono h hQ fun _ _ x => x
open PySem PySem.Spec PyProof.Rows
section
variable {X : Cx}
def tVar (i : Nat) : TE := fun σ H Q => ∃ v, σ[i]? = some (some v) ∧ Q v H
def tC (v : V) : TE := fun _ H Q => Q v H
theorem pe_var {i : Nat} {x : Str} {pos : Pos} (hN : X.N[i]? = some x) (hv : Vis X.env.scope x) (hd : (x == ("__debug__" : Str)) = false := by decide) (hcd : (x == ("__classdict__" : Str)) = false := by decide) : PE X (.Name x pos) (tVar i) := by
  intro pins s σ H Q I h
  obtain ⟨v, e, h⟩ := h
  obtain ⟨m, hn, hl⟩ := I.loc
  obtain ⟨u, r, l⟩ := hl i x v hN e hv
  have fin : EP X pins σ Q u s := ⟨v, H, I, r, h⟩
  rcases l with ⟨hk, hm⟩ | ⟨hk, c, hc, hcell⟩
  · exact wpAny_Name (wpAny_loadName_local I.ok.kind hk hn hm fin) hd
  · rcases hk with hk | hk
    · exact wpAny_Name (wpAny_loadName_cell I.ok.kind hk hc hcell fin) hd
    · exact wpAny_Name (wpAny_loadName_free I.ok.kind hk hc hcell fin hcd) hd
theorem pe_int {i j pos} : PE X (.Constant (.int i) j pos) (tC (.int i)) := fun _ _ _ H _ I h => wpAny_Constant_int ⟨.int i, H, I.tok _, ⟨_, rfl⟩, h⟩
theorem pe_bl {b j pos} : PE X (.Constant (.bool b) j pos) (tC (.bl b)) := fun _ _ _ H _ I h => Constant_bool ⟨.bl b, H, I, rfl, h⟩
theorem pe_non {j pos} : PE X (.Constant .none j pos) (tC .non) := fun _ _ _ H _ I h => Constant_none ⟨.non, H, I, rfl, h⟩
theorem pe_str {x j pos} : PE X (.Constant (.str x) j pos) (tC (.str x)) := fun _ _ _ H _ I h => Calls.Constant_str ⟨.str x, H, I.tok _, ⟨_, rfl⟩, h⟩
def Gl (X : Cx) (x : Str) : Prop := X.env.kindOf x = some .globalImplicit
theorem ld_glob {E : Value → Shared → Prop} {pins : List (Addr × Obj)} {s : Shared} {σ : St} {H : Hp} {x : Str} {u : Value} {pos : Pos} {Q : Value → Shared → Prop} (I : Inv X pins σ H s) (hg : Gl X x) (hm : X.mg x = some u) (h : Q u s)
    (hd : (x == ("__debug__" : Str)) = false := by decide) : wpAny (model X.prog X.w) X.A (eval (.Name x pos) X.env) Q E s :=
  Calls.Name_function_global I.ok.kind hg (Calls.loadGlobal_global (by rw [I.ok.glob]; exact I.mod.glob.keeps I.bk) hm h) hd
theorem ld_blt {E : Value → Shared → Prop} {pins : List (Addr × Obj)} {s : Shared} {σ : St} {H : Hp} {x : Str} {u : Value} {pos : Pos} {Q : Value → Shared → Prop} (I : Inv X pins σ H s) (hg : Gl X x) (hm : X.mg x = none) (hv : bootBuiltins x = some u) (h : Q u s)
    (hn : x ≠ "__name__" := by decide) (hd : (x == ("__debug__" : Str)) = false := by decide) : wpAny (model X.prog X.w) X.A (eval (.Name x pos) X.env) Q E s := by
  obtain ⟨mb, h1, h2⟩ := I.mod.blt
  exact Calls.Name_function_global I.ok.kind hg (Calls.loadGlobal_builtin (by rw [I.ok.glob]; exact I.mod.glob.keeps I.bk) hm (by rw [I.ok.blt]; exact h1.keeps I.bk) ((h2 x hn).trans hv) h) hd
theorem pe_glob {x : Str} {v : V} {u : Value} {pos : Pos} (hg : Gl X x) (hm : X.mg x = some u) (r : RelV v u) (hd : (x == ("__debug__" : Str)) = false := by decide) : PE X (.Name x pos) (tC v) :=
  fun _ _ _ H _ I h => ld_glob I hg hm ⟨v, H, I, r, h⟩ hd
theorem pe_bltn {x : Str} {v : V} {u : Value} {pos : Pos} (hg : Gl X x) (hm : X.mg x = none) (hv : bootBuiltins x = some u) (r : RelV v u) (hn : x ≠ "__name__" := by decide) (hd : (x == ("__debug__" : Str)) = false := by decide) : PE X (.Name x pos) (tC v) :=
  fun _ _ _ H _ I h => ld_blt I hg hm hv ⟨v, H, I, r, h⟩ hn hd
def t2I (ta tb : TE) (k : Int → Int → Hp → Prop) : St → Hp → Prop := fun σ H => ta σ H fun x H1 => tb σ H1 fun y H2 => ∃ i j, x = .int i ∧ y = .int j ∧ k i j H2
def tAdd (ta tb : TE) : TE := fun σ H Q => t2I ta tb (fun i j H2 => Q (.int (i + j)) H2) σ H
def tSub (ta tb : TE) : TE := fun σ H Q => t2I ta tb (fun i j H2 => Q (.int (i - j)) H2) σ H
def tMul (ta tb : TE) : TE := fun σ H Q => t2I ta tb (fun i j H2 => (-(2 ^ 64) < i ∧ i < 2 ^ 64) ∧ Q (.int (i * j)) H2) σ H
variable {a b : Expr} {ta tb : TE} {pos : Pos}
def PC (X : Cx) (op : CmpOp) (a b : Expr) (t : TE) : Prop :=
  ∀ (pins : List (Addr × Obj)) (s : Shared) (σ : St) (H : Hp) (Q : VK), Inv X pins σ H s → t σ H Q →
    wpAny (model X.prog X.w) X.A (eval a X.env) (fun v s₁ => wpAny (model X.prog X.w) X.A (eval b X.env) (fun u s₂ => wpAny (model X.prog X.w) X.A (compareOp op v u) (EP X pins σ Q) X.xe s₂) X.xe s₁) X.xe s
theorem nobehind (b : Expr) {op : CmpOp} (h : op ≠ .In) (h2 : op ≠ .NotIn) : behindInMarks op b = false := by
  have e1 : (op == CmpOp.In) = false := by cases op <;> first | rfl | exact absurd rfl h
  have e2 : (op == CmpOp.NotIn) = false := by cases op <;> first | rfl | exact absurd rfl h2
  cases b <;> simp [behindInMarks, e1, e2]
def tCmp (p : Int → Int → Bool) (ta tb : TE) : TE := fun σ H Q => t2I ta tb (fun i j H2 => Q (.bl (p i j)) H2) σ H
abbrev tLt : TE → TE → TE := tCmp fun i j => decide (i < j)
abbrev tLe : TE → TE → TE := tCmp fun i j => decide (i ≤ j)
abbrev tGt : TE → TE → TE := tCmp fun i j => decide (j < i)
abbrev tGe : TE → TE → TE := tCmp fun i j => decide (j ≤ i)
abbrev tEqI : TE → TE → TE := tCmp fun i j => decide (i = j)
abbrev tNeI : TE → TE → TE := tCmp fun i j => !decide (i = j)
def tIsN (ta : TE) : TE := fun σ H Q => ta σ H fun x H1 => Q (.bl (decide (x = .non))) H1
def tNotN (ta : TE) : TE := fun σ H Q => ta σ H fun x H1 => Q (.bl (!decide (x = .non))) H1
def tB (t : TE) : TT := fun σ H Q => t σ H fun x H1 => ∃ c, x = .bl c ∧ Q c H1
theorem pt_cmp {op : CmpOp} {t : TE} (h : PC X op a b t) (h1 : behindInMarks op b = false := by first | exact nobehind _ (by decide) (by decide) | rfl) : PT X (.Compare a [op] [b] pos) (tB t) := by
  intro pins s σ H Q I hw
  refine wpAny_isTrue_Compare1 (thn (h pins s σ H _ I hw) fun v s1 h1 => thn h1 fun u s2 h2 => thn h2 fun c s3 ⟨x, H1, I1, r1, q1⟩ => ?_) h1
  obtain ⟨d, rfl, q⟩ := q1
  cases r1
  exact wpAny_truthy_bool ⟨H1, I1, q⟩
theorem pt_val {e : Expr} {t : TE} (h : PE X e t) (he : ∀ whole, isTrue e X.env whole = (do let v ← whole; standAt e.pos; holding [v] (truthy v)) := by intro _; rfl) : PT X e (tB t) := by
  intro pins s σ H Q I hw
  refine isTrue_plain (thn (h pins s σ H _ I hw) fun v s1 ⟨x, H1, I1, r1, q1⟩ => ?_) (he _)
  obtain ⟨d, rfl, q⟩ := q1
  cases r1
  exact wpAny_truthy_bool ⟨H1, I1, q⟩
variable {tA tB' : TT} {rest : List Expr}
def tAnd (t u : TT) : TT := fun σ H Q => t σ H fun c H1 => if c = true then u σ H1 Q else Q false H1
def tOr (t u : TT) : TT := fun σ H Q => t σ H fun c H1 => if c = true then Q true H1 else u σ H1 Q
def tNot (t : TT) : TT := fun σ H Q => t σ H fun c H1 => Q (!c) H1
theorem pw_and1 (ha : PT X a tA) : PW X (.BoolOp .And [a] pos) tA := by
  intro wh pins s σ H Q I h
  refine isTrue_and (thn (ha pins s σ H Q I h) fun c s1 e => ?_)
  cases c with
  | true => exact isTrue_and_nil e
  | false => exact e
theorem pw_or1 (ha : PT X a tA) : PW X (.BoolOp .Or [a] pos) tA := by
  intro wh pins s σ H Q I h
  refine isTrue_or (thn (ha pins s σ H Q I h) fun c s1 e => ?_)
  cases c with
  | false => exact isTrue_or_nil e
  | true => exact e
theorem pw_and (ha : PT X a tA) (hb : PW X (.BoolOp .And (b :: rest) pos) tB') : PW X (.BoolOp .And (a :: b :: rest) pos) (tAnd tA tB') := by
  intro wh pins s σ H Q I h
  refine isTrue_and (thn (ha pins s σ H _ I h) fun c s1 ⟨H1, I1, q1⟩ => ?_)
  cases c with
  | true => exact hb wh pins s1 σ H1 Q I1 q1
  | false => exact ⟨H1, I1, q1⟩
theorem pw_or (ha : PT X a tA) (hb : PW X (.BoolOp .Or (b :: rest) pos) tB') : PW X (.BoolOp .Or (a :: b :: rest) pos) (tOr tA tB') := by
  intro wh pins s σ H Q I h
  refine isTrue_or (thn (ha pins s σ H _ I h) fun c s1 ⟨H1, I1, q1⟩ => ?_)
  cases c with
  | true => exact ⟨H1, I1, q1⟩
  | false => exact hb wh pins s1 σ H1 Q I1 q1
theorem pt_not (ha : PT X a tA) : PT X (.UnaryOp .Not a pos) (tNot tA) := by
  intro pins s σ H Q I h
  exact isTrue_not (ha pins s σ H (fun c H1 => Q (!c) H1) I h)
def tAndV (ta tb : TE) : TE := fun σ H Q => ta σ H fun x H1 => ∃ c, x = .bl c ∧ if c = true then tb σ H1 Q else Q (.bl false) H1
def tOrV (ta tb : TE) : TE := fun σ H Q => ta σ H fun x H1 => ∃ c, x = .bl c ∧ if c = true then Q (.bl true) H1 else tb σ H1 Q
def tNotV (ta : TE) : TE := fun σ H Q => ta σ H fun x H1 => ∃ c, x = .bl c ∧ Q (.bl (!c)) H1
theorem pe_one {op} {t : TE} (h : PE X a t) : PE X (.BoolOp op [a] pos) t := fun pins s σ H Q I hw => BoolOp_one (h pins s σ H Q I hw)
theorem pe_and (ha : PE X a ta) (hb : PE X (.BoolOp .And (b :: rest) pos) tb) : PE X (.BoolOp .And (a :: b :: rest) pos) (tAndV ta tb) := by
  intro pins s σ H Q I h
  refine BoolOp_and (thn (ha pins s σ H _ I h) fun v s1 ⟨x, H1, I1, r1, q1⟩ => ?_)
  obtain ⟨c, rfl, q1⟩ := q1
  cases r1
  refine wpAny_truthy_bool ?_
  cases c with
  | true => exact hb pins s1 σ H1 Q I1 q1
  | false => exact ⟨.bl false, H1, I1, rfl, q1⟩
theorem pe_or (ha : PE X a ta) (hb : PE X (.BoolOp .Or (b :: rest) pos) tb) : PE X (.BoolOp .Or (a :: b :: rest) pos) (tOrV ta tb) := by
  intro pins s σ H Q I h
  refine BoolOp_or (thn (ha pins s σ H _ I h) fun v s1 ⟨x, H1, I1, r1, q1⟩ => ?_)
  obtain ⟨c, rfl, q1⟩ := q1
  cases r1
  refine wpAny_truthy_bool ?_
  cases c with
  | false => exact hb pins s1 σ H1 Q I1 q1
  | true => exact ⟨.bl true, H1, I1, rfl, q1⟩
theorem pe_not (ha : PE X a ta) : PE X (.UnaryOp .Not a pos) (tNotV ta) := by
  intro pins s σ H Q I h
  refine UnaryOp_ (thn (ha pins s σ H _ I h) fun v s1 ⟨x, H1, I1, r1, q1⟩ => ?_)
  obtain ⟨c, rfl, q1⟩ := q1
  cases r1
  exact not_of (wpAny_truthy_bool ⟨.bl (!c), H1, I1, rfl, q1⟩)
def tIf (t : TT) (ta tb : TE) : TE := fun σ H Q => t σ H fun c H1 => if c = true then ta σ H1 Q else tb σ H1 Q
theorem pe_ifExp {c : Expr} (hc : PT X c tA) (ha : PE X a ta) (hb : PE X b tb) : PE X (.IfExp c a b pos) (tIf tA ta tb) := by
  intro pins s σ H Q I h
  refine wpAny_IfExp (thn (hc pins s σ H _ I h) fun d s1 ⟨H1, I1, q1⟩ => ?_)
  cases d with
  | true => exact ha pins s1 σ H1 Q I1 q1
  | false => exact hb pins s1 σ H1 Q I1 q1
end
open PySem PySem.Spec PyProof.Rows
def SqL (K : PySem.W.Frag) (H : Hp) (a : Addr) (xs : List V) : Prop :=
  Rd H a (.lst xs) ∨
    ∃ (o : Obj) (its : Array Value) (n : Nat), K.lookup a = some o ∧ o.cls = .type "list" ∧ o.dict = none ∧ o.data = .seq its n ∧ its.size ≤ sizeLine ∧ Vals xs its.toList
def SqT (K : PySem.W.Frag) (H : Hp) (a : Addr) (xs : List V) : Prop :=
  Rd H a (.tup xs) ∨
    ∃ (o : Obj) (its : Array Value) (n : Nat), K.lookup a = some o ∧ o.cls = .type "tuple" ∧ o.data = .seq its n ∧ its.size ≤ sizeLine ∧ Vals xs its.toList
def absV : Value → Option V
  | .none => some .non
  | .bool b => some (.bl b)
  | .int i _ => some (.int i)
  | .str x _ => some (.str x)
  | .bytes b _ => some (.byt b)
  | .float b _ => some (.flt b)
  | .ref a => some (.ref a)
  | .type n => some (.ty n)
  | _ => none
theorem RelV.abs {x : V} {u : Value} (r : RelV x u) : absV u = some x := by
  cases x with
  | non => cases r; rfl
  | bl _ => cases r; rfl
  | int _ => obtain ⟨t, rfl⟩ := r; rfl
  | str _ => obtain ⟨t, rfl⟩ := r; rfl
  | byt _ => obtain ⟨t, rfl⟩ := r; rfl
  | flt _ => obtain ⟨t, rfl⟩ := r; rfl
  | ref _ => cases r; rfl
  | ty _ => cases r; rfl
theorem RelV.inj {x y : V} {u : Value} (r : RelV x u) (q : RelV y u) : x = y := Option.some.inj (r.abs.symm.trans q.abs)
theorem Vals.inj : ∀ {xs ys : List V} {us : List Value}, Vals xs us → Vals ys us → xs = ys
  | _, _, _, .nil, .nil => rfl
  | _, _, _, .cons r t, .cons r' t' => by rw [r.inj r', Vals.inj t t']
section
variable {X : Cx} {pins : List (Addr × Obj)} {σ : St} {H : Hp} {s : Shared} {a : Addr} {xs ys : List V}
theorem SqL.of {K : PySem.W.Frag} (h : H a = some (.lst xs)) : SqL K H a xs := .inl (.inl h)
theorem SqT.of {K : PySem.W.Frag} (h : H a = some (.tup xs)) : SqT K H a xs := .inl (.inl h)
theorem Inv.list (I : Inv X pins σ H s) (h : SqL X.K H a xs) : ∃ its : List Value, Vals xs its ∧ PlainL s.heap a its.toArray ∧ xs.length ≤ sizeLine := by
  rcases h with h | ⟨o, its, n, hk, hc, hd, hs, hz, r⟩
  · obtain ⟨z, its, n, r, e⟩ := h.ok I.hok
    exact ⟨its, r, ⟨_, n, e, rfl, rfl, rfl⟩, z⟩
  · refine ⟨its.toList, r, ⟨o, n, I.kIn a o hk, hc, hd, by simpa using hs⟩, ?_⟩
    have e := r.length
    simp only [Array.length_toList] at e
    omega
theorem Inv.tuple (I : Inv X pins σ H s) (h : SqT X.K H a xs) : ∃ its : List Value, Vals xs its ∧ IsTup s.heap a its.toArray ∧ xs.length ≤ sizeLine := by
  rcases h with h | ⟨o, its, n, hk, hc, hs, hz, r⟩
  · obtain ⟨z, its, r, p⟩ := h.ok I.hok
    exact ⟨its, r, p, z⟩
  · refine ⟨its.toList, r, ⟨o, I.kIn a o hk, hc, n, by simpa using hs⟩, ?_⟩
    have e := r.length
    simp only [Array.length_toList] at e
    omega
theorem Inv.list_inj (I : Inv X pins σ H s) (h : SqL X.K H a xs) (h' : SqL X.K H a ys) : xs = ys := by
  obtain ⟨its, r, ⟨o, n, e, _, _, d⟩, _⟩ := I.list h
  obtain ⟨its', r', ⟨o', n', e', _, _, d'⟩, _⟩ := I.list h'
  rw [e] at e'; cases e'
  rw [d] at d'
  injection d' with d1 _
  have : its = its' := by simpa using congrArg Array.toList d1
  subst this
  exact r.inj r'
end
abbrev Cx.wish (X : Cx) (E : Value → Shared → Prop) : Cx := { X with xe := E }
abbrev Cx.nox (X : Cx) : Cx := X.wish fun _ _ => False
theorem Cx.Ok.wish {X : Cx} (ok : X.Ok) (E : Value → Shared → Prop) : (X.wish E).Ok :=
  ⟨ok.mod, ok.kind, ok.glob, ok.blt, ok.above, ok.inj, ok.has, ok.cab, ok.hd, ok.frames, ok.stk, ok.exf, ok.bs, ok.bsz, ok.noex, ok.exfs, ok.funs, ok.frf⟩
theorem Cx.Ok.unwish {X : Cx} {E : Value → Shared → Prop} (ok : (X.wish E).Ok) : X.Ok :=
  ⟨ok.mod, ok.kind, ok.glob, ok.blt, ok.above, ok.inj, ok.has, ok.cab, ok.hd, ok.frames, ok.stk, ok.exf, ok.bs, ok.bsz, ok.noex, ok.exfs, ok.funs, ok.frf⟩
section
variable {X : Cx} {pins : List (Addr × Obj)} {σ : St} {H : Hp} {s : Shared} {E : Value → Shared → Prop}
theorem Inv.wish (I : Inv X pins σ H s) (E : Value → Shared → Prop) : Inv (X.wish E) pins σ H s := ⟨I.ok.wish E, I.os, I.bare, I.base, I.loc, I.cell, I.free, I.freeC, I.pin, I.hok, I.len⟩
theorem Inv.unwish (I : Inv (X.wish E) pins σ H s) : Inv X pins σ H s := ⟨I.ok.unwish, I.os, I.bare, I.base, I.loc, I.cell, I.free, I.freeC, I.pin, I.hok, I.len⟩
theorem SP.unwish {D : Ends} {f : Flow} {s' : Shared} (h : SP (X.wish E) pins D f s') : SP X pins D f s' := by
  cases f with
  | next => obtain ⟨σ', H', I, q⟩ := h; exact ⟨σ', H', I.unwish, q⟩
  | brk => obtain ⟨σ', H', I, q⟩ := h; exact ⟨σ', H', I.unwish, q⟩
  | cont => obtain ⟨σ', H', I, q⟩ := h; exact ⟨σ', H', I.unwish, q⟩
  | ret u => obtain ⟨v, σ', H', I, r, q⟩ := h; exact ⟨v, σ', H', I.unwish, r, q⟩
theorem PSs.nox {st : List Stmt} {t : TS} (h : PSs X.nox st t) : PSs X st t := fun pins s σ H D I hw =>
  wpAny_mono (h pins s σ H D (I.wish _) hw) (fun _ _ q => q.unwish) fun _ _ z => False.elim z
end
section
variable {X : Cx} {st : Stmt} {rest : List Stmt} {t u : TS} {e : Expr} {te : TE} {pos : Pos}
def tNext : TS := fun D σ H => D.nx σ H
def tSeq (t u : TS) : TS := fun D σ H => t { D with nx := u D } σ H
theorem pss_nil : PSs X [] tNext := fun _ _ σ H _ I h => wpAny_execs_nil ⟨σ, H, I, h⟩
theorem pss_cons (h1 : PS X st t) (h2 : PSs X rest u) : PSs X (st :: rest) (tSeq t u) := by
  intro pins s σ H D I h
  refine wpAny_execs_cons (thn (h1 pins s σ H { D with nx := u D } I h) fun f s1 q => ?_)
  cases f with
  | next =>
    obtain ⟨σ', H', I', q⟩ := q
    exact h2 pins s1 σ' H' D I' q
  | ret v => exact q
  | brk => exact q
  | cont => exact q
theorem pss_one (h1 : PS X st t) : PSs X [st] t := by
  intro pins s σ H D I h
  refine wpAny_execs_cons (thn (h1 pins s σ H D I h) fun f s1 q => ?_)
  cases f with
  | next => exact wpAny_execs_nil q
  | ret v => exact q
  | brk => exact q
  | cont => exact q
def tBreak : TS := fun D σ H => D.bk σ H
def tCont : TS := fun D σ H => D.ct σ H
theorem Inv.quiet {pins : List (Addr × Obj)} {σ : St} {H : Hp} {s : Shared} (I : Inv X pins σ H s) : interactive X.env = false := by simp [interactive, I.ok.kind]
def tDrop (te : TE) : TS := fun D σ H => te σ H fun _ H1 => D.nx σ H1
theorem ps_expr (he : PE X e te) (hs : swapsWith e none pos.line X.env = pure false := by rfl) : PS X (.Expr e pos) (tDrop te) := by
  intro pins s σ H D I h
  exact wpAny_Expr_any (thn (he pins s σ H _ I h) fun v s1 ⟨x, H1, I1, r1, q1⟩ => ⟨σ, H1, I1, q1⟩) I.quiet hs
def tRet (te : TE) : TS := fun D σ H => te σ H D.rt
theorem ps_ret (he : PE X e te) : PS X (.Return (some e) pos) (tRet te) := by
  intro pins s σ H D I h
  exact wpAny_Return_some (thn (he pins s σ H _ I h) fun v s1 ⟨x, H1, I1, r1, q1⟩ => ⟨x, σ, H1, I1, r1, q1⟩)
def tRetN : TS := fun D _ H => D.rt .non H
def tIfS (c : TT) (t u : TS) : TS := fun D σ H => c σ H fun b H1 => if b = true then t D σ H1 else u D σ H1
theorem ps_if {c : Expr} {a b : List Stmt} {tc : TT} (hc : PT X c tc) (ha : PSs X a t) (hb : PSs X b u) : PS X (.If c a b pos) (tIfS tc t u) := by
  intro pins s σ H D I h
  refine wpAny_If (thn (hc pins s σ H _ I h) fun d s1 ⟨H1, I1, q1⟩ => ?_)
  cases d with
  | true => exact ha pins s1 σ H1 D I1 q1
  | false => exact hb pins s1 σ H1 D I1 q1
def tNever : TS := fun _ _ _ => False
theorem ps_never : PS X st tNever := fun _ _ _ _ _ _ h => h.elim
end
abbrev TG := V → St → Hp → (St → Hp → Prop) → Prop
abbrev TGs := List V → St → Hp → (St → Hp → Prop) → Prop
def PG (X : Cx) (target : Expr) (t : TG) : Prop :=
  ∀ (pins : List (Addr × Obj)) (s : Shared) (σ : St) (H : Hp) (v : V) (u : Value) (Q : St → Hp → Prop), Inv X pins σ H s → RelV v u → t v σ H Q →
    wpAny (model X.prog X.w) X.A (assign target X.env u) (fun _ s' => ∃ σ' H', Inv X pins σ' H' s' ∧ Q σ' H') X.xe s
def PGs (X : Cx) (ts : List Expr) (t : TGs) : Prop :=
  ∀ (pins : List (Addr × Obj)) (s : Shared) (σ : St) (H : Hp) (vs : List V) (us : List Value) (Q : St → Hp → Prop), Inv X pins σ H s → Vals vs us → t vs σ H Q →
    wpAny (model X.prog X.w) X.A (assignInOrder ((assignEach ts X.env).map (·.2)) us) (fun _ s' => ∃ σ' H', Inv X pins σ' H' s' ∧ Q σ' H') X.xe s
abbrev TSet := V → V → V → Hp → (Hp → Prop) → Prop
def PSet (X : Cx) (t : TSet) : Prop :=
  ∀ (pins : List (Addr × Obj)) (s : Shared) (σ : St) (H : Hp) (o i v : V) (ov iv u : Value) (Q : Hp → Prop), Inv X pins σ H s → RelV o ov → RelV i iv → RelV v u → t o i v H Q →
    wpAny (model X.prog X.w) X.A (setItem ov iv u) (fun _ s' => ∃ H', Inv X pins σ H' s' ∧ Q H') X.xe s
abbrev TIp := V → V → Hp → VK → Prop
def PIp (X : Cx) (op : Operator) (t : TIp) : Prop :=
  ∀ (pins : List (Addr × Obj)) (s : Shared) (σ : St) (H : Hp) (x y : V) (v u : Value) (Q : VK), Inv X pins σ H s → RelV x v → RelV y u → t x y H Q →
    wpAny (model X.prog X.w) X.A (inplaceOp op v u) (EP X pins σ Q) X.xe s
section
variable {X : Cx} {pos : Pos}
def gName (i : Nat) : TG := fun v σ H Q => Q (σ.set i (some v)) H
theorem pg_name {i : Nat} {x : Str} (hN : X.N.Nodup) (hi : X.N[i]? = some x) (hx : Loc X.env.scope x) (hf : X.fn x = true ∨ X.env.scope.names.lookup x = some .local := by first | exact .inl rfl | exact .inr rfl | assumption) : PG X (.Name x pos) (gName i) := by
  intro pins s σ H v u Q I r h
  exact wpAny_assign_Name (store_ok I hN hi hx r (fun s' I' => ⟨_, H, I', h⟩) hf)
def gNil : TGs := fun vs σ H Q => vs = [] ∧ Q σ H
def gCons (t : TG) (u : TGs) : TGs := fun vs σ H Q => ∃ v r, vs = v :: r ∧ t v σ H fun σ' H' => u r σ' H' Q
theorem pgs_nil : PGs X [] gNil := by
  intro pins s σ H vs us Q I r h
  obtain ⟨e, h⟩ := h
  subst e
  cases r
  exact assignInOrder_nil ⟨σ, H, I, h⟩
theorem pgs_cons {e : Expr} {es : List Expr} {t : TG} {u : TGs} (h1 : PG X e t) (h2 : PGs X es u)
    (hs : (assignEach (e :: es) X.env).map (·.2) = assign e X.env :: (assignEach es X.env).map (·.2) := by rfl) : PGs X (e :: es) (gCons t u) := by
  intro pins s σ H vs us Q I r h
  obtain ⟨v, vr, e1, h⟩ := h
  subst e1
  cases r with
  | cons r rr =>
    rw [hs]
    refine assignInOrder_cons (thn (h1 pins s σ H _ _ _ I r h) fun _ s1 ⟨σ1, H1, I1, q1⟩ => ?_)
    exact h2 pins s1 σ1 H1 _ _ Q I1 rr q1
def gTup (K : PySem.W.Frag) (n : Nat) (t : TGs) : TG := fun v σ H Q => ∃ a xs, v = .ref a ∧ SqT K H a xs ∧ xs.length = n ∧ t xs σ H Q
theorem pg_tup {es : List Expr} {k : Nat} {t : TGs} {n : Nat} (hc : X.calm = true) (h : PGs X es t)
    (hn : (assignEach es X.env).length = n := by rfl) (hst : (assignEach es X.env).findIdx? (·.1) = none := by rfl) : PG X (.Tuple es k pos) (gTup X.K n t) := by
  intro pins s σ H v u Q I r hw
  obtain ⟨a, xs, e1, hq, hl, hw⟩ := hw
  subst e1
  cases r
  obtain ⟨its, rv, ht, hz⟩ := I.tuple hq
  refine assign_Tuple_tuple (I.ok.hd hc) ht (by simp [hn, ← hl, rv.length]) hst fun h' hx => ?_
  have I1 : Inv X pins σ H { s with heap := h' } := I.kept (t' := s.toks) fun b o e => hx b o (Nat.ne_of_lt (Heap.lt_size e)) e
  exact h pins _ σ H xs _ Q I1 (by simpa using rv) hw
def gSub (to ti : TE) (t : TSet) : TG := fun v σ H Q => to σ H fun o H1 => ti σ H1 fun i H2 => t o i v H2 fun H3 => Q σ H3
theorem pg_sub {o i : Expr} {to ti : TE} {t : TSet} (ho : PE X o to) (hi : PE X i ti) (hs : PSet X t)
    (ha : ∀ v, assign (.Subscript o i pos) X.env v = (do
      let ov ← holding [v] (eval o X.env)
      let iv ← holding [v, ov] (eval i X.env)
      standAt pos
      holding [v, ov, iv] (setItem ov iv v)
      release [v, ov, iv] []) := by intro _; rfl) : PG X (.Subscript o i pos) (gSub to ti t) := by
  intro pins s σ H v u Q I r h
  rw [ha]
  refine wpAny_bind (wpAny_holding (thn (ho pins s σ H _ I h) fun ov s1 ⟨x, H1, I1, r1, q1⟩ => ?_))
  refine wpAny_bind (wpAny_holding (thn (hi pins s1 σ H1 _ I1 q1) fun iv s2 ⟨y, H2, I2, r2, q2⟩ => ?_))
  refine wpAny_bind (wpAny_standAt (wpAny_bind (wpAny_holding (thn (hs pins s2 σ H2 x y v ov iv u _ I2 r1 r2 r q2) fun _ s3 ⟨H3, I3, q3⟩ => ?_))))
  exact wpAny_release ⟨σ, H3, I3, q3⟩
def tAsg (te : TE) (g : TG) : TS := fun D σ H => te σ H fun x H1 => g x σ H1 D.nx
theorem ps_asg {tg e : Expr} {te : TE} {g : TG} (he : PE X e te) (hg : PG X tg g) (hs : swapsWithSole [tg] e pos.line X.env = pure false := by rfl) (hw : swappedStores [tg] e X.env = pure none := by rfl)
    (h1 : (assignEach [tg] X.env).map (·.2) = [assign tg X.env] := by rfl) : PS X (.Assign [tg] e pos) (tAsg te g) := by
  intro pins s σ H D I h
  refine wpAny_Assign_stores (thn (he pins s σ H _ I h) fun v s1 ⟨x, H1, I1, r1, q1⟩ => ?_) hs hw
  rw [h1]
  exact thn (hg pins s1 σ H1 x v _ I1 r1 q1) fun _ s2 q => q
theorem ps_set {i : Nat} {x : Str} {e : Expr} {te : TE} {pos' : Pos} (hN : X.N.Nodup) (hi : X.N[i]? = some x) (hx : Loc X.env.scope x) (he : PE X e te) (hs : swapsWith e (some (.Name x pos')) pos.line X.env = pure false := by rfl) (hf : X.fn x = true ∨ X.env.scope.names.lookup x = some .local := by first | exact .inl rfl | exact .inr rfl | assumption) :
    PS X (.Assign [.Name x pos'] e pos) (tAsg te (gName i)) := by
  intro pins s σ H D I h
  refine wpAny_Assign_Name (thn (he pins s σ H _ I h) fun v s1 ⟨y, H1, I1, r1, q1⟩ => ?_) hs
  exact store_ok I1 hN hi hx r1 (fun s2 I2 => ⟨_, H1, I2, q1⟩) hf
def tPar (i j : Nat) (ta : TA) : TS := fun D σ H => ta σ H fun vs H1 => ∃ v w, vs = [v, w] ∧ D.nx ((σ.set i (some v)).set j (some w)) H1
def tAug (i : Nat) (te : TE) (ti : TIp) : TS := fun D σ H => ∃ x, σ[i]? = some (some x) ∧ te σ H fun y H1 => ti x y H1 fun z H2 => D.nx (σ.set i (some z)) H2
def tAugS (to ti te : TE) (tget : V → V → Hp → VK → Prop) (tip : TIp) (tset : TSet) : TS := fun D σ H => to σ H fun o H1 => ti σ H1 fun i H2 => tget o i H2 fun x H3 => te σ H3 fun y H4 => tip x y H4 fun z H5 => tset o i z H5 fun H6 => D.nx σ H6
def PGet (X : Cx) (t : V → V → Hp → VK → Prop) : Prop :=
  ∀ (pins : List (Addr × Obj)) (s : Shared) (σ : St) (H : Hp) (o i : V) (ov iv : Value) (Q : VK), Inv X pins σ H s → RelV o ov → RelV i iv → t o i H Q →
    wpAny (model X.prog X.w) X.A (getItem ov iv) (EP X pins σ Q) X.xe s
def ipI (f : Int → Int → Int) : TIp := fun x y H Q => ∃ i j, x = .int i ∧ y = .int j ∧ Q (.int (f i j)) H
end
section
variable {X : Cx} {pos : Pos}
def tWhile (c : TT) (tb : TS) : TS := fun D σ H => ∃ W : Nat → St → Hp → Prop, (∃ m, W m σ H) ∧ ∀ m σ H, W m σ H →
  c σ H fun b H1 => if b = true then ∃ N : St → Hp → Prop, (∀ σ' H', N σ' H' → ∃ m', m' < m ∧ W m' σ' H') ∧ tb { D with nx := N, ct := N, bk := D.nx } σ H1 else D.nx σ H1
end
structure It where
  go : Nat → Hp → Prop
  yld : Nat → Hp → V → Hp → Prop
  stop : Nat → Hp → Prop
def FpOk (X : Cx) (pins : List (Addr × Obj)) (H : Hp) (b : Addr) : Prop :=
  H b = none ∧ b ≠ X.env.locals ∧ b ∉ X.fs ∧ (b ∈ X.ex ∨ X.s₀.heap.objs.size ≤ b) ∧ (∀ x c, X.env.cells.lookup x = some c → c ≠ b) ∧ ∀ p ∈ X.pn ++ pins, p.1 ≠ b
theorem Inv.fpOk {X : Cx} {pins : List (Addr × Obj)} {σ : St} {H H' : Hp} {s : Shared} {b : Addr} (I : Inv X pins σ H s) (hb : s.heap.objs.size ≤ b) (hn : H' b = none) : FpOk X pins H' b := by
  refine ⟨hn, Nat.ne_of_gt (Nat.lt_of_lt_of_le I.lt hb), I.nofs hb, .inr (Nat.le_trans I.sz hb), fun x c e z => ?_, fun p hp z => ?_⟩
  · obtain ⟨v, q⟩ := I.cell x c e
    exact absurd (Nat.lt_of_lt_of_le q.lt (by rw [z]; exact hb)) (Nat.lt_irrefl _)
  · exact absurd (Nat.lt_of_lt_of_le (Heap.lt_size (I.pin p hp).1) (by rw [z]; exact hb)) (Nat.lt_irrefl _)
structure Turn (P : Program) (w : World) (K : PySem.W.Frag) (tg : Expr) (J : It) (fp : List Addr) (it : Addr) (tn : Nat → Heap → Prop) : Prop where
  mem : it ∈ fp
  obj : ∀ i h, tn i h → ∀ b ∈ fp, ∃ o, h.get? b = some o ∧ ∀ v, o.data ≠ .cell v
  keep : ∀ i h h', tn i h → (∀ b ∈ fp, ∀ o, h.get? b = some o → h'.get? b = some o) → tn i h'
  item : ∀ (X : Cx), X.prog = P → X.w = w → X.K = K → X.calm = true → ∀ (i : Nat) (pins : List (Addr × Obj)) (s : Shared) (σ : St) (H : Hp) (E : Value → Shared → Prop), Inv X pins σ H s → (∀ b ∈ fp, FpOk X pins H b) → tn i s.heap → J.go i H →
    wpAny (model P w) X.A (pyNext (.ref it)) (fun r s1 => ∃ u, r = some u ∧
      wpAny (model P w) X.A (letOwnedTupleGo tg (.ref it) u) (fun _ s2 => ∃ x H', Inv X pins σ H' s2 ∧ RelV x u ∧ J.yld i H x H' ∧ tn (i + 1) s2.heap ∧ ∀ b ∈ fp, H' b = none) E s1) E s
  done : ∀ (X : Cx), X.prog = P → X.w = w → X.K = K → X.calm = true → ∀ (i : Nat) (pins : List (Addr × Obj)) (s : Shared) (σ : St) (H : Hp) (E : Value → Shared → Prop), Inv X pins σ H s → (∀ b ∈ fp, FpOk X pins H b) → tn i s.heap → J.stop i H →
    wpAny (model P w) X.A (pyNext (.ref it)) (fun r s1 => r = none ∧ Inv X pins σ H s1) E s
  self : ∀ (A : Around) (i : Nat) (s : Shared) (Q : Value → Shared → Prop) (E : Value → Shared → Prop), tn i s.heap → Q (.ref it) s → wpAny (model P w) A (pyIter (.ref it)) Q E s
abbrev TI := St → Hp → (It → Hp → Prop) → Prop
def PIE (X : Cx) (pins : List (Addr × Obj)) (σ : St) (tg : Expr) (R : It → Hp → Prop) (itv : Value) (s2 : Shared) : Prop :=
  ∃ (it : Addr) (fp : List Addr) (tn : Nat → Heap → Prop) (J : It) (H' : Hp), itv = .ref it ∧ Inv X pins σ H' s2 ∧ Turn X.prog X.w X.K tg J fp it tn ∧ tn 0 s2.heap ∧ (∀ b ∈ fp, FpOk X pins H' b) ∧ R J H'
def PI (X : Cx) (tg iter : Expr) (wi : TI) : Prop :=
  ∀ (pins : List (Addr × Obj)) (s : Shared) (σ : St) (H : Hp) (R : It → Hp → Prop), Inv X pins σ H s → wi σ H R →
    wpAny (model X.prog X.w) X.A (eval iter X.env) (fun v s1 => wpAny (model X.prog X.w) X.A (pyIter v) (PIE X pins σ tg R) X.xe s1) X.xe s
theorem go_of {M : Model} {A : Around} {E : Value → Shared → Prop} {s : Shared} {tg : Expr} {it : Addr} {u : Value} {o : Obj} {n : String} {vs : Array Value} {Q : Unit → Shared → Prop} (ho : s.heap.get? it = some o) (hc : o.cls = .type n) (hd : o.data = .fields vs)
    (hn : ["enumerate", "zip", "dict_itemiterator", "dict_reverseitemiterator", "odict_iterator", "itertools.zip_longest", "itertools.pairwise"].contains n = false) (hQ : Q () s) : wpAny M A (letOwnedTupleGo tg (.ref it) u) Q E s := by
  unfold letOwnedTupleGo
  cases tg <;> first
    | exact wpAny_pure hQ
    | (cases u <;> first
        | exact wpAny_pure hQ
        | (refine wpAny_bind (wpAny_load ho ?_)
           rw [hc, hd]
           show wpAny M A (if (["enumerate", "zip", "dict_itemiterator", "dict_reverseitemiterator", "odict_iterator", "itertools.zip_longest", "itertools.pairwise"].contains n && vs[0]? == some (rawInt _)) = true then _ else _) Q E s
           rw [if_neg (by intro h; rw [hn, Bool.false_and] at h; cases h)]
           exact wpAny_pure hQ))
def Itl (K : PySem.W.Frag) (a : Addr) : It :=
  ⟨fun i H => ∃ xs x, SqL K H a xs ∧ xs[i]? = some x, fun i H x H' => H' = H ∧ ∀ xs, SqL K H a xs → xs[i]? = some x, fun i H => ∃ xs, SqL K H a xs ∧ xs.length ≤ i⟩
def Itt (K : PySem.W.Frag) (a : Addr) : It :=
  ⟨fun i H => ∃ xs x, SqT K H a xs ∧ xs[i]? = some x, fun i H x H' => H' = H ∧ ∀ xs, SqT K H a xs → xs[i]? = some x, fun i H => ∃ xs, SqT K H a xs ∧ xs.length ≤ i⟩
def Itr (lo : Int) (n : Nat) : It := ⟨fun i _ => i < n, fun i H x H' => H' = H ∧ x = .int (lo + i), fun i _ => n ≤ i⟩
theorem turn_list {P : Program} {w : World} {K : PySem.W.Frag} {tg : Expr} (a it : Addr) : Turn P w K tg (Itl K a) [it] it (fun i h => h.IsListIter it a i) where
  mem := by simp
  obj := fun i h st b hb => by
    have e : b = it := by simpa using hb
    subst e
    obtain ⟨o, e, c, d⟩ := st
    exact ⟨o, e, fun v z => by rw [d] at z; cases z⟩
  keep := fun i h h' st k => st.at fun o e => k it (by simp) o e
  item := by
    intro X hP hw hK hc i pins s σ H E I hf st hg
    subst hP hw hK
    obtain ⟨xs, x, hq, hx⟩ := hg
    obtain ⟨its, rv, p, hz⟩ := I.list hq
    obtain ⟨u, hu, ru⟩ := rv.get hx
    obtain ⟨f0, f1, f2, f3, f4, f5⟩ := hf it (by simp)
    refine wpAny_pyNext_list_item st p.isList (x := u) (by simpa using hu) fun h' st' sb => ?_
    have I1 : Inv X pins σ H { s with heap := h' } := I.turned (t' := s.toks) (fun b o hb e => (sb.2 b hb).trans e) f0 f1 f3 f4 f5
    obtain ⟨o, e, c, d⟩ := id st'
    exact ⟨u, rfl, go_of (s := { s with heap := h' }) e c d (by decide) ⟨x, H, I1, ru, ⟨rfl, fun ys hy => by rw [I.list_inj hy hq]; exact hx⟩, st', fun b hb => (hf b hb).1⟩⟩
  done := by
    intro X hP hw hK hc i pins s σ H E I hf st hg
    subst hP hw hK
    obtain ⟨xs, hq, hx⟩ := hg
    obtain ⟨its, rv, p, hz⟩ := I.list hq
    obtain ⟨f0, f1, f2, f3, f4, f5⟩ := hf it (by simp)
    have hl := rv.length
    exact wpAny_pyNext_list_end (I.ok.hd hc) st p.isList (by simp; omega) fun h' eb => ⟨rfl, I.turned (t' := s.toks) (fun b o hb e => eb b o hb e) f0 f1 f3 f4 f5⟩
  self := fun _ _ _ _ _ st h => wpAny_pyIter_listiter st h
theorem turn_range {P : Program} {w : World} {K : PySem.W.Frag} {tg : Expr} (it : Addr) (lo : Int) (n : Nat) : Turn P w K tg (Itr lo n) [it] it (fun i h => IsRangeIter h it (lo + (i : Nat) * 1) ((n : Int) - (i : Nat)) 1) where
  mem := by simp
  obj := fun i h st b hb => by
    have e : b = it := by simpa using hb
    subst e
    exact ⟨_, st, fun v z => by
      have z' : Data.fields _ = Data.cell v := z
      cases z'⟩
  keep := fun i h h' st k => k it (by simp) _ st
  item := by
    intro X hP hw hK hc i pins s σ H E I hf st hg
    subst hP hw hK
    obtain ⟨f0, f1, f2, f3, f4, f5⟩ := hf it (by simp)
    have W := Walks.range (prog := X.prog) (w := X.w) (I.ok.hd hc) it lo 1 n
    refine W.item i s _ _ hg st fun v h' tk hv st' kk => ?_
    obtain ⟨t, rfl⟩ := hv
    have I1 : Inv X pins σ H { s with heap := h', toks := tk } := I.turned (fun b o hb e => kk b o (by simpa using hb) e) f0 f1 f3 f4 f5
    refine ⟨_, rfl, go_of (s := { s with heap := h', toks := tk }) (n := "range_iterator") st' rfl rfl (by decide) ⟨.int (lo + i), H, I1, ⟨t, ?_⟩, ⟨rfl, rfl⟩, st', fun b hb => (hf b hb).1⟩⟩
    rw [Int.mul_one]
  done := by
    intro X hP hw hK hc i pins s σ H E I hf st hg
    subst hP hw hK
    obtain ⟨f0, f1, f2, f3, f4, f5⟩ := hf it (by simp)
    exact wpAny_pyNext_range_end (I.ok.hd hc) st (by have : n ≤ i := hg; omega) fun h' eb => ⟨rfl, I.turned (t' := s.toks) (fun b o hb e => eb b o hb e) f0 f1 f3 f4 f5⟩
  self := fun _ _ _ _ _ st h => wpAny_pyIter_rangeiter st h
open PySem PySem.Spec PyProof.Rows
section
variable {X : Cx} {tg : Expr}
def iList (K : PySem.W.Frag) (tl : TE) : TI := fun σ H R => tl σ H fun x H1 => ∃ a, x = .ref a ∧ (∃ xs, SqL K H1 a xs) ∧ R (Itl K a) H1
def iTup (K : PySem.W.Frag) (tl : TE) : TI := fun σ H R => tl σ H fun x H1 => ∃ a, x = .ref a ∧ (∃ xs, SqT K H1 a xs) ∧ R (Itt K a) H1
theorem pi_list {l : Expr} {tl : TE} (hl : PE X l tl) : PI X tg l (iList X.K tl) := by
  intro pins s σ H R I h
  refine thn (hl pins s σ H _ I h) fun v s1 ⟨x, H1, I1, r1, q1⟩ => ?_
  obtain ⟨a, e, ⟨xs, hq⟩, q⟩ := q1
  subst e
  cases r1
  obtain ⟨its, rv, p, hz⟩ := I1.list hq
  refine wpAny_pyIter_list p.isList ?_
  refine ⟨s1.heap.objs.size, [s1.heap.objs.size], _, _, H1, rfl, I1.kept (t' := s1.toks) fun b o e => Heap.get?_push_of_some _ e, turn_list a _, ⟨_, Heap.get?_push_size _ rfl, rfl, rfl⟩, fun b hb => ?_, q⟩
  have e : b = s1.heap.objs.size := by simpa using hb
  subst e
  exact I1.fpOk (Nat.le_refl _) (I1.hok.fresh (Nat.le_refl _))
theorem range_it {pins : List (Addr × Obj)} {σ : St} {H : Hp} {s : Shared} {R : It → Hp → Prop} {E : Value → Shared → Prop} {lo hi : Int} {t u v : Tok} {tk : Nat} (I : Inv X pins σ H s) (h1 : -(2 ^ 62) ≤ lo) (h2 : lo < 2 ^ 62) (h3 : -(2 ^ 62) ≤ hi) (h4 : hi < 2 ^ 62)
    (q : R (Itr lo (hi - lo).toNat) H) : wpAny (model X.prog X.w) X.A (pyIter (.ref s.heap.objs.size)) (PIE X pins σ tg R) E { s with heap := s.heap.push { cls := .type "range", data := .fields #[.int lo t, .int hi u, .int 1 v] }, toks := tk } := by
  refine wpAny_pyIter_range (IsRange.new ..) (small_one h1 h2 h3 h4) ?_
  have I1 : Inv X pins σ H { s with heap := s.heap.push { cls := .type "range", data := .fields #[.int lo t, .int hi u, .int 1 v] }, toks := tk } := I.kept fun b o e => Heap.get?_push_of_some _ e
  refine ⟨(s.heap.push { cls := .type "range", data := .fields #[.int lo t, .int hi u, .int 1 v] }).objs.size, [(s.heap.push { cls := .type "range", data := .fields #[.int lo t, .int hi u, .int 1 v] }).objs.size], _, _, H, rfl,
    I1.kept (t' := tk) fun b o e => Heap.get?_push_of_some _ e, turn_range _ lo (hi - lo).toNat, ?_, fun b hb => ?_, q⟩
  · have e1 : lo + ((0 : Nat) : Int) * 1 = lo := by simp
    have e2 : (((hi - lo).toNat : Nat) : Int) - ((0 : Nat) : Int) = Builtin.Range.rangeSize lo hi 1 := by rw [rangeSize_one]; split <;> omega
    show IsRangeIter _ _ (lo + ((0 : Nat) : Int) * 1) ((((hi - lo).toNat : Nat) : Int) - ((0 : Nat) : Int)) 1
    rw [e1, e2]
    exact Heap.get?_push_size _ rfl
  · have e : b = (s.heap.push { cls := .type "range", data := .fields #[.int lo t, .int hi u, .int 1 v] }).objs.size := by simpa using hb
    subst e
    exact I1.fpOk (Nat.le_refl _) (I1.hok.fresh (Nat.le_refl _))
def iRng1 (ta : TA) : TI := fun σ H R => ta σ H fun vs H1 => ∃ j : Int, vs = [.int j] ∧ -(2 ^ 62) ≤ j ∧ j < 2 ^ 62 ∧ R (Itr 0 j.toNat) H1
def iRng2 (ta : TA) : TI := fun σ H R => ta σ H fun vs H1 => ∃ i j : Int, vs = [.int i, .int j] ∧ (-(2 ^ 62) ≤ i ∧ i < 2 ^ 62 ∧ -(2 ^ 62) ≤ j ∧ j < 2 ^ 62) ∧ R (Itr i (j - i).toNat) H1
theorem pi_range1 {a : Expr} {ta : TA} {p pos : Pos} (hg : Gl X "range") (hm : X.mg "range" = none) (ha : PA X [a] ta) (hs : starEach [a] X.env = [(false, eval a X.env)] := by rfl) : PI X tg (.Call (.Name "range" p) [a] [] pos) (iRng1 ta) := by
  intro pins s σ H R I h
  refine Call_ (ld_blt I hg hm boot_range (PyProof.Rows.callWith_type1 (thn (ha pos pins s σ H _ I h) fun us s1 ⟨vs, H1, I1, r1, q1⟩ => ?_) hs rfl))
  obtain ⟨j, e, q1, q2, q⟩ := q1
  subst e
  cases r1 with
  | cons r rr =>
    cases rr
    obtain ⟨t, rfl⟩ := r
    exact call_range_1 (range_it I1 (by omega) (by omega) q1 q2 (by simpa using q))
theorem pi_range2 {a b : Expr} {ta : TA} {p pos : Pos} (hg : Gl X "range") (hm : X.mg "range" = none) (ha : PA X [a, b] ta) (hs : starEach [a, b] X.env = [(false, eval a X.env), (false, eval b X.env)] := by rfl) (hs2 : starEach [b] X.env = [(false, eval b X.env)] := by rfl) :
    PI X tg (.Call (.Name "range" p) [a, b] [] pos) (iRng2 ta) := by
  intro pins s σ H R I h
  refine Call_ (ld_blt I hg hm boot_range (PyProof.Rows.callWith_type1 (thn (ha pos pins s σ H _ I h) fun us s1 ⟨vs, H1, I1, r1, q1⟩ => ?_) (by rw [hs, hs2]) (by rw [hs2]; rfl)))
  obtain ⟨i, j, e, ⟨q1, q2, q3, q4⟩, q⟩ := q1
  subst e
  cases r1 with
  | cons r rr =>
    cases rr with
    | cons r' rr =>
      cases rr
      obtain ⟨t, rfl⟩ := r
      obtain ⟨t', rfl⟩ := r'
      exact call_range_2 (range_it I1 q1 q2 q3 q4 q)
def tFor (wi : TI) (g : TG) (tb : TS) : TS := fun D σ H => wi σ H fun J H1 => ∃ W : Nat → Nat → St → Hp → Prop, (∃ m, W 0 m σ H1) ∧ ∀ i m σ H, W i m σ H →
  (J.stop i H ∧ D.nx σ H) ∨ (J.go i H ∧ ∃ N : St → Hp → Prop, (∀ σ' H', N σ' H' → ∃ m', m' < m ∧ W (i + 1) m' σ' H') ∧ ∀ x H', J.yld i H x H' → g x σ H' fun σ2 H2 => tb { D with nx := N, ct := N, bk := D.nx } σ2 H2)
def pinsAt (fp : List Addr) (h : Heap) : List (Addr × Obj) := fp.filterMap fun b => (h.get? b).map fun o => (b, o)
theorem mem_pinsAt {fp : List Addr} {h : Heap} {b : Addr} {o : Obj} (hb : b ∈ fp) (e : h.get? b = some o) : (b, o) ∈ pinsAt fp h := List.mem_filterMap.mpr ⟨b, hb, by rw [e]; rfl⟩
theorem of_pinsAt {fp : List Addr} {h : Heap} {p : Addr × Obj} (hp : p ∈ pinsAt fp h) : p.1 ∈ fp ∧ h.get? p.1 = some p.2 := by
  obtain ⟨b, hb, e⟩ := List.mem_filterMap.mp hp
  cases q : h.get? b with
  | none => rw [q] at e; cases e
  | some o =>
    rw [q] at e
    have e' : (b, o) = p := Option.some.inj e
    subst e'
    exact ⟨hb, q⟩
theorem Inv.pinned {pins : List (Addr × Obj)} {σ : St} {H : Hp} {s : Shared} {fp : List Addr} (I : Inv X pins σ H s) (hf : ∀ b ∈ fp, FpOk X pins H b) (ho : ∀ b ∈ fp, ∃ o, s.heap.get? b = some o ∧ ∀ v, o.data ≠ .cell v) : Inv X (pins ++ pinsAt fp s.heap) σ H s :=
  I.pins_of fun p hp => (List.mem_append.mp hp).elim (fun z => I.pin p (List.mem_append_right _ z)) fun z => by
    obtain ⟨hb, e⟩ := of_pinsAt z
    obtain ⟨f0, f1, f2, _⟩ := hf p.1 hb
    obtain ⟨o, e', d⟩ := ho p.1 hb
    rw [e] at e'; cases e'
    exact ⟨e, f0, f1, f2, d⟩
theorem Inv.unpinned {pins pl : List (Addr × Obj)} {σ : St} {H : Hp} {s : Shared} (I : Inv X (pins ++ pl) σ H s) : Inv X pins σ H s := I.pins_of fun p hp => I.pin p (List.mem_append_right _ (List.mem_append_left _ hp))
theorem ps_for {iter : Expr} {body : List Stmt} {wi : TI} {g : TG} {tb : TS} {pos : Pos} (hp : PassesOwn (model X.prog X.w) X.A X.env X.xe) (hc : X.calm = true) (hi : PI X tg iter wi) (hg : PG X tg g) (hb : PSs X body tb)
    (hs : ∀ x, foldedSetIterable iter X.env x = pure x := by intro _; rfl) : PS X (.For tg iter body [] pos) (tFor wi g tb) := by
  intro pins s σ H D I h
  refine wpAny_For (thn (hi pins s σ H _ I h) fun v s1 h1 => thn h1 fun itv s2 h2 => ?_) hs
  obtain ⟨it, fp, tn, J, H2, e, I2, T, st2, f2, W, ⟨m0, w0⟩, turn⟩ := h2
  subst e
  have stat : ∀ {H' : Hp}, (∀ b ∈ fp, H' b = none) → ∀ b ∈ fp, FpOk X pins H' b := fun hn b hb => ⟨hn b hb, (f2 b hb).2⟩
  refine codeAny_forLoop_any (fun n s' => ∃ i σ' H', Inv X pins σ' H' s' ∧ tn i s'.heap ∧ (∀ b ∈ fp, H' b = none) ∧ W i n σ' H') ?_ m0 ⟨0, σ, H2, I2, st2, fun b hb => (f2 b hb).1, w0⟩
  rintro n s3 ⟨i, σ3, H3, I3, st3, fr3, w3⟩
  rcases turn i n σ3 H3 w3 with ⟨stop, qn⟩ | ⟨go, N, hN, step⟩
  · refine wpAny_passesOwn hp (thn (T.done X rfl rfl rfl hc i pins s3 σ3 H3 X.xe I3 (stat fr3) st3 stop) fun r s4 ⟨hr, I4⟩ => ?_)
    subst hr
    exact wpAny_execs_nil ⟨σ3, H3, I4, qn⟩
  · refine wpAny_passesOwn hp (thn (T.item X rfl rfl rfl hc i pins s3 σ3 H3 X.xe I3 (stat fr3) st3 go) fun r s4 ⟨u, hr, h4⟩ => ?_)
    subst hr
    refine wpAny_passesOwn hp (thn h4 fun _ s5 ⟨x, H5, I5, r5, y5, st5, fr5⟩ => ?_)
    have I5' := I5.pinned (stat fr5) (T.obj _ _ st5)
    refine wpAny_passesOwn hp (thn (hg _ s5 σ3 H5 x u _ I5' r5 (step x H5 y5)) fun _ s6 ⟨σ6, H6, I6, q6⟩ => ?_)
    refine wpAny_passesOwn hp (thn (hb _ s6 σ6 H6 _ I6 q6) fun f s7 q7 => ?_)
    have again : ∀ {σ7 : St} {H7 : Hp}, Inv X (pins ++ pinsAt fp s5.heap) σ7 H7 s7 → N σ7 H7 → ∃ m, m < n ∧ ∃ i σ' H', Inv X pins σ' H' s7 ∧ tn i s7.heap ∧ (∀ b ∈ fp, H' b = none) ∧ W i m σ' H' := fun {σ7 H7} I7 n7 => by
      obtain ⟨m', hm, w7⟩ := hN σ7 H7 n7
      refine ⟨m', hm, i + 1, σ7, H7, I7.unpinned, T.keep _ _ _ st5 fun b hb o e => (I7.pin (b, o) (List.mem_append_right _ (List.mem_append_right _ (mem_pinsAt hb e)))).1, fun b hb => ?_, w7⟩
      obtain ⟨o, e, d⟩ := T.obj _ _ st5 b hb
      exact (I7.pin (b, o) (List.mem_append_right _ (List.mem_append_right _ (mem_pinsAt hb e)))).2.1
    cases f with
    | next => obtain ⟨σ7, H7, I7, n7⟩ := q7; exact again I7 n7
    | cont => obtain ⟨σ7, H7, I7, n7⟩ := q7; exact again I7 n7
    | brk => obtain ⟨σ7, H7, I7, q7⟩ := q7; exact ⟨σ7, H7, I7.unpinned, q7⟩
    | ret v => obtain ⟨x7, σ7, H7, I7, r7, q7⟩ := q7; exact ⟨x7, σ7, H7, I7.unpinned, r7, q7⟩
end
theorem for_list {K : PySem.W.Frag} {a : Addr} {xs : List V} {g : TG} {tb : TS} {D : Ends} {σ : St} {H : Hp} (Pv : Nat → St → Hp → Prop) (h0 : Pv 0 σ H) (hl : ∀ i σ H, i ≤ xs.length → Pv i σ H → SqL K H a xs)
    (hs : ∀ i x σ H, xs[i]? = some x → Pv i σ H → g x σ H fun σ2 H2 => tb { D with nx := Pv (i + 1), ct := Pv (i + 1), bk := D.nx } σ2 H2) (hd : ∀ σ H, Pv xs.length σ H → D.nx σ H) :
    ∃ W : Nat → Nat → St → Hp → Prop, (∃ m, W 0 m σ H) ∧ ∀ i m σ H, W i m σ H →
      ((Itl K a).stop i H ∧ D.nx σ H) ∨ ((Itl K a).go i H ∧ ∃ N : St → Hp → Prop, (∀ σ' H', N σ' H' → ∃ m', m' < m ∧ W (i + 1) m' σ' H') ∧ ∀ x H', (Itl K a).yld i H x H' → g x σ H' fun σ2 H2 => tb { D with nx := N, ct := N, bk := D.nx } σ2 H2) := by
  refine ⟨fun i m σ H => m = xs.length - i ∧ i ≤ xs.length ∧ Pv i σ H, ⟨xs.length, by simp, Nat.zero_le _, h0⟩, ?_⟩
  rintro i m σ H ⟨rfl, hi, p⟩
  have q := hl i σ H hi p
  by_cases hlt : i < xs.length
  · refine .inr ⟨⟨xs, xs[i], q, by simp [hlt]⟩, Pv (i + 1), fun σ' H' p' => ⟨xs.length - (i + 1), by omega, rfl, hlt, p'⟩, fun x H' y => ?_⟩
    obtain ⟨e, y⟩ := y
    subst e
    exact hs i x σ _ (y xs q) p
  · have e : i = xs.length := by omega
    subst e
    exact .inl ⟨⟨xs, q, Nat.le_refl _⟩, hd σ H p⟩
theorem for_range {lo : Int} {n : Nat} {g : TG} {tb : TS} {D : Ends} {σ : St} {H : Hp} (Pv : Nat → St → Hp → Prop) (h0 : Pv 0 σ H)
    (hs : ∀ i σ H, i < n → Pv i σ H → g (.int (lo + i)) σ H fun σ2 H2 => tb { D with nx := Pv (i + 1), ct := Pv (i + 1), bk := D.nx } σ2 H2) (hd : ∀ σ H, Pv n σ H → D.nx σ H) :
    ∃ W : Nat → Nat → St → Hp → Prop, (∃ m, W 0 m σ H) ∧ ∀ i m σ H, W i m σ H →
      ((Itr lo n).stop i H ∧ D.nx σ H) ∨ ((Itr lo n).go i H ∧ ∃ N : St → Hp → Prop, (∀ σ' H', N σ' H' → ∃ m', m' < m ∧ W (i + 1) m' σ' H') ∧ ∀ x H', (Itr lo n).yld i H x H' → g x σ H' fun σ2 H2 => tb { D with nx := N, ct := N, bk := D.nx } σ2 H2) := by
  refine ⟨fun i m σ H => m = n - i ∧ i ≤ n ∧ Pv i σ H, ⟨n, by simp, Nat.zero_le _, h0⟩, ?_⟩
  rintro i m σ H ⟨rfl, hi, p⟩
  by_cases hlt : i < n
  · refine .inr ⟨hlt, Pv (i + 1), fun σ' H' p' => ⟨n - (i + 1), by omega, rfl, hlt, p'⟩, fun x H' y => ?_⟩
    obtain ⟨e, y⟩ := y
    subst e y
    exact hs i σ _ hlt p
  · have e : i = n := by omega
    subst e
    exact .inl ⟨Nat.le_refl _, hd σ H p⟩
open PySem PySem.Spec PyProof.Rows
abbrev R2 := V → V → Hp → VK → Prop
def OpR (X : Cx) (f : Value → Value → Sem Value) (r : R2) : Prop :=
  ∀ (pins : List (Addr × Obj)) (s : Shared) (σ : St) (H : Hp) (x y : V) (v u : Value) (Q : VK), Inv X pins σ H s → RelV x v → RelV y u → r x y H Q →
    wpAny (model X.prog X.w) X.A (f v u) (EP X pins σ Q) X.xe s
def UnR (X : Cx) (f : Value → Sem Value) (r : V → Hp → VK → Prop) : Prop :=
  ∀ (pins : List (Addr × Obj)) (s : Shared) (σ : St) (H : Hp) (x : V) (v : Value) (Q : VK), Inv X pins σ H s → RelV x v → r x H Q →
    wpAny (model X.prog X.w) X.A (f v) (EP X pins σ Q) X.xe s
def CallR (X : Cx) (f : Value) (r : List V → Hp → VK → Prop) : Prop :=
  ∀ (pins : List (Addr × Obj)) (s : Shared) (σ : St) (H : Hp) (xs : List V) (us : List Value) (Q : VK), Inv X pins σ H s → Vals xs us → r xs H Q →
    wpAny (model X.prog X.w) X.A (call f us) (EP X pins σ Q) X.xe s
def TruR (X : Cx) (r : V → Hp → (Bool → Hp → Prop) → Prop) : Prop :=
  ∀ (pins : List (Addr × Obj)) (s : Shared) (σ : St) (H : Hp) (x : V) (v : Value) (Q : Bool → Hp → Prop), Inv X pins σ H s → RelV x v → r x H Q →
    wpAny (model X.prog X.w) X.A (truthy v) (TP X pins σ Q) X.xe s
def tOp (r : R2) (ta tb : TE) : TE := fun σ H Q => ta σ H fun x H1 => tb σ H1 fun y H2 => r x y H2 Q
def tUn (r : V → Hp → VK → Prop) (ta : TE) : TE := fun σ H Q => ta σ H fun x H1 => r x H1 Q
def rI (C : Int → Int → Prop) (g : Int → Int → V) : R2 := fun x y H Q => ∃ i j, x = .int i ∧ y = .int j ∧ C i j ∧ Q (g i j) H
def rI0 (g : Int → Int → V) : R2 := fun x y H Q => ∃ i j, x = .int i ∧ y = .int j ∧ Q (g i j) H
def rU (g : Int → V) : V → Hp → VK → Prop := fun x H Q => ∃ i, x = .int i ∧ Q (g i) H
section
variable {X : Cx} {a b c : Expr} {ta tb tc : TE} {pos : Pos}
theorem binT (ha : PE X a ta) (hb : PE X b tb) {pins : List (Addr × Obj)} {s : Shared} {σ : St} {H : Hp} {R : V → V → Hp → Prop} (I : Inv X pins σ H s)
    (h : ta σ H fun x H1 => tb σ H1 fun y H2 => R x y H2) {Q : Value → Shared → Prop} {f : Value → Value → Sem Value}
    (hf : ∀ v u s2 x y H2, Inv X pins σ H2 s2 → RelV x v → RelV y u → R x y H2 → wpAny (model X.prog X.w) X.A (f v u) Q X.xe s2) :
    wpAny (model X.prog X.w) X.A (eval a X.env) (fun v s₁ => wpAny (model X.prog X.w) X.A (eval b X.env) (fun u s₂ => wpAny (model X.prog X.w) X.A (f v u) Q X.xe s₂) X.xe s₁) X.xe s := by
  refine thn (ha pins s σ H _ I h) fun v s1 ⟨x, H1, I1, r1, q1⟩ => ?_
  refine thn (hb pins s1 σ H1 _ I1 q1) fun u s2 ⟨y, H2, I2, r2, q2⟩ => ?_
  exact hf v u s2 x y H2 I2 r1 r2 q2
theorem pe_op {op : Operator} {r : R2} (ho : OpR X (binaryOp op) r) (ha : PE X a ta) (hb : PE X b tb) : PE X (.BinOp a op b pos) (tOp r ta tb) := by
  intro pins s σ H Q I h
  exact wpAny_BinOp (binT ha hb I h fun v u s2 x y H2 I2 rx ry q => ho pins s2 σ H2 x y v u Q I2 rx ry q)
theorem pe_un {op : UnaryOp} {r : V → Hp → VK → Prop} (ho : UnR X (unaryOp op) r) (ha : PE X a ta) : PE X (.UnaryOp op a pos) (tUn r ta) := by
  intro pins s σ H Q I h
  exact UnaryOp_ (thn (ha pins s σ H _ I h) fun v s1 ⟨x, H1, I1, r1, q1⟩ => ho pins s1 σ H1 x v Q I1 r1 q1)
theorem opI {f : Value → Value → Sem Value} {C : Int → Int → Prop} {g : Int → Int → Int}
    (rule : ∀ (i j : Int) (t u : Tok) (s : Shared) (Q : Value → Shared → Prop) (E : Value → Shared → Prop), C i j → Q (.int (g i j) s.toks) { s with toks := s.toks + 1 } → wpAny (model X.prog X.w) X.A (f (.int i t) (.int j u)) Q E s) :
    OpR X f (rI C fun i j => .int (g i j)) := by
  intro pins s σ H x y v u Q I rx ry h
  obtain ⟨i, j, rfl, rfl, hc, q⟩ := h
  obtain ⟨t, rfl⟩ := rx
  obtain ⟨t', rfl⟩ := ry
  exact rule i j t t' s _ _ hc ⟨.int (g i j), H, I.tok _, ⟨_, rfl⟩, q⟩
theorem opI0 {f : Value → Value → Sem Value} {g : Int → Int → Int}
    (rule : ∀ (i j : Int) (t u : Tok) (s : Shared) (Q : Value → Shared → Prop) (E : Value → Shared → Prop), Q (.int (g i j) s.toks) { s with toks := s.toks + 1 } → wpAny (model X.prog X.w) X.A (f (.int i t) (.int j u)) Q E s) :
    OpR X f (rI0 fun i j => .int (g i j)) := by
  intro pins s σ H x y v u Q I rx ry h
  obtain ⟨i, j, rfl, rfl, q⟩ := h
  obtain ⟨t, rfl⟩ := rx
  obtain ⟨t', rfl⟩ := ry
  exact rule i j t t' s _ _ ⟨.int (g i j), H, I.tok _, ⟨_, rfl⟩, q⟩
theorem opB0 {f : Value → Value → Sem Value} {g : Int → Int → Bool}
    (rule : ∀ (i j : Int) (t u : Tok) (s : Shared) (Q : Value → Shared → Prop) (E : Value → Shared → Prop), Q (.bool (g i j)) s → wpAny (model X.prog X.w) X.A (f (.int i t) (.int j u)) Q E s) :
    OpR X f (rI0 fun i j => .bl (g i j)) := by
  intro pins s σ H x y v u Q I rx ry h
  obtain ⟨i, j, rfl, rfl, q⟩ := h
  obtain ⟨t, rfl⟩ := rx
  obtain ⟨t', rfl⟩ := ry
  exact rule i j t t' s _ _ ⟨.bl (g i j), H, I, rfl, q⟩
def CDiv (i j : Int) : Prop := 0 < j ∧ j < 1073741824
def CDivN (i j : Int) : Prop := j ≠ 0 ∧ j.natAbs < 1073741824
def CPow (i j : Int) : Prop := 0 ≤ j ∧ j ≤ 1000000 ∧ i.natAbs < 2 ^ 64
def CMul (i j : Int) : Prop := (-(2 ^ 64) < i ∧ i < 2 ^ 64) ∨ (-(2 ^ 64) < j ∧ j < 2 ^ 64)
theorem CMul.ok {i j : Int} (h : CMul i j) : IntMulOk i j := by
  rcases h with ⟨h1, h2⟩ | ⟨h1, h2⟩
  · exact .of_left (intBits_le_64 h1 h2)
  · exact .of_right (intBits_le_64 h1 h2)
theorem op_add : OpR X (binaryOp .Add) (rI0 fun i j => .int (i + j)) := opI0 fun _ _ _ _ _ _ _ q => add_int q
theorem op_sub : OpR X (binaryOp .Sub) (rI0 fun i j => .int (i - j)) := opI0 fun _ _ _ _ _ _ _ q => sub_int q
theorem op_mul : OpR X (binaryOp .Mult) (rI CMul fun i j => .int (i * j)) := opI fun _ _ _ _ _ _ _ hc q => mul_int q hc.ok
theorem op_fdiv : OpR X (binaryOp .FloorDiv) (rI CDiv fun i j => .int (i / j)) := opI fun i j _ _ _ _ _ hc q => by
  have h1 : (0 : Int) < j := hc.1
  have h2 : j < 1073741824 := hc.2
  exact floordiv_int (by omega) (by rw [Int.fdiv_eq_ediv_of_nonneg i (by omega)]; exact q) (.inl (PyProof.noPylong_small (by omega)))
theorem op_mod : OpR X (binaryOp .Mod) (rI (fun _ j => 0 < j) fun i j => .int (i % j)) := opI fun i j _ _ _ _ _ hc q => by
  have h1 : (0 : Int) < j := hc
  exact mod_int' (by omega) (by rw [Int.fmod_eq_emod_of_nonneg i (by omega)]; exact q)
theorem op_pow : OpR X (binaryOp .Pow) (rI CPow fun i j => .int (i ^ j.toNat)) := opI fun _ _ _ _ _ _ _ hc q => pow_int_small hc.1 hc.2.1 hc.2.2 q
theorem unI {f : Value → Sem Value} {g : Int → Int}
    (rule : ∀ (i : Int) (t : Tok) (s : Shared) (Q : Value → Shared → Prop) (E : Value → Shared → Prop), Q (.int (g i) s.toks) { s with toks := s.toks + 1 } → wpAny (model X.prog X.w) X.A (f (.int i t)) Q E s) :
    UnR X f (rU fun i => .int (g i)) := by
  intro pins s σ H x v Q I rx h
  obtain ⟨i, rfl, q⟩ := h
  obtain ⟨t, rfl⟩ := rx
  exact rule i t s _ _ ⟨.int (g i), H, I.tok _, ⟨_, rfl⟩, q⟩
theorem un_neg : UnR X (unaryOp .USub) (rU fun i => .int (-i)) := unI fun _ _ _ _ _ q => neg_int q
end
def scal : V → V → Bool
  | .non, .non => true | .non, .int _ => true | .int _, .non => true | .non, .bl _ => true | .bl _, .non => true | .non, .str _ => true | .str _, .non => true
  | .int _, .int _ => true | .bl _, .bl _ => true | .str _, .str _ => true | .byt _, .byt _ => true
  | .int _, .str _ => true | .str _, .int _ => true | .bl _, .str _ => true | .str _, .bl _ => true
  | _, _ => false
def rEq : R2 := fun x y H Q => scal x y = true ∧ Q (.bl (decide (x = y))) H
def rNe : R2 := fun x y H Q => scal x y = true ∧ Q (.bl (!decide (x = y))) H
theorem dec_int {i j : Int} : decide (V.int i = V.int j) = (i == j) := by
  rw [Bool.eq_iff_iff]
  simp
theorem dec_bl {i j : Bool} : decide (V.bl i = V.bl j) = (i == j) := by
  rw [Bool.eq_iff_iff]
  simp
theorem dec_str {i j : Str} : decide (V.str i = V.str j) = (i == j) := by
  rw [Bool.eq_iff_iff]
  simp
theorem dec_byt {i j : Array UInt8} : decide (V.byt i = V.byt j) = (i.toList == j.toList) := by
  rw [Bool.eq_iff_iff]
  cases i
  cases j
  simp
section
variable {X : Cx} {a b c : Expr} {ta tb tc : TE} {pos : Pos}
theorem fin_bl {pins : List (Addr × Obj)} {σ : St} {H : Hp} {s : Shared} {Q : VK} {k k' : Bool} (I : Inv X pins σ H s) (q : Q (.bl k) H) (e : k = k') : EP X pins σ Q (.bool k') s := by
  subst e
  exact ⟨.bl k, H, I, rfl, q⟩
theorem op_eq : OpR X (compareOp .Eq) rEq := by
  intro pins s σ H x y v u Q I rx ry h
  obtain ⟨hs, q⟩ := h
  cases x with
  | non =>
    cases rx
    cases y with
    | non => cases ry; exact PySem.EqNone.eq_none_none (fin_bl I q (by simp))
    | bl j => cases ry; exact PySem.EqNone.eq_none_bool (fin_bl I q (by simp))
    | int j => obtain ⟨t', rfl⟩ := ry; exact PySem.EqNone.eq_none_int (fin_bl I q (by simp))
    | str j => obtain ⟨t', rfl⟩ := ry; exact PySem.EqNone.eq_none_str (fin_bl I q (by simp))
    | _ => exact absurd (show false = true from hs) Bool.false_ne_true
  | bl i =>
    cases rx
    cases y with
    | non => cases ry; exact PySem.EqNone.eq_bool_none (fin_bl I q (by simp))
    | bl j => cases ry; exact eq_bool (fin_bl I q dec_bl)
    | str j => obtain ⟨t', rfl⟩ := ry; exact PySem.EqMixed.eq_bool_str (fin_bl I q (by simp))
    | _ => exact absurd (show false = true from hs) Bool.false_ne_true
  | int i =>
    obtain ⟨t, rfl⟩ := rx
    cases y with
    | non => cases ry; exact PySem.EqNone.eq_int_none (fin_bl I q (by simp))
    | int j => obtain ⟨t', rfl⟩ := ry; exact eq_int (fin_bl I q dec_int)
    | str j => obtain ⟨t', rfl⟩ := ry; exact PySem.EqMixed.eq_int_str (fin_bl I q (by simp))
    | _ => exact absurd (show false = true from hs) Bool.false_ne_true
  | str i =>
    obtain ⟨t, rfl⟩ := rx
    cases y with
    | non => cases ry; exact PySem.EqNone.eq_str_none (fin_bl I q (by simp))
    | bl j => cases ry; exact PySem.EqMixed.eq_str_bool (fin_bl I q (by simp))
    | int j => obtain ⟨t', rfl⟩ := ry; exact PySem.EqMixed.eq_str_int (fin_bl I q (by simp))
    | str j => obtain ⟨t', rfl⟩ := ry; exact eq_str (fin_bl I q dec_str)
    | _ => exact absurd (show false = true from hs) Bool.false_ne_true
  | byt i =>
    obtain ⟨t, rfl⟩ := rx
    cases y with
    | byt j => obtain ⟨t', rfl⟩ := ry; exact PySem.W.eq_bytes (fin_bl I q dec_byt)
    | _ => exact absurd (show false = true from hs) Bool.false_ne_true
  | _ => cases y <;> exact absurd (show false = true from hs) Bool.false_ne_true
theorem op_ne : OpR X (compareOp .NotEq) rNe := by
  intro pins s σ H x y v u Q I rx ry h
  obtain ⟨hs, q⟩ := h
  cases x with
  | non =>
    cases rx
    cases y with
    | non => cases ry; exact PySem.EqNone.ne_none_none (fin_bl I q (by simp))
    | bl j => cases ry; exact PySem.EqNone.ne_none_bool (fin_bl I q (by simp))
    | int j => obtain ⟨t', rfl⟩ := ry; exact PySem.EqNone.ne_none_int (fin_bl I q (by simp))
    | str j => obtain ⟨t', rfl⟩ := ry; exact PySem.EqNone.ne_none_str (fin_bl I q (by simp))
    | _ => exact absurd (show false = true from hs) Bool.false_ne_true
  | bl i =>
    cases rx
    cases y with
    | non => cases ry; exact PySem.EqNone.ne_bool_none (fin_bl I q (by simp))
    | bl j => cases ry; exact ne_bool (fin_bl I q (congrArg not dec_bl))
    | str j => obtain ⟨t', rfl⟩ := ry; exact PySem.EqMixed.ne_bool_str (fin_bl I q (by simp))
    | _ => exact absurd (show false = true from hs) Bool.false_ne_true
  | int i =>
    obtain ⟨t, rfl⟩ := rx
    cases y with
    | non => cases ry; exact PySem.EqNone.ne_int_none (fin_bl I q (by simp))
    | int j => obtain ⟨t', rfl⟩ := ry; exact ne_int (fin_bl I q (congrArg not dec_int))
    | str j => obtain ⟨t', rfl⟩ := ry; exact PySem.EqMixed.ne_int_str (fin_bl I q (by simp))
    | _ => exact absurd (show false = true from hs) Bool.false_ne_true
  | str i =>
    obtain ⟨t, rfl⟩ := rx
    cases y with
    | non => cases ry; exact PySem.EqNone.ne_str_none (fin_bl I q (by simp))
    | bl j => cases ry; exact PySem.EqMixed.ne_str_bool (fin_bl I q (by simp))
    | int j => obtain ⟨t', rfl⟩ := ry; exact PySem.EqMixed.ne_str_int (fin_bl I q (by simp))
    | str j => obtain ⟨t', rfl⟩ := ry; exact ne_str (fin_bl I q (congrArg not dec_str))
    | _ => exact absurd (show false = true from hs) Bool.false_ne_true
  | byt i =>
    obtain ⟨t, rfl⟩ := rx
    cases y with
    | byt j => obtain ⟨t', rfl⟩ := ry; exact PySem.W.ne_bytes (fin_bl I q (congrArg not dec_byt))
    | _ => exact absurd (show false = true from hs) Bool.false_ne_true
  | _ => cases y <;> exact absurd (show false = true from hs) Bool.false_ne_true
theorem op_lt : OpR X (compareOp .Lt) (rI0 fun i j => .bl (decide (i < j))) := opB0 fun _ _ _ _ _ _ _ q => lt_int q
theorem op_le : OpR X (compareOp .LtE) (rI0 fun i j => .bl (decide (i ≤ j))) := opB0 fun _ _ _ _ _ _ _ q => le_int q
theorem op_gt : OpR X (compareOp .Gt) (rI0 fun i j => .bl (decide (j < i))) := opB0 fun _ _ _ _ _ _ _ q => gt_int q
theorem op_ge : OpR X (compareOp .GtE) (rI0 fun i j => .bl (decide (j ≤ i))) := opB0 fun _ _ _ _ _ _ _ q => ge_int q
theorem op_isN : OpR X (compareOp .Is) (fun x y H Q => y = .non ∧ Q (.bl (decide (x = .non))) H) := by
  intro pins s σ H x y v u Q I rx ry h
  obtain ⟨rfl, q⟩ := h
  cases ry
  refine is_none_gen (fin_bl I q ?_)
  cases x <;> first
    | (cases rx; rfl)
    | (obtain ⟨t, rfl⟩ := rx; rfl)
def isObj : HO → Bool
  | .lst _ => true
  | .ins _ _ _ => true
  | _ => false
theorem nomark (b : Expr) {op : CmpOp} (h : op ≠ .In := by decide) (h2 : op ≠ .NotIn := by decide) : behindInMarks op b = false := by
  have e1 : (op == CmpOp.In) = false := by cases op <;> first | rfl | exact absurd rfl h
  have e2 : (op == CmpOp.NotIn) = false := by cases op <;> first | rfl | exact absurd rfl h2
  cases b <;> simp [behindInMarks, e1, e2]
theorem pe_cmpR {op : CmpOp} {r : R2} (ho : OpR X (compareOp op) r) (ha : PE X a ta) (hb : PE X b tb) (hm : behindInMarks op b = false) : PE X (.Compare a [op] [b] pos) (tOp r ta tb) := by
  intro pins s σ H Q I h
  exact wpAny_Compare1 (binT ha hb I h fun v u s2 x y H2 I2 rx ry q => ho pins s2 σ H2 x y v u Q I2 rx ry q) hm
def tTest (t : TE) : TT := fun σ H Q => t σ H fun x H' => ∃ k, x = .bl k ∧ Q k H'
theorem pt_cmpR {op : CmpOp} {r : R2} (ho : OpR X (compareOp op) r) (ha : PE X a ta) (hb : PE X b tb) (hm : behindInMarks op b = false) : PT X (.Compare a [op] [b] pos) (tTest (tOp r ta tb)) := by
  intro pins s σ H Q I h
  refine wpAny_isTrue_Compare1 (thn (ha pins s σ H _ I h) fun v s1 ⟨x, H1, I1, r1, q1⟩ => thn (hb pins s1 σ H1 _ I1 q1) fun u s2 ⟨y, H2, I2, r2, q2⟩ =>
    thn (ho pins s2 σ H2 x y v u _ I2 r1 r2 q2) fun c s3 ⟨z, H3, I3, r3, k, e, q3⟩ => ?_) hm
  subst e
  cases r3
  exact wpAny_truthy_bool ⟨H3, I3, q3⟩
def tChain (r r' : R2) (ta tb tc : TE) : TE := fun σ H Q => ta σ H fun x H1 => tb σ H1 fun y H2 => r x y H2 fun z H3 => ∃ k, z = .bl k ∧
  (if k = true then tc σ H3 fun w' H4 => r' y w' H4 Q else Q (.bl false) H3)
theorem pe_chain {op op' : CmpOp} {r r' : R2} (ho : OpR X (compareOp op) r) (ho' : OpR X (compareOp op') r') (ha : PE X a ta) (hb : PE X b tb) (hc : PE X c tc)
    (hm : lastMarks [op, op'] [b, c] = false := by with_unfolding_all rfl) : PE X (.Compare a [op, op'] [b, c] pos) (tChain r r' ta tb tc) := by
  intro pins s σ H Q I h
  refine Compare_chain (thn (ha pins s σ H _ I h) fun v s1 ⟨x, H1, I1, r1, q1⟩ => chain_link (thn (hb pins s1 σ H1 _ I1 q1) fun u s2 ⟨y, H2, I2, r2, q2⟩ =>
    thn (ho pins s2 σ H2 x y v u _ I2 r1 r2 q2) fun d s3 ⟨z, H3, I3, r3, k, e, q3⟩ => ?_)) hm
  subst e
  cases r3
  refine wpAny_truthy_bool ?_
  cases k with
  | false => exact ite_ff ⟨.bl false, H3, I3, rfl, q3⟩
  | true => exact ite_tt (chain_last (thn (hc pins s3 σ H3 _ I3 q3) fun w' s4 ⟨z', H4, I4, r4, q4⟩ => ho' pins s4 σ H4 y z' u w' Q I4 r2 r4 q4))
def TruV (K : PySem.W.Frag) (x : V) (H : Hp) (k : Bool) : Prop :=
  match x with
  | .non => k = false
  | .bl b => k = b
  | .int i => k = (i != 0)
  | .str y => y.length ≤ sizeLine ∧ k = ((y.length : Int) != 0)
  | .byt y => y.size ≤ sizeLine ∧ k = ((y.size : Int) != 0)
  | .ref p => (∃ xs, SqL K H p xs ∧ k = !xs.isEmpty) ∨ (∃ xs, SqT K H p xs ∧ k = !xs.isEmpty) ∨ ∃ kvs, H p = some (.dK kvs) ∧ k = !kvs.isEmpty
  | _ => False
theorem isEmpty_kv {κ : Type} {kvs : List (κ × V)} {vs : List (κ × Value)} (r : KV kvs vs) : (!vs.isEmpty) = !kvs.isEmpty := by
  cases r <;> rfl
theorem isEmpty_of {xs : List V} {its : List Value} (r : Vals xs its) : (!its.toArray.isEmpty) = !xs.isEmpty := by
  cases r <;> simp
theorem line63 : (sizeLine : Nat) < 2 ^ 63 := by rw [sizeLine_eq]; decide
theorem tru_ok : TruR X (fun x H Q => ∃ k, TruV X.K x H k ∧ Q k H) := by
  intro pins s σ H x v Q I rx h
  obtain ⟨k, e, q⟩ := h
  have hl := line63
  have hs : sizeLine = 16777216 := sizeLine_eq
  cases x with
  | non =>
    cases rx
    have e' : k = false := e
    subst e'
    exact truthy_none ⟨H, I, q⟩
  | bl b =>
    cases rx
    have e' : k = b := e
    subst e'
    exact wpAny_truthy_bool ⟨H, I, q⟩
  | int i =>
    obtain ⟨t, rfl⟩ := rx
    have e' : k = (i != 0) := e
    subst e'
    exact PySem.P.truthy_int ⟨H, I, q⟩
  | str y =>
    obtain ⟨t, rfl⟩ := rx
    obtain ⟨hy, e'⟩ : y.length ≤ sizeLine ∧ k = ((y.length : Int) != 0) := e
    subst e'
    exact PySem.P.truthy_str (by omega) ⟨H, I.tok _, q⟩
  | byt y =>
    obtain ⟨t, rfl⟩ := rx
    obtain ⟨hy, e'⟩ : y.size ≤ sizeLine ∧ k = ((y.size : Int) != 0) := e
    subst e'
    exact PySem.W.truthy_bytes (by omega) ⟨H, I.tok _, q⟩
  | ref p =>
    cases rx
    have e' : (∃ xs, SqL X.K H p xs ∧ k = !xs.isEmpty) ∨ (∃ xs, SqT X.K H p xs ∧ k = !xs.isEmpty) ∨ ∃ kvs, H p = some (.dK kvs) ∧ k = !kvs.isEmpty := e
    rcases e' with ⟨xs, hx, e'⟩ | ⟨xs, hx, e'⟩ | ⟨kvs, hx, e'⟩
    · subst e'
      obtain ⟨its, r, pl, hz⟩ := I.list hx
      have hlen := r.length
      exact wpAny_truthy_list pl.isList (by simp only [List.size_toArray]; omega) ⟨H, I.tok _, by rw [isEmpty_of r]; exact q⟩
    · subst e'
      obtain ⟨its, r, pl, hz⟩ := I.tuple hx
      have hlen := r.length
      exact truthy_tuple pl (by simp only [List.size_toArray]; omega) ⟨H, I.tok _, by rw [isEmpty_of r]; exact q⟩
    · subst e'
      obtain ⟨hz, hS, vs, r, m⟩ : kvs.length ≤ sizeLine ∧ (p == sysModules) = false ∧ ∃ vs, KV kvs vs ∧ s.heap.DictOf (mixKind X.prog X.w) p vs := I.hok p _ hx
      have hlen : kvs.length = vs.length := Paired.length r
      exact wpAny_truthy_dict hS m (by omega) ⟨H, I.tok _, by rw [isEmpty_kv r]; exact q⟩
  | _ => exact (show False from e).elim
theorem pt_truth (ha : PE X a ta) (he : ∀ whole, isTrue a X.env whole = (do let v ← whole; standAt a.pos; holding [v] (truthy v))) :
    PT X a (fun σ H Q => ta σ H fun x H' => ∃ k, TruV X.K x H' k ∧ Q k H') := by
  intro pins s σ H Q I h
  exact isTrue_plain (thn (ha pins s σ H _ I h) fun v s1 ⟨x, H1, I1, r1, q1⟩ => tru_ok pins s1 σ H1 x v Q I1 r1 q1) (he _)
theorem op_add_str : OpR X (binaryOp .Add) (fun x y H Q => ∃ i j, x = .str i ∧ y = .str j ∧ i.length + j.length ≤ sizeLine ∧ Q (.str (i ++ j)) H) := by
  intro pins s σ H x y v u Q I rx ry h
  obtain ⟨i, j, rfl, rfl, hz, q⟩ := h
  obtain ⟨t, rfl⟩ := rx
  obtain ⟨t', rfl⟩ := ry
  exact add_str (fun t' tk => ⟨.str (i ++ j), H, I.tok _, ⟨_, rfl⟩, q⟩) hz
def PlainIxT (b : Expr) : Prop := ∀ o i, subscripted b false o i = operate [o, i] (getItem o i)
theorem vals1 {x : V} {us : List Value} (r : Vals [x] us) : ∃ u, us = [u] ∧ RelV x u := by
  cases r with
  | cons r1 r2 => cases r2; exact ⟨_, rfl, r1⟩
theorem call_int1 : CallR X (.type "int") (fun xs H Q => (∃ i, xs = [.int i] ∧ Q (.int i) H) ∨ ∃ k, xs = [.bl k] ∧ Q (.int (if k then 1 else 0)) H) := by
  intro pins s σ H xs us Q I r h
  rcases h with ⟨i, rfl, q⟩ | ⟨k, rfl, q⟩
  · obtain ⟨u, rfl, t, rfl⟩ := vals1 r
    exact call_int_int ⟨.int i, H, I, ⟨_, rfl⟩, q⟩
  · obtain ⟨u, rfl, r1⟩ := vals1 r
    cases r1
    exact call_int_bool ⟨.int (if k then 1 else 0), H, I.tok _, ⟨_, rfl⟩, q⟩
def LenV (K : PySem.W.Frag) (x : V) (H : Hp) (n : Nat) : Prop :=
  match x with
  | .str y => y.length ≤ sizeLine ∧ n = y.length
  | .byt y => y.size ≤ sizeLine ∧ n = y.size
  | .ref p => (∃ xs, SqL K H p xs ∧ n = xs.length) ∨ ∃ xs, SqT K H p xs ∧ n = xs.length
  | _ => False
end
open PySem PySem.Spec PyProof.Rows
structure ObjM (h : Heap) (x dx C : Addr) (mA : Str → Option Value) : Prop where
  obj : h.get? x = some (PySem.W.instObj C dx)
  ns : h.Ns1 dx mA
  ne : dx ≠ x
theorem lookIn_ns {h : Heap} {dx : Addr} {mA : Str → Option Value} (n : h.Ns1 dx mA) : ∃ od, h.get? dx = some od ∧ ∀ name, PySem.W.lookIn name od = some (mA name) := by
  obtain ⟨o, es, ep, ho, hd, hk, _, hm⟩ := n
  refine ⟨o, ho, fun name => ?_⟩
  have e := hm name
  unfold nsFind findBy at e
  rw [← Array.find?_toList] at e
  unfold PySem.W.lookIn
  rw [hd]
  dsimp only
  split
  · rename_i y q
    rw [q] at e
    exact congrArg some e
  · rename_i q
    rw [q] at e
    have a : es.toList.any (·.refKey) = false := by
      rw [List.any_eq_false]
      intro y hy
      obtain ⟨z, t, hkey⟩ := hk y (Array.mem_toList_iff.mp hy)
      simp [DictEntry.refKey, hkey]
    have a' : ¬ es.toList.any (·.refKey) = true := by rw [a]; exact Bool.false_ne_true
    rw [if_neg a']
    exact congrArg some e
theorem ObjM.look {h : Heap} {x dx C : Addr} {mA : Str → Option Value} (I : ObjM h x dx C mA) : ∃ od, PySem.W.InstAt h x (PySem.W.instObj C dx) C (some od) ∧ ∀ name, PySem.W.lookIn name od = some (mA name) :=
  let ⟨od, ho, hl⟩ := lookIn_ns I.ns
  ⟨od, ⟨I.obj, rfl, rfl, ho⟩, hl⟩
section
variable {prog : Program} {w : World} {A : Around} {E : Value → Shared → Prop} {s : Shared} {K : PySem.W.Frag} {x dx C f : Addr} {mA : Str → Option Value} {name : Str} {v : Value}
theorem get_map {expr : Bool} {Q : Value → Shared → Prop} (X : K.In s.heap) (I : ObjM s.heap x dx C mA) (hg : PySem.W.plainGet K C name = true) (hh : PySem.W.hasDictIn K C = true)
    (ha : PySem.W.findIn K (.ref C) name = some none) (hv : mA name = some v) (hv' : PySem.W.handedIn v = true) (h : Q v { s with toks := s.toks + 1 }) :
    wpAny (model prog w) A (getAttr (.ref x) name expr) Q E s := by
  obtain ⟨od, J, hl⟩ := I.look
  exact PySem.W.get_value X J (PySem.W.plainGet_of hg).1 (PySem.W.findObj_own hh ha rfl (by rw [hl, hv])) hv' h
theorem get_meth {pl : Sem Bool} {Q : Value × List Value → Shared → Prop} (X : K.In s.heap) (I : ObjM s.heap x dx C mA) (hg : PySem.W.plainGet K C name = true)
    (hf : PySem.W.findIn K (.ref C) name = some (some (.ref f))) (ht : PySem.W.isFn K (.ref f) = true) (hv : mA name = none) (h : Q (.ref f, [.ref x]) s) :
    wpAny (model prog w) A (getMethod (.ref x) name pl) Q E s := by
  obtain ⟨od, J, hl⟩ := I.look
  exact PySem.W.method_fn X J (PySem.W.plainGet_of hg).1 (PySem.W.plainGet_of hg).2 hf (beq_iff_eq.mp ht) (by show (PySem.W.lookIn name od).map (·.isSome) = some false; rw [hl, hv]; rfl) h
theorem set_map {ns : List Str} {Q : Unit → Shared → Prop} (X : K.In s.heap) (I : ObjM s.heap x dx C mA)
    (hs : PySem.W.findIn K (.ref C) "__setattr__" = some (some (.builtin "object.__setattr__"))) (hp : PySem.W.plainOver K C = true) (ht : PySem.W.takerIn K C name = some none) (hh : PySem.W.hasDictIn K C = true)
    (hw : PySem.Within mA ns) (hsz : ns.length ≤ sizeLine)
    (h : ∀ h', ObjM h' x dx C (fun y => if y = name then some v else mA y) → Heap.SameBut dx s.heap h' → Q () { s with heap := h', toks := s.toks + 2 }) :
    wpAny (model prog w) A (setAttr (.ref x) name v) Q E s := by
  obtain ⟨od, J, hl⟩ := I.look
  refine PySem.W.set_plain X J hs (PySem.W.osa_open (s := { s with toks := s.toks + 1 }) (r := none) X J hp ht fun b => ?_)
  obtain ⟨cd, hc, hd'⟩ := PySem.W.any_some hh
  have hx : s.heap.get? x = some ⟨.ref C, some dx, .plain, #[]⟩ := I.obj
  refine wpAny_bind (wpAny_pure (wpAny_bind (wpAny_bind (wpAny_loadPart hx (wpAny_bind (PySem.W.Looks.here (s := { s with toks := s.toks + 1 }) (PySem.W.looks_clsIn X hc) ?_))))))
  rw [hd']
  refine wpAny_pure (a := some dx) (wpAny_bind (wpAny_pure (wpAny_bind ?_)))
  refine wpAny_nsSet1 (s := { s with toks := s.toks + 1 }) I.ns fun h' hn2 hs2 => ?_
  obtain ⟨oD, esD, epD, hoD, hdD, hcD⟩ := hn2.count (PySem.Within.cons name v hw)
  refine wpAny_bind (wpAny_lookBehind hoD (by rw [hdD]; exact pastItsLine_dict (Nat.le_trans hcD (by rw [List.length_cons]; omega))) ?_)
  exact wpAny_pure (h _ ⟨(hs2.2 _ (Ne.symm I.ne)).trans I.obj, hn2, I.ne⟩ hs2)
theorem make_map {R : Result → Shared → Prop} {vs : List Value} {kw : List (Str × Value)} (X : K.In s.heap) (hm : PySem.W.makesIn K C = true)
    (hi : PySem.W.findIn K (.ref C) "__init__" = some (some (.ref f))) (hf : PySem.W.typeIn K (.ref f) = some (.type "function"))
    (h : codeAny (model prog w) (A.under (.builtin "type.__call__" ⟨.ref C :: vs, kw⟩)) (.call (.ref f) ⟨.ref (s.heap.objs.size + 1) :: vs, kw⟩) (PySem.W.InitBack (s.heap.objs.size + 1) R)
      { s with heap := (s.heap.push PySem.W.emptyDict).push (PySem.W.instObj C s.heap.objs.size) }) :
    codeAny (model prog w) A (.call (.ref C) ⟨vs, kw⟩) R s := by
  obtain ⟨hh, g, d, t, os⟩ := s
  exact PySem.W.make_core (PySem.W.makes_of X hm) (PySem.W.looks_findIn X hi) (fun self => PySem.W.bind_fn X self hf) (.inl rfl) h
end
def putF (f : Str) (v : V) : List (Str × V) → List (Str × V)
  | [] => [(f, v)]
  | (g, x) :: r => if g = f then (g, v) :: r else (g, x) :: putF f v r
theorem lookup_putF (f g : Str) (v : V) : ∀ fs : List (Str × V), (putF f v fs).lookup g = if g = f then some v else fs.lookup g
  | [] => by
    show List.lookup g [(f, v)] = _
    by_cases h : g = f
    · have hb : (g == f) = true := beq_iff_eq.mpr h
      simp only [List.lookup, hb, if_pos h]
    · have hb : (g == f) = false := beq_eq_false_iff_ne.mpr h
      simp only [List.lookup, hb, if_neg h]
  | (k, x) :: r => by
    have ih := lookup_putF f g v r
    rw [show putF f v ((k, x) :: r) = (if k = f then (k, v) :: r else (k, x) :: putF f v r) from rfl]
    by_cases hk : k = f
    · rw [if_pos hk]
      by_cases h : g = k
      · have hb : (g == k) = true := beq_iff_eq.mpr h
        simp only [List.lookup, hb, if_pos (h.trans hk)]
      · have hb : (g == k) = false := beq_eq_false_iff_ne.mpr h
        simp only [List.lookup, hb, if_neg (fun e : g = f => h (e.trans hk.symm))]
    · rw [if_neg hk]
      by_cases h : g = k
      · have hb : (g == k) = true := beq_iff_eq.mpr h
        simp only [List.lookup, hb, if_neg (fun e : g = f => hk (h.symm.trans e))]
      · have hb : (g == k) = false := beq_eq_false_iff_ne.mpr h
        simp only [List.lookup, hb]
        exact ih
theorem keys_putF (f : Str) (v : V) : ∀ fs : List (Str × V), f ∈ (putF f v fs).map (·.1) ∧ ∀ g, g ∈ fs.map (·.1) → g ∈ (putF f v fs).map (·.1)
  | [] => ⟨by simp [putF], fun g h => by simp at h⟩
  | (k, x) :: r => by
    obtain ⟨i1, i2⟩ := keys_putF f v r
    rw [show putF f v ((k, x) :: r) = (if k = f then (k, v) :: r else (k, x) :: putF f v r) from rfl]
    by_cases hk : k = f
    · rw [if_pos hk]
      subst hk
      exact ⟨by simp, fun g h => by simpa using h⟩
    · rw [if_neg hk]
      refine ⟨?_, fun g h => ?_⟩
      · rw [List.map_cons]
        exact List.mem_cons_of_mem _ i1
      · rw [List.map_cons] at h ⊢
        rcases List.mem_cons.mp h with e | e
        · exact List.mem_cons.mpr (.inl e)
        · exact List.mem_cons_of_mem _ (i2 g e)
theorem length_putF (f : Str) (v : V) : ∀ fs : List (Str × V), (putF f v fs).length ≤ fs.length + 1
  | [] => by simp [putF]
  | (k, x) :: r => by
    have ih := length_putF f v r
    rw [show putF f v ((k, x) :: r) = (if k = f then (k, v) :: r else (k, x) :: putF f v r) from rfl]
    by_cases hk : k = f
    · rw [if_pos hk, List.length_cons, List.length_cons]; omega
    · rw [if_neg hk, List.length_cons, List.length_cons]; omega
theorem RelO.some_of {v : V} {o : Option Value} (r : RelO (some v) o) : ∃ u, o = some u ∧ RelV v u := by
  cases o with
  | none => exact (show False from r).elim
  | some u => exact ⟨u, rfl, r⟩
theorem RelO.none_of {o : Option Value} (r : RelO none o) : o = none := by
  cases o with
  | none => rfl
  | some u => exact (show False from r).elim
theorem handed_of {v : V} {u : Value} (r : RelV v u) : PySem.W.handedIn u = true := by
  cases v with
  | non => cases (show u = Value.none from r); rfl
  | bl b => cases (show u = Value.bool b from r); rfl
  | int i => obtain ⟨t, e⟩ := (show ∃ t, u = Value.int i t from r); cases e; rfl
  | str x => obtain ⟨t, e⟩ := (show ∃ t, u = Value.str x t from r); cases e; rfl
  | byt b => obtain ⟨t, e⟩ := (show ∃ t, u = Value.bytes b t from r); cases e; rfl
  | flt b => obtain ⟨t, e⟩ := (show ∃ t, u = Value.float b t from r); cases e; rfl
  | ref a => cases (show u = Value.ref a from r); rfl
  | ty n => cases (show u = Value.type n from r); rfl
section
variable {P : Program} {w : World} {H H' : Hp} {h h' : Heap} {a C dx : Addr} {fs fs' : List (Str × V)}
theorem ins_get (hok : HOk P w H h) (e : H a = some (.ins C dx fs)) : ∃ mA, ObjM h a dx C mA ∧ (∀ f, RelO (fs.lookup f) (mA f)) ∧ PySem.Within mA (fs.map (·.1)) ∧ fs.length ≤ 1000 ∧ H dx = some (.own a) := by
  obtain ⟨d, z, ne, ob, mA, n, r, q⟩ := (show ObjOk P w H h a (.ins C dx fs) from hok a _ e)
  exact ⟨mA, ⟨ob, n, ne⟩, r, q, z, d⟩
end
structure Cls (K : PySem.W.Frag) (C : Addr) : Prop where
  pg : PySem.W.plainGet K C Str.empty = true
  hd : PySem.W.hasDictIn K C = true
  po : PySem.W.plainOver K C = true
  sa : PySem.W.findIn K (.ref C) "__setattr__" = some (some (.builtin "object.__setattr__"))
theorem Cls.get {K : PySem.W.Frag} {C : Addr} (c : Cls K C) (f : Str) : PySem.W.plainGet K C f = true := c.pg
def NoAttr (K : PySem.W.Frag) (C : Addr) (f : Str) : Prop := PySem.W.findIn K (.ref C) f = some none
theorem NoAttr.taker {K : PySem.W.Frag} {C : Addr} {f : Str} (n : NoAttr K C f) : PySem.W.takerIn K C f = some none := by
  unfold PySem.W.takerIn
  rw [show PySem.W.findIn K (.ref C) f = some none from n]
  rfl
structure Con (K : PySem.W.Frag) (C : Addr) (f : Str) (v : V) (u : Value) : Prop where
  at_ : PySem.W.findIn K (.ref C) f = some (some u)
  rel : RelV v u
  get : PySem.W.specialIn K u "__get__" = some none
  cp : PySem.W.copiedNames.contains f = false
structure Meth (K : PySem.W.Frag) (C : Addr) (m : Str) (f : Addr) : Prop where
  at_ : PySem.W.findIn K (.ref C) m = some (some (.ref f))
  fn : PySem.W.isFn K (.ref f) = true
  kp : PySem.W.keepIn K (.ref f) = true
section
variable {X : Cx} {pins : List (Addr × Obj)} {σ : St} {H : Hp} {s : Shared} {a C dx : Addr} {fs : List (Str × V)} {f : Str} {v : V} {A : Around} {E : Value → Shared → Prop}
theorem getattr_ok {b : Bool} {Q : Value → Shared → Prop} (I : Inv X pins σ H s) (e : H a = some (.ins C dx fs)) (c : Cls X.K C) (n : NoAttr X.K C f) (l : fs.lookup f = some v)
    (h : ∀ u s', Inv X pins σ H s' → RelV v u → Q u s') : wpAny (model X.prog X.w) A (getAttr (.ref a) f b) Q E s := by
  obtain ⟨mA, O, r, _, _, _⟩ := ins_get I.hok e
  obtain ⟨u, hu, ru⟩ := RelO.some_of (v := v) (o := mA f) (by rw [← l]; exact r f)
  exact get_map I.kIn O (c.get f) c.hd n hu (handed_of ru) (h u _ (I.tok _) ru)
theorem getmeth_ok {m : Str} {g : Addr} {pl : Sem Bool} {Q : Value × List Value → Shared → Prop} (I : Inv X pins σ H s) (e : H a = some (.ins C dx fs)) (c : Cls X.K C) (k : Meth X.K C m g) (l : fs.lookup m = none)
    (h : Q (.ref g, [.ref a]) s) : wpAny (model X.prog X.w) A (getMethod (.ref a) m pl) Q E s := by
  obtain ⟨mA, O, r, _, _, _⟩ := ins_get I.hok e
  have hn : mA m = none := RelO.none_of (by rw [← l]; exact r m)
  exact get_meth I.kIn O (c.get m) k.at_ k.fn hn h
theorem setattr_ok {y : V} {u : Value} {Q : Unit → Shared → Prop} (I : Inv X pins σ H s) (e : H a = some (.ins C dx fs)) (c : Cls X.K C) (n : NoAttr X.K C f) (hl : fs.length < 1000) (ry : RelV y u)
    (h : ∀ s', Inv X pins σ (upd H a (.ins C dx (putF f y fs))) s' → Q () s') : wpAny (model X.prog X.w) A (setAttr (.ref a) f u) Q E s := by
  obtain ⟨mA, O, r, wi, _, ho⟩ := ins_get I.hok e
  have hz : (fs.map (·.1)).length ≤ sizeLine := by rw [List.length_map, sizeLine_eq]; omega
  refine set_map I.kIn O c.sa c.po n.taker c.hd wi hz fun h' O' sb => h _ ?_
  have hd : ∃ o, h'.get? dx = some o := let ⟨o, _, _, e', _⟩ := O'.ns; ⟨o, e'⟩
  refine I.write (x := a) (e := dx) (by rw [e]; exact True.intro) (.inr ho) (fun b q hb z => (sb.2 b hb).trans z) hd ?_
  refine ⟨by rw [upd_ne O.ne]; exact ho, ?_, O.ne, O'.obj, _, O'.ns, fun g => ?_, fun g hg => ?_⟩
  · have := length_putF f y fs; omega
  · show RelO ((putF f y fs).lookup g) (if g = f then some u else mA g)
    rw [lookup_putF]
    by_cases q : g = f
    · rw [if_pos q, if_pos q]; exact ry
    · rw [if_neg q, if_neg q]; exact r g
  · by_cases q : g = f
    · rw [q]; exact (keys_putF f y fs).1
    · refine (keys_putF f y fs).2 g (wi g fun z => hg ?_)
      show (if g = f then some u else mA g) = none
      rw [if_neg q]; exact z
theorem Inv.made (I : Inv X pins σ H s) : Inv X pins σ (upd (upd H s.heap.objs.size (.own (s.heap.objs.size + 1))) (s.heap.objs.size + 1) (.ins C s.heap.objs.size []))
    { s with heap := (s.heap.push PySem.W.emptyDict).push (PySem.W.instObj C s.heap.objs.size) } := by
  have e1 : (s.heap.push PySem.W.emptyDict).get? s.heap.objs.size = some PySem.W.emptyDict := Heap.get?_push_size s.heap rfl
  have e2 : ((s.heap.push PySem.W.emptyDict).push (PySem.W.instObj C s.heap.objs.size)).get? (s.heap.objs.size + 1) = some (PySem.W.instObj C s.heap.objs.size) := by
    have := Heap.get?_push_size (s.heap.push PySem.W.emptyDict) (o := PySem.W.instObj C s.heap.objs.size) rfl
    rwa [Heap.size_push] at this
  have e3 : (s.heap.push PySem.W.emptyDict).Ns s.heap.objs.size (fun _ => none) := ⟨PySem.W.emptyDict, #[], _, e1, rfl, (fun e he => absurd he (by simp)), fun _ => rfl⟩
  have I1 := I.laid (a := s.heap.objs.size) (o := .own (s.heap.objs.size + 1)) (h' := s.heap.push PySem.W.emptyDict) (t' := s.toks) (fun b u q => Heap.get?_push_of_some _ q) (Nat.le_refl _) ⟨_, e1⟩
  refine I1.laid (a := s.heap.objs.size + 1) (o := .ins C s.heap.objs.size []) (t' := s.toks) (fun b u q => Heap.get?_push_of_some _ q) (Nat.le_of_eq (Heap.size_push _ _)) ?_
  have ne : s.heap.objs.size ≠ s.heap.objs.size + 1 := Nat.ne_of_lt (Nat.lt_succ_self _)
  refine ⟨by rw [upd_ne ne, upd_same], Nat.zero_le _, ne, e2, fun _ => none, (Heap.Ns1.of_empty e3).at fun o q => Heap.get?_push_of_some _ q, fun _ => True.intro, fun y hy => absurd rfl hy⟩
theorem attr_of {prog : Program} {w : World} {env : Env} {e : Expr} {f : Str} {pos : Pos} {s : Shared} {Q : Value → Shared → Prop} (hb : attributeBase e f env (eval e env) = eval e env)
    (h : wpAny (model prog w) A (eval e env) (fun o s₁ => wpAny (model prog w) A (getAttr o f true) Q E s₁) E s) : wpAny (model prog w) A (eval (.Attribute e f pos) env) Q E s :=
  Attribute_any_ h (by rw [arm_eval_Attribute, hb])
end
def tFld (K : PySem.W.Frag) (ta : TE) (f : Str) : TE := fun σ H Q => ta σ H fun x H1 => ∃ a C dx fs v, x = .ref a ∧ H1 a = some (.ins C dx fs) ∧ Cls K C ∧ NoAttr K C f ∧ fs.lookup f = some v ∧ Q v H1
def tCon (K : PySem.W.Frag) (ta : TE) (f : Str) : TE := fun σ H Q => ta σ H fun x H1 => ∃ a C dx fs v u, x = .ref a ∧ H1 a = some (.ins C dx fs) ∧ Cls K C ∧ Con K C f v u ∧ fs.lookup f = none ∧ Q v H1
def sFld (K : PySem.W.Frag) (ta tv : TE) (f : Str) : TS := fun D σ H => tv σ H fun y H1 => ta σ H1 fun x H2 => ∃ a C dx fs, x = .ref a ∧ H2 a = some (.ins C dx fs) ∧ Cls K C ∧ NoAttr K C f ∧ fs.length < 1000 ∧
  D.nx σ (upd H2 a (.ins C dx (putF f y fs)))
def InOp (X : Cx) (op : Operator) (rd : V → V → Hp → VK → Prop) : Prop :=
  ∀ (pins : List (Addr × Obj)) (s : Shared) (σ : St) (H : Hp) (x y : V) (u v : Value) (Q : VK), Inv X pins σ H s → RelV x u → RelV y v → rd x y H Q → wpAny (model X.prog X.w) X.A (inplaceOp op u v) (EP X pins σ Q) X.xe s
def sFldAug (K : PySem.W.Frag) (ta tv : TE) (rd : V → V → Hp → VK → Prop) (f : Str) : TS := fun D σ H => ta σ H fun x H1 => ∃ a C dx fs v, x = .ref a ∧ H1 a = some (.ins C dx fs) ∧ Cls K C ∧ NoAttr K C f ∧ fs.lookup f = some v ∧
  tv σ H1 fun y H2 => rd v y H2 fun z H3 => ∃ dx' fs', H3 a = some (.ins C dx' fs') ∧ fs'.length < 1000 ∧ D.nx σ (upd H3 a (.ins C dx' (putF f z fs')))
section
variable {X : Cx} {o e value : Expr} {f : Str} {pos pos' tpos : Pos} {ta tv : TE}
theorem pe_fld (he : PE X e ta) (hb : attributeBase e f X.env (eval e X.env) = eval e X.env) : PE X (.Attribute e f pos) (tFld X.K ta f) := by
  intro pins s σ H Q I h
  refine attr_of hb (thn (he pins s σ H _ I h) fun u s1 ⟨x, H1, I1, rx, a, C, dx, fs, v, ex, ea, c, n, l, q⟩ => ?_)
  subst ex
  obtain rfl : u = Value.ref a := rx
  exact getattr_ok I1 ea c n l fun u' s2 I2 ru => ⟨v, H1, I2, ru, q⟩
theorem ps_fld (ha : PE X o ta) (hv : PE X value tv) (hs : swapsWith value (some (.Attribute o f pos')) pos.line X.env = pure false) : PS X (.Assign [.Attribute o f pos'] value pos) (sFld X.K ta tv f) := by
  intro pins s σ H D I h
  refine plainObj_wpAny_Assign_Attribute (thn (hv pins s σ H _ I h) fun u s1 ⟨y, H1, I1, ry, q⟩ => thn (ha pins s1 σ H1 _ I1 q) fun ov s2 ⟨x, H2, I2, rx, a, C, dx, fs, ex, ea, c, n, l, q2⟩ => ?_) hs
  subst ex
  obtain rfl : ov = Value.ref a := rx
  exact setattr_ok I2 ea c n l ry fun s3 I3 => ⟨σ, _, I3, q2⟩
def rAdd : V → V → Hp → VK → Prop := fun x y H Q => ∃ i j, x = .int i ∧ y = .int j ∧ Q (.int (i + j)) H
def rSub : V → V → Hp → VK → Prop := fun x y H Q => ∃ i j, x = .int i ∧ y = .int j ∧ Q (.int (i - j)) H
end
section
variable {X : Cx} {pins : List (Addr × Obj)} {σ : St} {H : Hp} {s : Shared} {A : Around} {E : Value → Shared → Prop} {Q : Value → Shared → Prop} {c : Value} {b : Bool}
inductive TyOf (K : PySem.W.Frag) (H : Hp) : V → Value → Prop where
  | non : TyOf K H .non (.type "NoneType")
  | bl (x : Bool) : TyOf K H (.bl x) (.type "bool")
  | int (i : Int) : TyOf K H (.int i) (.type "int")
  | str (x : Str) : TyOf K H (.str x) (.type "str")
  | flt (x : UInt64) : TyOf K H (.flt x) (.type "float")
  | lst {a : Addr} {xs : List V} (e : H a = some (.lst xs)) : TyOf K H (.ref a) (.type "list")
  | frz {a : Addr} {o : Obj} {xs : List V} (e : H a = some (.frz o (.lst xs))) : TyOf K H (.ref a) (.type "list")
  | tup {a : Addr} {xs : List V} (e : H a = some (.tup xs)) : TyOf K H (.ref a) (.type "tuple")
  | dK {a : Addr} {kvs : List (Key × V)} (e : H a = some (.dK kvs)) : TyOf K H (.ref a) (.type "dict")
  | dT {a : Addr} {kvs : List (List Key × V)} (e : H a = some (.dT kvs)) : TyOf K H (.ref a) (.type "dict")
  | ins {a C dx : Addr} {fs : List (Str × V)} (e : H a = some (.ins C dx fs)) (cl : Cls K C) (ha : PySem.W.findIn K (.ref C) "__class__" = some (some (.builtin "object.__class__")))
      (hn : PySem.W.specialIn K (.builtin "object.__class__") "__get__" = some (some (.builtin "getset_descriptor.__get__"))) (htk : PySem.W.takesIn K (.builtin "object.__class__") = some true)
      (hm : PySem.W.mroIn K C (.type "object") = some true) : TyOf K H (.ref a) (.ref C)
theorem isinst_ok {x : V} {u t : Value} (I : Inv X pins σ H s) (rx : RelV x u) (ty : TyOf X.K H x t) (e : PySem.W.kitOne X.K t c = some b) (h : ∀ tk, Q (.bool b) { s with toks := tk }) :
    wpAny (model X.prog X.w) A (call (.builtin "isinstance") [u, c]) Q E s := by
  cases ty with
  | non => cases (show u = Value.none from rx); exact PySem.W.kia_one PySem.W.kitx_none I.kIn True.intro e (fun z => nomatch z) h
  | bl y => cases (show u = Value.bool y from rx); exact PySem.W.kia_one PySem.W.kitx_bool I.kIn True.intro e (fun z => nomatch z) h
  | int i => obtain ⟨t, q⟩ := (show ∃ t, u = Value.int i t from rx); cases q; exact PySem.W.kia_one PySem.W.kitx_int I.kIn True.intro e (fun z => nomatch z) h
  | str y => obtain ⟨t, q⟩ := (show ∃ t, u = Value.str y t from rx); cases q; exact PySem.W.kia_one PySem.W.kitx_str I.kIn True.intro e (fun z => nomatch z) h
  | flt y => obtain ⟨t, q⟩ := (show ∃ t, u = Value.float y t from rx); cases q; exact PySem.W.kia_one PySem.W.kitx_float I.kIn True.intro e (fun z => nomatch z) h
  | @lst a xs ea =>
    cases (show u = Value.ref a from rx)
    obtain ⟨_, _, n, _, h1⟩ := (show ObjOk X.prog X.w H s.heap a (.lst xs) from I.hok a _ ea)
    exact PySem.W.kia_one PySem.W.kitx_list I.kIn ⟨_, h1, rfl⟩ e (fun z => nomatch z) h
  | @frz a ob xs ea =>
    cases (show u = Value.ref a from rx)
    obtain ⟨_, _, _, n, _, h1⟩ := (show ObjOk X.prog X.w H s.heap a (.frz ob (.lst xs)) from I.hok a _ ea)
    exact PySem.W.kia_one PySem.W.kitx_list I.kIn ⟨_, h1, rfl⟩ e (fun z => nomatch z) h
  | @tup a xs ea =>
    cases (show u = Value.ref a from rx)
    obtain ⟨_, _, _, p⟩ := (show ObjOk X.prog X.w H s.heap a (.tup xs) from I.hok a _ ea)
    obtain ⟨o, h1, h2, _⟩ := p
    exact PySem.W.kia_one PySem.W.kitx_tuple I.kIn ⟨o, h1, h2⟩ e (fun z => nomatch z) h
  | @dK a kvs ea =>
    cases (show u = Value.ref a from rx)
    obtain ⟨_, _, vs, _, p⟩ := (show ObjOk X.prog X.w H s.heap a (.dK kvs) from I.hok a _ ea)
    obtain ⟨o, es, ep, h1, h2, _⟩ := p
    exact PySem.W.kia_one PySem.W.kitx_dict I.kIn ⟨o, h1, h2.1⟩ e (fun z => nomatch z) h
  | @dT a kvs ea =>
    cases (show u = Value.ref a from rx)
    obtain ⟨_, _, xs, _, o, es, ep, h1, h2, _⟩ := (show ObjOk X.prog X.w H s.heap a (.dT kvs) from I.hok a _ ea)
    exact PySem.W.kia_one PySem.W.kitx_dict I.kIn ⟨o, h1, h2.1⟩ e (fun z => nomatch z) h
  | @ins a C dx fs ea cl ha hn htk hm =>
    cases (show u = Value.ref a from rx)
    obtain ⟨mA, O, _⟩ := ins_get I.hok ea
    obtain ⟨od, J, _⟩ := O.look
    exact PySem.W.kia_one (PySem.W.kitx_own (cl.get _) cl.hd ha hn htk hm) I.kIn J e (fun z => nomatch z) h
end
open PySem PySem.Spec PyProof.Rows
structure Room (k : Nat) (A : Around) : Prop where
  hd : A.handled = none
  dp : A.depth + 3 * k + 5 < recursionLimit
  un : A.units + 16 * k + 200 < cLine
theorem Room.mono {j k : Nat} {A : Around} (r : Room k A) (h : j ≤ k) : Room j A := ⟨r.hd, by have := r.dp; omega, by have := r.un; omega⟩
theorem Room.deeper {k : Nat} {A : Around} (r : Room (k + 1) A) (env : Env) : Room k (A.deeper env) :=
  ⟨r.hd, by have := r.dp; show A.depth + 1 + 3 * k + 5 < _; omega, by have := r.un; show A.units + 3 + 16 * k + 200 < _; omega⟩
theorem make_depth {A : Around} {C : Addr} {us : List Value} {kw : List (Str × Value)} : (A.under (.builtin "type.__call__" ⟨.ref C :: us, kw⟩)).depth = A.depth + 1 := by
  first | rfl | simp [Around.under, Code.weight, Code.isCreation, Code.isGuard, Code.isCaller, Code.frames, Code.isFrame, guardIds]
theorem make_units {A : Around} {C : Addr} {us : List Value} {kw : List (Str × Value)} : (A.under (.builtin "type.__call__" ⟨.ref C :: us, kw⟩)).units = A.units + 1 := by
  first | rfl | simp [Around.under, Code.cUnits, Code.frames, Code.isFrame]
theorem Room.make {k : Nat} {A : Around} (r : Room (k + 1) A) (C : Addr) (us : List Value) (kw : List (Str × Value)) : Room k (A.under (.builtin "type.__call__" ⟨.ref C :: us, kw⟩)) :=
  ⟨r.hd, by have := r.dp; rw [make_depth]; omega, by have := r.un; rw [make_units]; omega⟩
theorem Room.depth {k : Nat} {A : Around} (r : Room k A) : A.depth < recursionLimit := by have := r.dp; omega
theorem Room.units {k : Nat} {A : Around} (r : Room k A) : A.units + 64 < cLine := by have := r.un; omega
theorem Room.units0 {k : Nat} {A : Around} (r : Room k A) : A.units < cLine := by have := r.un; omega
def tNil : TA := fun _ H Q => Q [] H
def tCons (ta : TE) (tr : TA) : TA := fun σ H Q => ta σ H fun x H1 => tr σ H1 fun xs H2 => Q (x :: xs) H2
section
variable {X : Cx} {e : Expr} {es : List Expr} {te : TE} {t : TA} {pos : Pos}
theorem pa_nil : PA X [] tNil := fun _ _ _ _ H Q I h => Calls.spliced_nil ⟨[], H, I, .nil, h⟩
theorem pa_cons (ha : PE X e te) (hr : PA X es t) (hs : starEach (e :: es) X.env = (false, eval e X.env) :: starEach es X.env := by rfl) : PA X (e :: es) (tCons te t) := by
  intro pos pins s σ H Q I h
  rw [hs]
  show wpAny _ _ (spliced ((false, eval e X.env) :: backTo pos (starEach es X.env))) _ _ s
  refine Calls.spliced_cons (thn (ha pins s σ H _ I h) fun u s1 ⟨x, H1, I1, r1, q1⟩ => ?_)
  exact thn (hr pos pins s1 σ H1 _ I1 q1) fun us s2 ⟨xs, H2, I2, r2, q2⟩ => ⟨x :: xs, H2, I2, .cons r1 r2, q2⟩
def tTup (t : TA) : TE := fun σ H Q => t σ H fun xs H1 => xs.length ≤ sizeLine ∧ ∀ p, H1 p = none → Q (.ref p) (upd H1 p (.tup xs))
def tLst (t : TA) : TE := fun σ H Q => t σ H fun xs H1 => xs.length ≤ sizeLine ∧ ∀ p, H1 p = none → Q (.ref p) (upd H1 p (.lst xs))
theorem pe_tup {x1} (h : PA X es t) : PE X (.Tuple es x1 pos) (tTup t) := by
  intro pins s σ H Q I hq
  refine wpAny_Tuple_spliced (thn (h pos pins s σ H _ I hq) fun us s1 ⟨xs, H1, I1, r, z, q⟩ => ⟨by rw [← r.length]; exact z, ?_⟩)
  have hf : H1 s1.heap.objs.size = none := I1.hok.fresh (Nat.le_refl _)
  refine ⟨.ref s1.heap.objs.size, upd H1 s1.heap.objs.size (.tup xs), I1.laid (t' := s1.toks) (fun b u e => Heap.get?_push_of_some _ e) (Nat.le_refl _) ?_, rfl, q _ hf⟩
  exact ⟨z, us, r, ⟨_, Heap.get?_push_size _ rfl, rfl, _, rfl⟩⟩
theorem pe_lst (h : PA X es t) : PE X (.List es pos) (tLst t) := by
  intro pins s σ H Q I hq
  refine wpAny_List_spliced (thn (h pos pins s σ H _ I hq) fun us s1 ⟨xs, H1, I1, r, z, q⟩ => ⟨by rw [← r.length]; exact z, ?_⟩)
  have hf : H1 s1.heap.objs.size = none := I1.hok.fresh (Nat.le_refl _)
  refine ⟨.ref s1.heap.objs.size, upd H1 s1.heap.objs.size (.lst xs), I1.laid (t' := s1.toks) (fun b u e => Heap.get?_push_of_some _ e) (Nat.le_refl _) ?_, rfl, q _ hf⟩
  exact ⟨z, us, 0, r, Heap.get?_push_size _ rfl⟩
end
abbrev Sp := List V → Hp → VK → XK → Prop
abbrev CXT := List Env → Hp → Shared → XK → Value → Shared → Prop
structure Env0 (P : Program) (w : World) (K : PySem.W.Frag) (mg : Str → Option Value) (base : Heap) (A : Around) (outer : List Env) (s : Shared) (H : Hp) : Prop where
  frames : A.frames = some outer
  mod : Mod K mg base
  bs : ∀ b o, base.get? b = some o → s.heap.get? b = some o ∧ H b = none
  bsz : base.objs.size ≤ s.heap.objs.size
  funs : s.heap.FunFrames base outer
  frf : ∀ b ∈ frs outer, H b = none
  hok : HOk P w H s.heap
  bare : AllBare s.gens
def CE (outer : List Env) (P : Program) (w : World) (H : Hp) (s : Shared) (Q : VK) (u : Value) (s' : Shared) : Prop :=
  ∃ v H', s'.os = s.os ∧ AllBare s'.gens ∧ Un (frs outer) [] H H' s.heap s'.heap ∧ HOk P w H' s'.heap ∧ RelV v u ∧ Q v H'
def CR (CX : CXT) (outer : List Env) (P : Program) (w : World) (H : Hp) (s : Shared) (Q : VK) (E : XK) (r : Result) (s' : Shared) : Prop :=
  match r with
  | .ok (.ret u) => CE outer P w H s Q u s'
  | .ok _ => False
  | .error e => CX outer H s E e s'
structure FnOk (P : Program) (w : World) (K : PySem.W.Frag) (mg : Str → Option Value) (base : Heap) (CX : CXT) (k : Nat) (f : Addr) (fd : FuncData) (ps : List Str) (sp : Sp) : Prop where
  len : ∀ vs H Q E, sp vs H Q E → vs.length = ps.length
  run : ∀ (A : Around) (outer : List Env) (s : Shared) (H : Hp) (args : Args) (us : List Value) (vs : List V) (Q : VK) (E : XK), Room k A → Env0 P w K mg base A outer s H → BindsTo s fd args (ps.zip us) → Vals vs us → sp vs H Q E →
    codeAny (model P w) A (.call (.ref f) args) (CR CX outer P w H s Q E) s
theorem FnOk.mono {P : Program} {w : World} {K : PySem.W.Frag} {mg : Str → Option Value} {base : Heap} {CX : CXT} {j k : Nat} {f : Addr} {fd : FuncData} {ps : List Str} {sp : Sp} (F : FnOk P w K mg base CX j f fd ps sp) (h : j ≤ k) :
    FnOk P w K mg base CX k f fd ps sp := ⟨F.len, fun A outer s H args us vs Q E hr => F.run A outer s H args us vs Q E (hr.mono h)⟩
theorem Env0.make {P : Program} {w : World} {K : PySem.W.Frag} {mg : Str → Option Value} {base : Heap} {A : Around} {outer : List Env} {s : Shared} {H : Hp} (e : Env0 P w K mg base A outer s H) (C : Addr) (us : List Value) (kw : List (Str × Value)) :
    Env0 P w K mg base (A.under (.builtin "type.__call__" ⟨.ref C :: us, kw⟩)) outer s H := ⟨by first | exact e.frames | (simpa [Around.under, Code.envs, Code.isFrame, pushEnvs] using e.frames), e.mod, e.bs, e.bsz, e.funs, e.frf, e.hok, e.bare⟩
section
variable {X : Cx} {pins : List (Addr × Obj)} {σ : St} {H : Hp} {s s' : Shared}
theorem Inv.env0 (I : Inv X pins σ H s) : Env0 X.prog X.w X.K X.mg X.base X.A X.stack s H :=
  ⟨I.ok.frames, I.ok.mod, I.bs, Nat.le_trans I.ok.bsz I.sz, I.stack, I.stkFree, I.hok, I.bare⟩
theorem Inv.after {Q : VK} {u : Value} (I : Inv X pins σ H s) (h : CE X.stack X.prog X.w H s Q u s') : EP X pins σ Q u s' := by
  obtain ⟨v, H', os, bare, un, hok, r, q⟩ := h
  obtain ⟨hh, g, d, t, os'⟩ := s'
  obtain rfl : os' = s.os := os
  exact ⟨v, H', I.call (h' := hh) (g' := g) (d' := d) (t' := t) (ch := []) un hok bare (fun b z => absurd z (by simp)), r, q⟩
end
def tCall (sp : Sp) (dvs : List V) (E : XK) (t : TA) : TE := fun σ H Q => t σ H fun vs H1 => sp (vs ++ dvs) H1 Q E
def tMeth (C : Addr) (m : Str) (sp : Sp) (dvs : List V) (E : XK) (ta : TE) (t : TA) : TE := fun σ H Q => ta σ H fun x H1 => ∃ a dx fs, x = .ref a ∧ H1 a = some (.ins C dx fs) ∧ fs.lookup m = none ∧
  t σ H1 fun vs H2 => sp (x :: (vs ++ dvs)) H2 Q E
def tMake (C : Addr) (sp : Sp) (dvs : List V) (E : XK) (t : TA) : TE := fun σ H Q => t σ H fun vs H1 => ∀ x dx, H1 x = none → H1 dx = none → dx ≠ x →
  sp (.ref x :: (vs ++ dvs)) (upd (upd H1 dx (.own x)) x (.ins C dx [])) (fun v H2 => v = .non ∧ Q (.ref x) H2) E
def Binds (K : PySem.W.Frag) (fd : FuncData) (ps : List Str) (ds : List Value) : Prop :=
  ∀ (s : Shared) (us : List Value), K.In s.heap → (us ++ ds).length = ps.length → BindsTo s fd ⟨us, []⟩ (ps.zip (us ++ ds))
theorem Binds.all {K : PySem.W.Frag} {fd : FuncData} {ps : List Str} (h : ∀ us : List Value, us.length = ps.length → bindArgs fd ⟨us, []⟩ = pure (ps.zip us)) : Binds K fd ps [] := fun s us _ hl => by
  rw [List.append_nil] at hl ⊢
  exact .of_eq (h us hl)
def Passes (CX : CXT) (X : Cx) (E : XK) : Prop := ∀ (pins : List (Addr × Obj)) (σ : St) (H : Hp) (s : Shared) (e : Value) (s' : Shared), Inv X pins σ H s → CX X.stack H s E e s' → X.xe e s'
section
variable {X : Cx} {CX : CXT} {k : Nat} {f C : Addr} {fd : FuncData} {ps : List Str} {sp : Sp} {dvs : List V} {ds : List Value} {E : XK} {x m : Str} {p pos apos : Pos} {e o : Expr} {es : List Expr} {ta : TE} {t : TA}
theorem run_fn {pins : List (Addr × Obj)} {σ : St} {H : Hp} {s : Shared} {Q : VK} {us : List Value} {vs : List V} (F : FnOk X.prog X.w X.K X.mg X.base CX k f fd ps sp) (hr : Room k X.A) (hb : Binds X.K fd ps ds) (hd : Vals dvs ds) (hx : Passes CX X E)
    (I : Inv X pins σ H s) (r : Vals vs us) (h : sp (vs ++ dvs) H Q E) : wpAny (model X.prog X.w) X.A (call (.ref f) us) (EP X pins σ Q) X.xe s := by
  have r2 : Vals (vs ++ dvs) (us ++ ds) := r.append hd
  have hl : (us ++ ds).length = ps.length := by rw [← r2.length]; exact F.len _ _ _ _ h
  refine wpAny_call (codeAny_mono (F.run X.A X.stack s H ⟨us, []⟩ (us ++ ds) (vs ++ dvs) Q E hr I.env0 (hb s us I.kIn hl) r2 h) fun r s' hq => ?_)
  cases r with
  | error e => exact hx pins σ H s e s' I hq
  | ok fl =>
    cases fl with
    | ret u => exact I.after hq
    | next => exact False.elim hq
    | brk => exact False.elim hq
    | cont => exact False.elim hq
theorem pe_call (F : FnOk X.prog X.w X.K X.mg X.base CX k f fd ps sp) (hr : Room k X.A) (hg : Gl X x) (hm : X.mg x = some (.ref f)) (hk : PySem.W.keepIn X.K (.ref f) = true) (hb : Binds X.K fd ps ds) (hd : Vals dvs ds) (hx : Passes CX X E)
    (ha : PA X (e :: es) t) (hdb : (x == ("__debug__" : Str)) = false := by decide) (he : starEach (e :: es) X.env = (false, eval e X.env) :: starEach es X.env := by rfl) (hpl : (backTo pos (starEach es X.env)).any (·.1) = false := by rfl) :
    PE X (.Call (.Name x p) (e :: es) [] pos) (tCall sp dvs E t) := by
  intro pins s σ H Q I h
  refine wpAny_Call_Name_kw (ld_glob I hg hm ?_ hdb)
  refine PySem.W.callWith_K (h₀ := X.base) I.ok.mod.kin hk (thn (ha pos pins s σ H _ I h) fun us s1 ⟨vs, H1, I1, r, q⟩ => ⟨I1.kIn, ?_⟩) he hpl
  exact run_fn F hr hb hd hx I1 r q
theorem pe_meth0 {pl : Sem Bool} (he : PE X o ta) (c : Cls X.K C) (hm : Meth X.K C m f) (F : FnOk X.prog X.w X.K X.mg X.base CX k f fd ps sp) (hr : Room k X.A) (hb : Binds X.K fd ps ds) (hd : Vals dvs ds) (hx : Passes CX X E)
    (ht : eval (.Call (.Attribute o m apos) [] [] pos) X.env = (do
      let ov ← eval o X.env
      standAt apos.atName
      let (f, first) ← holding [ov] (getMethod ov m pl)
      callWith pos f first (backTo pos (starEach [] X.env)) (backToKw pos (keywordEach [] X.env))) := by rfl) :
    PE X (.Call (.Attribute o m apos) [] [] pos) (tMeth C m sp dvs E ta tNil) := by
  intro pins s σ H Q I h
  refine PySem.W.methodCall_KW (pl := pl) (thn (he pins s σ H _ I h) fun u s1 ⟨x, H1, I1, rx, a, dx, fs, ex, ea, l, q⟩ => ?_) ht
  subst ex
  obtain rfl : u = Value.ref a := rx
  refine getmeth_ok I1 ea c hm l ?_
  exact PySem.W.callWith_K0 (first := [.ref a]) I1.kIn hm.kp (run_fn (us := [.ref a]) (vs := [.ref a]) F hr hb hd hx I1 (.cons rfl .nil) q)
structure Mk (K : PySem.W.Frag) (C f : Addr) : Prop where
  makes : PySem.W.makesIn K C = true
  init : PySem.W.findIn K (.ref C) "__init__" = some (some (.ref f))
  fn : PySem.W.isFn K (.ref f) = true
  kp : PySem.W.keepIn K (.ref C) = true
theorem run_make {pins : List (Addr × Obj)} {σ : St} {H : Hp} {s : Shared} {Q : VK} {us : List Value} {vs : List V} (M : Mk X.K C f) (F : FnOk X.prog X.w X.K X.mg X.base CX k f fd ps sp) (hr : Room (k + 1) X.A) (hb : Binds X.K fd ps ds) (hd : Vals dvs ds)
    (hx : Passes CX X E) (I : Inv X pins σ H s) (r : Vals vs us)
    (h : ∀ x dx, H x = none → H dx = none → dx ≠ x → sp (.ref x :: (vs ++ dvs)) (upd (upd H dx (.own x)) x (.ins C dx [])) (fun v H2 => v = .non ∧ Q (.ref x) H2) E) :
    wpAny (model X.prog X.w) X.A (call (.ref C) us) (EP X pins σ Q) X.xe s := by
  have hq := h (s.heap.objs.size + 1) s.heap.objs.size (I.hok.fresh (Nat.le_succ _)) (I.hok.fresh (Nat.le_refl _)) (Nat.ne_of_lt (Nat.lt_succ_self _))
  have I2 := Inv.made (C := C) I
  have r2 : Vals (V.ref (s.heap.objs.size + 1) :: (vs ++ dvs)) (Value.ref (s.heap.objs.size + 1) :: (us ++ ds)) := .cons rfl (r.append hd)
  have hl : (Value.ref (s.heap.objs.size + 1) :: us ++ ds).length = ps.length := by
    have e := r2.length
    rw [F.len _ _ _ _ hq] at e
    exact e.symm
  refine wpAny_call (make_map (f := f) I.kIn M.makes M.init (beq_iff_eq.mp M.fn) (codeAny_mono (F.run _ X.stack _ _ ⟨Value.ref (s.heap.objs.size + 1) :: us, []⟩ (Value.ref (s.heap.objs.size + 1) :: (us ++ ds)) _ _ E (hr.make C us [])
    (I2.env0.make C us []) (hb _ (Value.ref (s.heap.objs.size + 1) :: us) I2.kIn hl) r2 hq) fun r s' hq' => ?_))
  cases r with
  | error e => exact hx pins σ _ _ e s' I2 hq'
  | ok fl =>
    cases fl with
    | ret u =>
      obtain ⟨v, H', I3, rv, ev, q3⟩ := I2.after hq'
      subst ev
      exact ⟨rv, ⟨V.ref (s.heap.objs.size + 1), H', I3, rfl, q3⟩⟩
    | next => exact False.elim hq'
    | brk => exact False.elim hq'
    | cont => exact False.elim hq'
theorem pe_make (M : Mk X.K C f) (F : FnOk X.prog X.w X.K X.mg X.base CX k f fd ps sp) (hr : Room (k + 1) X.A) (hg : Gl X x) (hm : X.mg x = some (.ref C)) (hb : Binds X.K fd ps ds) (hd : Vals dvs ds) (hx : Passes CX X E)
    (ha : PA X (e :: es) t) (hdb : (x == ("__debug__" : Str)) = false := by decide) (he : starEach (e :: es) X.env = (false, eval e X.env) :: starEach es X.env := by rfl) (hpl : (backTo pos (starEach es X.env)).any (·.1) = false := by rfl) :
    PE X (.Call (.Name x p) (e :: es) [] pos) (tMake C sp dvs E t) := by
  intro pins s σ H Q I h
  refine wpAny_Call_Name_kw (ld_glob I hg hm ?_ hdb)
  refine PySem.W.callWith_K (h₀ := X.base) I.ok.mod.kin M.kp (thn (ha pos pins s σ H _ I h) fun us s1 ⟨vs, H1, I1, r, q⟩ => ⟨I1.kIn, ?_⟩) he hpl
  exact run_make M F hr hb hd hx I1 r q
end
def PK (X : Cx) (kws : List Keyword) (t : TA) : Prop :=
  ∀ (pos : Pos) (pins : List (Addr × Obj)) (s : Shared) (σ : St) (H : Hp) (Q : List V → Hp → Prop), Inv X pins σ H s → t σ H Q → wpAny (model X.prog X.w) X.A (evalAll ((backToKw pos (keywordEach kws X.env)).map (·.2))) (AP X pins σ Q) X.xe s
section
variable {X : Cx} {CX : CXT} {k : Nat} {f C : Addr} {fd : FuncData} {ps ks : List Str} {sp : Sp} {E : XK} {x m : Str} {p pos apos kpos : Pos} {e o : Expr} {es : List Expr} {kws : List Keyword} {te ta : TE} {t tk : TA} {nm : Option Str}
structure KBinds (K : PySem.W.Frag) (fd : FuncData) (ps ks : List Str) (g : List Value → List Value → List Value) (gV : List V → List V → List V) : Prop where
  to : ∀ (s : Shared) (us ws : List Value), K.In s.heap → (g us ws).length = ps.length → BindsTo s fd ⟨us, ks.zip ws⟩ (ps.zip (g us ws))
  rel : ∀ {vs : List V} {us : List Value} {zs : List V} {ws : List Value}, Vals vs us → Vals zs ws → Vals (gV vs zs) (g us ws)
def tCallK (sp : Sp) (gV : List V → List V → List V) (E : XK) (t tk : TA) : TE := fun σ H Q => t σ H fun vs H1 => tk σ H1 fun zs H2 => sp (gV vs zs) H2 Q E
variable {g : List Value → List Value → List Value} {gV : List V → List V → List V}
end
structure FnScope (N P : List Str) (sc : Scope) : Prop where
  kind : sc.kind = .function
  co : sc.isCoroutine = false
  gen : sc.isGenerator = false
  nd : N.Nodup
  pre : N.take P.length = P
  par : ∀ x ∈ P, sc.names.lookup x = some .local ∨ sc.names.lookup x = some .cell
  nofree : ∀ y ∈ sc.names, y.2 ≠ .free
theorem bindL_out {kindOf : Str → Option NameKind} {x : Str} : ∀ {binds : List (Str × Value)} {m : Str → Option Value}, (∀ v, (x, v) ∉ binds) → bindL kindOf binds m x = m x
  | [], _, _ => rfl
  | (n, v) :: r, m, h => by
    unfold bindL
    rw [bindL_out fun w hw => h w (List.mem_cons_of_mem _ hw)]
    split
    · have : x ≠ n := by rintro rfl; exact h v List.mem_cons_self
      simp [this]
    · rfl
theorem bindC_out {kindOf : Str → Option NameKind} {x : Str} : ∀ {binds : List (Str × Value)} {m : Str → Option Value}, (∀ v, (x, v) ∉ binds) → bindC kindOf binds m x = m x
  | [], _, _ => rfl
  | (n, v) :: r, m, h => by
    unfold bindC
    rw [bindC_out fun w hw => h w (List.mem_cons_of_mem _ hw)]
    split
    · rfl
    · have : x ≠ n := by rintro rfl; exact h v List.mem_cons_self
      simp [this]
theorem bindL_get {kindOf : Str → Option NameKind} {x : Str} {v : Value} : ∀ {P : List Str} {vs : List Value} {i : Nat} {m : Str → Option Value}, P.Nodup → P[i]? = some x → vs[i]? = some v → kindOf x = some .local →
    bindL kindOf (P.zip vs) m x = some v
  | [], _, _, _, _, h, _, _ => by simp at h
  | _ :: _, [], _, _, _, _, h, _ => by simp at h
  | p :: P, w :: vs, 0, m, nd, h1, h2, hk => by
    simp at h1 h2; subst h1; subst h2
    show bindL kindOf ((p, w) :: P.zip vs) m p = _
    unfold bindL
    rw [bindL_out fun v hv => (List.nodup_cons.mp nd).1 (List.of_mem_zip hv).1, if_pos hk]
    simp
  | p :: P, w :: vs, i + 1, m, nd, h1, h2, hk => by
    show bindL kindOf ((p, w) :: P.zip vs) m x = _
    unfold bindL
    exact bindL_get (i := i) (List.nodup_cons.mp nd).2 (by simpa using h1) (by simpa using h2) hk
theorem bindC_get {kindOf : Str → Option NameKind} {x : Str} {v : Value} : ∀ {P : List Str} {vs : List Value} {i : Nat} {m : Str → Option Value}, P.Nodup → P[i]? = some x → vs[i]? = some v → kindOf x ≠ some .local →
    bindC kindOf (P.zip vs) m x = some v
  | [], _, _, _, _, h, _, _ => by simp at h
  | _ :: _, [], _, _, _, _, h, _ => by simp at h
  | p :: P, w :: vs, 0, m, nd, h1, h2, hk => by
    simp at h1 h2; subst h1; subst h2
    show bindC kindOf ((p, w) :: P.zip vs) m p = _
    unfold bindC
    rw [bindC_out fun v hv => (List.nodup_cons.mp nd).1 (List.of_mem_zip hv).1, if_neg hk]
    simp
  | p :: P, w :: vs, i + 1, m, nd, h1, h2, hk => by
    show bindC kindOf ((p, w) :: P.zip vs) m x = _
    unfold bindC
    exact bindC_get (i := i) (List.nodup_cons.mp nd).2 (by simpa using h1) (by simpa using h2) hk
def start (N : List Str) (vs : List V) : St := vs.map some ++ List.replicate (N.length - vs.length) none
def cxOf (CX : CXT) (P : Program) (w : World) (K : PySem.W.Frag) (mg : Str → Option Value) (base : Heap) (N : List Str) (qual : Str) (scope : Scope) (f : Addr) (cd : Value) (A : Around) (outer : List Env) (s : Shared) (H : Hp) (E : XK) : Cx where
  prog := P
  w := w
  K := K
  mg := mg
  base := base
  A := A.deeper (envOfC qual scope s.heap.objs.size f cd)
  N := N
  s₀ := s
  H₀ := H
  env := envOfC qual scope s.heap.objs.size f cd
  outer := outer
  stack := envOfC qual scope s.heap.objs.size f cd :: outer
  ex := []
  calm := true
  fn := fun _ => true
  pn := []
  xe := fun e s' => wpAny (model P w) (A.deeper (envOfC qual scope s.heap.objs.size f cd)) (leaving (envOfC qual scope s.heap.objs.size f cd) e) (fun _ s'' => CX outer H s E e s'') (fun e' s'' => CX outer H s E e' s'') s'
theorem cell_has {sc : Scope} {n : Nat} {x : Str} (h : sc.names.lookup x = some .cell) : ∃ c, (cellsFrom n sc.names []).lookup x = some c := by
  have q := PySem.W.cellsFrom_some sc.names n [] (.inl h)
  exact Option.isSome_iff_exists.mp q
theorem inv_start {CX : CXT} {P : Program} {w : World} {K : PySem.W.Frag} {mg : Str → Option Value} {base : Heap} {N ps : List Str} {qual : Str} {scope : Scope} {f : Addr} {cd : Value} {A : Around} {outer : List Env} {s s1 : Shared} {H : Hp} {E : XK} {us : List Value} {vs : List V}
    (S : FnScope N ps scope) (hd : A.handled = none) (e0 : Env0 P w K mg base A outer s H) (hl : vs.length = ps.length) (r : Vals vs us)
    (x : InCallC s s.heap.objs.size (bindL (envOfC qual scope s.heap.objs.size f cd).kindOf (ps.zip us) fun _ => none) (cellsFrom (s.heap.objs.size + 1) scope.names []) (bindC (envOfC qual scope s.heap.objs.size f cd).kindOf (ps.zip us) fun _ => none) s1) :
    Inv (cxOf CX P w K mg base N qual scope f cd A outer s H E) [] (start N vs) H s1 := by
  have hpl : ps.length ≤ N.length := by have := congrArg List.length S.pre; rw [List.length_take] at this; omega
  obtain ⟨h1, tk, rfl, hk⟩ := x.done
  have noA : ∀ b : Addr, b ∉ (cxOf CX P w K mg base N qual scope f cd A outer s H E).ex := fun b z => absurd (show b ∈ ([] : List Addr) from z) (by simp)
  refine ⟨⟨e0.mod, S.kind, rfl, rfl, Nat.le_refl _, fun y z c h1 h2 => ?_, fun y hy => ?_, fun y c _ h => ?_, fun _ => hd, Around.frames_deeper e0.frames, .inr ⟨rfl, rfl⟩, fun b z => absurd z (noA b), e0.bs, e0.bsz, fun b _ _ => noA b, fun b z => absurd z (noA b), e0.funs, e0.frf⟩,
    rfl, e0.bare, Un.kept hk, ⟨_, x.toInCall.ns, fun i y v h1 h2 h3 => ?_⟩, fun y c h => ⟨_, x.cell y c h⟩, e0.hok.fresh (Nat.le_refl _), fun y c h => ?_, fun p hp => absurd (show p ∈ ([] : List (Addr × Obj)) from hp) (by simp), e0.hok.kept hk, ?_⟩
  · exact name_of_addr x.apart (PySem.mem_of_lookup h1) (PySem.mem_of_lookup h2)
  · have hy : scope.names.lookup y = some .cell ∨ scope.names.lookup y = some .free := hy
    rcases hy with hy | hy
    · exact cell_has hy
    · exact absurd rfl (S.nofree _ (PySem.mem_of_lookup hy))
  · exact Nat.le_of_lt (x.above y c (PySem.mem_of_lookup h))
  · have hi : i < vs.length := by
      unfold start at h2
      by_cases hi : i < vs.length
      · exact hi
      · rw [List.getElem?_append_right (by simpa using hi)] at h2
        rw [List.getElem?_replicate] at h2
        split at h2 <;> cases h2
    have ha : vs[i]? = some v := by
      unfold start at h2
      rw [List.getElem?_append_left (by simpa using hi), List.getElem?_map] at h2
      cases e : vs[i]? with
      | none => rw [e] at h2; cases h2
      | some a => rw [e] at h2; cases h2; rfl
    obtain ⟨u, hu, rv⟩ := r.get ha
    have hp : ps[i]? = some y := by
      rw [← S.pre, List.getElem?_take_of_lt (by omega)]; exact h1
    have ndP : ps.Nodup := by rw [← S.pre]; exact S.nd.sublist (List.take_sublist _ _)
    refine ⟨u, rv, ?_⟩
    rcases S.par y (List.mem_of_getElem? hp) with k | k
    · exact .inl ⟨k, bindL_get ndP hp hu k⟩
    · obtain ⟨c, e⟩ := cell_has (n := s.heap.objs.size + 1) k
      refine .inr ⟨.inl k, c, e, ?_⟩
      have q := x.cell y c e
      rw [bindC_get ndP hp hu (by show scope.names.lookup y ≠ _; rw [k]; decide)] at q
      exact q
  · exact e0.hok.fresh (Nat.le_of_lt (x.above y c (PySem.mem_of_lookup h)))
  · unfold start
    show _ = N.length
    rw [List.length_append, List.length_map, List.length_replicate]
    omega
theorem fn_of {CX : CXT} {P : Program} {w : World} {K : PySem.W.Frag} {mg : Str → Option Value} {base : Heap} {k : Nat} {f : Addr} {name qual : Str} {params : Arguments} {body : List Stmt} {scope : Scope} {dV kV doc pm cdv ct oc : Value} {an od : Option Addr}
    {osl : Array (Option Value)} {N ps : List Str} {sp : Sp} (lk : K.lookup f = some ⟨oc, od, .func (PySem.W.fnOf name qual params body scope dV kV doc pm an cdv ct), osl⟩) (hcd : PySem.W.codeIn K cdv qual = true) (S : FnScope N ps scope)
    (len : ∀ vs H Q E, sp vs H Q E → vs.length = ps.length)
    (hbody : ∀ (A : Around) (outer : List Env) (s : Shared) (H : Hp) (vs : List V) (Q : VK) (E : XK), Room k (A.deeper (envOfC qual scope s.heap.objs.size f cdv)) → sp vs H Q E →
      ∃ t, PSs (cxOf CX P w K mg base N qual scope f cdv A outer s H E) body t ∧ t { nx := fun _ H' => Q .non H', rt := Q } (start N vs) H) :
    FnOk P w K mg base CX (k + 1) f (PySem.W.fnOf name qual params body scope dV kV doc pm an cdv ct) ps sp := by
  refine ⟨len, fun A outer s H args us vs Q E hr e0 hb r hsp => ?_⟩
  have hl := len _ _ _ _ hsp
  have KX : K.In s.heap := e0.mod.kin.keeps fun b o e => (e0.bs b o e).1
  have lim : s.heap.NoLimit := e0.mod.nolimit.keeps fun b o e => (e0.bs b o e).1
  have hkind : ∀ y ∈ ps.zip us, scope.names.lookup y.1 = some .local ∨ (scope.names.lookup y.1 = some .cell ∧ ((cellsFrom (s.heap.objs.size + 1) scope.names []).lookup y.1).isSome = true) := fun ⟨n, v⟩ hy => by
    rcases S.par n (List.of_mem_zip hy).1 with q | q
    · exact .inl q
    · exact .inr ⟨q, PySem.W.cellsFrom_some _ _ _ (.inl q)⟩
  refine codeAny_call_function hr.depth (KX _ _ lk) rfl S.co S.gen rfl (PySem.W.codeRec_of KX hcd) (hb _ _ _ _ ?_)
  refine wpAny_newFunctionEnv_cells S.kind hkind fun env he s1 x => ?_
  subst he
  refine ⟨lim.keeps x.toInCall.keep, codeAny_func ?_⟩
  obtain ⟨t, ht, hq⟩ := hbody A outer s H vs Q E (hr.deeper _) hsp
  have I : Inv (cxOf CX P w K mg base N qual scope f cdv A outer s H E) [] (start N vs) H s1 := inv_start S hr.hd e0 hl r x
  refine wpAny_mono (ht [] s1 (start N vs) H _ I hq) (fun fl s' hs => ?_) fun e s' hs => hs
  have fin : ∀ {σ' : St} {H' : Hp} {v : V} {u : Value}, Inv (cxOf CX P w K mg base N qual scope f cdv A outer s H E) [] σ' H' s' → RelV v u → Q v H' → CE outer P w H s Q u s' :=
    fun {σ' H' v u} J rv q => ⟨v, H', J.os, J.bare, J.base, J.hok, rv, q⟩
  cases fl with
  | ret u =>
    obtain ⟨v, σ', H', J, rv, q⟩ := hs
    exact fin J rv q
  | next =>
    obtain ⟨σ', H', J, q⟩ := hs
    exact fin (v := V.non) (u := Value.none) J rfl q
  | brk =>
    obtain ⟨_, _, _, q⟩ := hs
    exact False.elim q
  | cont =>
    obtain ⟨_, _, _, q⟩ := hs
    exact False.elim q
open PySem PySem.Spec PyProof.Rows
section
variable {X : Cx} {x : Str} {p pos : Pos} {e : Expr} {es : List Expr} {t : TA} {id T : String} {r : List V → Hp → VK → Prop}
def tCB (r : List V → Hp → VK → Prop) (t : TA) : TE := fun σ H Q => t σ H fun vs H1 => r vs H1 Q
theorem pe_callB (hc : CallR X (.builtin id) r) (hg : Gl X x) (hm : X.mg x = none) (hv : bootBuiltins x = some (.builtin id)) (ha : PA X (e :: es) t) (hn : x ≠ "__name__" := by decide) (hdb : (x == ("__debug__" : Str)) = false := by decide)
    (he : starEach (e :: es) X.env = (false, eval e X.env) :: starEach es X.env := by rfl) (hpl : (backTo pos (starEach es X.env)).any (·.1) = false := by rfl) : PE X (.Call (.Name x p) (e :: es) [] pos) (tCB r t) := by
  intro pins s σ H Q I h
  refine wpAny_Call_Name_kw (ld_blt I hg hm hv ?_ hn hdb)
  exact PyProof.Rows.callWith_builtin1 (thn (ha pos pins s σ H _ I h) fun us s1 ⟨vs, H1, I1, r1, q1⟩ => hc pins s1 σ H1 vs us Q I1 r1 q1) he hpl
theorem pe_callTy (hc : CallR X (.type T) r) (hg : Gl X x) (hm : X.mg x = none) (hv : bootBuiltins x = some (.type T)) (ha : PA X (e :: es) t) (hn : x ≠ "__name__" := by decide) (hdb : (x == ("__debug__" : Str)) = false := by decide)
    (he : starEach (e :: es) X.env = (false, eval e X.env) :: starEach es X.env := by rfl) (hpl : (backTo pos (starEach es X.env)).any (·.1) = false := by rfl) : PE X (.Call (.Name x p) (e :: es) [] pos) (tCB r t) := by
  intro pins s σ H Q I h
  refine wpAny_Call_Name_kw (ld_blt I hg hm hv ?_ hn hdb)
  exact PyProof.Rows.callWith_type1 (thn (ha pos pins s σ H _ I h) fun us s1 ⟨vs, H1, I1, r1, q1⟩ => hc pins s1 σ H1 vs us Q I1 r1 q1) he hpl
end
end L2
namespace HT
open PySem PyProof.Rows
def lexLt : List Int → List Int → Bool
  | [], [] => false
  | [], _ :: _ => true
  | _ :: _, [] => false
  | x :: xs, y :: ys => if x = y then lexLt xs ys else decide (x < y)
section
open PySem.SeqAt
open PySem.AutoSeq1 (wpAny_loadPart')
open PySem.MeetsSeq PySem.MeetsSeq2 PySem.MeetsSeq3
end
section
variable {prog : Program} {w : World} {A : Around} {E : Value → Shared → Prop} {s : Shared}
def sIx (n d : Nat) : Option Int → Nat
  | none => d
  | some v => if v < 0 then (v + (n : Int)).toNat else min v.toNat n
end
end HT
namespace L2
open PySem PySem.Spec PyProof.Rows
abbrev TO := St → Hp → (Option Int → Hp → Prop) → Prop
def PO (X : Cx) (e : Option Expr) (t : TO) : Prop :=
  ∀ (pins : List (Addr × Obj)) (s : Shared) (σ : St) (H : Hp) (Q : Option Int → Hp → Prop), Inv X pins σ H s → t σ H Q →
    wpAny (model X.prog X.w) X.A (evalPart e X.env) (fun u s' => ∃ o H', Inv X pins σ H' s' ∧ IsPart u o ∧ Q o H') X.xe s
def tNoPart : TO := fun _ H Q => Q none H
def tPart (t : TE) : TO := fun σ H Q => t σ H fun x H1 => ∃ i, x = .int i ∧ Q (some i) H1
theorem intsAre_of {ns : List Int} : ∀ {us : List Value}, Vals (ns.map V.int) us → IntsAre us ns := by
  induction ns with
  | nil => intro us r; rw [List.map_nil] at r; cases r; exact .nil
  | cons n ns ih =>
    intro us r
    rw [List.map_cons] at r
    cases r with
    | cons r1 r2 =>
      obtain ⟨t, e⟩ := r1
      subst e
      exact .cons n t (ih r2)
section
variable {X : Cx} {e : Expr} {te : TE} {lo hi : Option Expr} {tl th : TO} {pos p2 : Pos}
def SlR (X : Cx) (r : V → Option Int → Option Int → Hp → VK → Prop) : Prop :=
  ∀ (pins : List (Addr × Obj)) (s : Shared) (σ : St) (H : Hp) (x : V) (v vl vu : Value) (lo hi : Option Int) (sl : Addr) (Q : VK), Inv X pins σ H s → RelV x v → s.heap.IsSliceOf sl vl vu .none → IsPart vl lo → IsPart vu hi → r x lo hi H Q →
    ∃ T id, typeLookup (.type T) "__getitem__" = pure (some (.builtin id)) ∧ s.TypeIs v T ∧ wpAny (model X.prog X.w) X.A (getItem v (.ref sl)) (EP X pins σ Q) X.xe s
def tSl (r : V → Option Int → Option Int → Hp → VK → Prop) (te : TE) (tl th : TO) : TE := fun σ H Q => te σ H fun x H1 => tl σ H1 fun l H2 => th σ H2 fun u H3 => r x l u H3 Q
def cutV (xs : List V) (lo hi : Option Int) : List V := (xs.drop (HT.sIx xs.length 0 lo)).take (HT.sIx xs.length xs.length hi - HT.sIx xs.length 0 lo)
def rSlT (K : PySem.W.Frag) : V → Option Int → Option Int → Hp → VK → Prop := fun x lo hi H Q => ∃ a xs, x = .ref a ∧ SqT K H a xs ∧
  ¬ (HT.sIx xs.length 0 lo = 0 ∧ HT.sIx xs.length xs.length hi = xs.length) ∧ ∀ p, H p = none → Q (.ref p) (upd H p (.tup (cutV xs lo hi)))
def rLtT (K : PySem.W.Frag) : R2 := fun x y H Q => ∃ a b ns ms, x = .ref a ∧ y = .ref b ∧ SqT K H a (ns.map V.int) ∧ SqT K H b (ms.map V.int) ∧ Q (.bl (HT.lexLt ns ms)) H
def rCatT (K : PySem.W.Frag) : R2 := fun x y H Q => ∃ a b xs ys, x = .ref a ∧ y = .ref b ∧ SqT K H a xs ∧ SqT K H b ys ∧ xs ≠ [] ∧ xs.length + ys.length ≤ sizeLine ∧
  (ys = [] → Q (.ref a) H) ∧ (ys ≠ [] → ∀ p, H p = none → Q (.ref p) (upd H p (.tup (xs ++ ys))))
end
open PySem PySem.Spec PyProof.Rows
def ixN (n : Nat) (i : Int) : Option Nat := if 0 ≤ i then (if i < n then some i.toNat else none) else if -(n : Int) ≤ i then some (i + n).toNat else none
def atI {α : Type} (xs : List α) (i : Int) : Option α := (ixN xs.length i).bind fun j => xs[j]?
theorem ixN_seq {n : Nat} {i : Int} {j : Nat} (h : ixN n i = some j) : seqIndex? i n = some j ∧ j < n ∧ -(n : Int) ≤ i ∧ i < n := by
  unfold ixN at h
  by_cases h0 : 0 ≤ i
  · rw [if_pos h0] at h
    by_cases h1 : i < n
    · rw [if_pos h1] at h
      have e : i.toNat = j := Option.some.inj h
      exact ⟨by rw [seqIndex_of h0 h1, e], by omega, by omega, h1⟩
    · rw [if_neg h1] at h; cases h
  · rw [if_neg h0] at h
    by_cases h1 : -(n : Int) ≤ i
    · rw [if_pos h1] at h
      have e : (i + n).toNat = j := Option.some.inj h
      exact ⟨by rw [seqIndex_neg (by omega) h1, e], by omega, h1, by omega⟩
    · rw [if_neg h1] at h; cases h
theorem atI_get {α : Type} {xs : List α} {i : Int} {v : α} (h : atI xs i = some v) : ∃ j, seqIndex? i xs.length = some j ∧ xs[j]? = some v ∧ j < xs.length ∧ -(xs.length : Int) ≤ i ∧ i < xs.length := by
  unfold atI at h
  cases e : ixN xs.length i with
  | none => rw [e] at h; cases h
  | some j =>
    rw [e] at h
    obtain ⟨h1, h2, h3, h4⟩ := ixN_seq e
    exact ⟨j, h1, h, h2, h3, h4⟩
theorem atI_nat {α : Type} {xs : List α} {j : Nat} {v : α} (h : xs[j]? = some v) : atI xs (j : Int) = some v := by
  have hj : j < xs.length := (List.getElem?_eq_some_iff.mp h).1
  have e : ixN xs.length (j : Int) = some j := by
    unfold ixN
    rw [if_pos (by omega), if_pos (by omega)]; simp
  unfold atI; rw [e]; exact h
def PlainIx (b : Expr) : Prop := ∀ o i, subscripted b false o i = operate [o, i] (getItem o i)
def IxR (X : Cx) (r : R2) : Prop :=
  ∀ (value slice : Expr) (pins : List (Addr × Obj)) (s : Shared) (σ : St) (H : Hp) (x y : V) (v u : Value) (Q : VK), Inv X pins σ H s → RelV x v → RelV y u → r x y H Q →
    subscripted slice false v u = operate [v, u] (getItem v u) → wpAny (model X.prog X.w) X.A (subscriptTail value slice v u) (EP X pins σ Q) X.xe s
def MtR (X : Cx) (id : String) (r : V → List V → Hp → VK → Prop) : Prop :=
  ∀ (pins : List (Addr × Obj)) (s : Shared) (σ : St) (H : Hp) (x : V) (xs : List V) (v : Value) (us : List Value) (Q : VK), Inv X pins σ H s → RelV x v → Vals xs us → r x xs H Q →
    wpAny (model X.prog X.w) X.A (call (.builtin id) (v :: us)) (EP X pins σ Q) X.xe s
section
variable {X : Cx} {a b : Expr} {ta tb : TE} {pos : Pos}
theorem pe_ix {r : R2} (hr : IxR X r) (ha : PE X a ta) (hb : PE X b tb) (hs : PlainIx b) : PE X (.Subscript a b pos) (tOp r ta tb) := by
  intro pins s σ H Q I h
  exact Subscript_ (binT ha hb I h fun v u s2 x y H2 I2 rx ry q => hr a b pins s2 σ H2 x y v u Q I2 rx ry q (hs _ _))
def rIxL (K : PySem.W.Frag) : R2 := fun x y H Q => ∃ p xs i v, x = .ref p ∧ y = .int i ∧ SqL K H p xs ∧ atI xs i = some v ∧ Q v H
def rIxT (K : PySem.W.Frag) : R2 := fun x y H Q => ∃ p xs i v, x = .ref p ∧ y = .int i ∧ SqT K H p xs ∧ atI xs i = some v ∧ Q v H
def rIxS : R2 := fun x y H Q => ∃ z i c, x = .str z ∧ y = .int i ∧ z.length ≤ sizeLine ∧ atI z.cps.toList i = some c ∧ Q (.str ⟨#[c]⟩) H
theorem ix_list : IxR X (rIxL X.K) := by
  intro value slice pins s σ H x y v u Q I rx ry h hs
  obtain ⟨p, xs, i, z, rfl, rfl, hq, he, q⟩ := h
  cases rx
  obtain ⟨t, rfl⟩ := ry
  obtain ⟨its, r, pl, hz⟩ := I.list hq
  obtain ⟨j, h1, h2, h3, h4, h5⟩ := atI_get he
  obtain ⟨w, ew, rw'⟩ := r.get h2
  have hl := r.length
  have hn := line63
  have fin : EP X pins σ Q w s := ⟨z, H, I, rw', q⟩
  by_cases h0 : 0 ≤ i
  · have hj : i.toNat = j := by
      rw [seqIndex_of h0 h5] at h1
      exact Option.some.inj h1
    exact item_listR pl.isList h0 (by omega) (by rw [hj]; simpa using ew) fin hs
  · have hj : (i + (its.toArray.size : Int)).toNat = j := by
      rw [seqIndex_neg (by omega) h4] at h1
      rw [List.size_toArray, ← hl]
      exact Option.some.inj h1
    exact subscriptTail_builtinR (x := w) pl.isList.typeIs slot_list_getitem.lookup
      (wpAny_getItem_list_neg (Q := fun r s' => r = w ∧ EP X pins σ Q r s') pl.isList (by omega) (by rw [List.size_toArray] <;> omega) (by omega) (by rw [hj]; simpa using ew) ⟨rfl, fin⟩) hs
theorem ix_tup : IxR X (rIxT X.K) := by
  intro value slice pins s σ H x y v u Q I rx ry h hs
  obtain ⟨p, xs, i, z, rfl, rfl, hq, he, q⟩ := h
  cases rx
  obtain ⟨t, rfl⟩ := ry
  obtain ⟨its, r, pl, hz⟩ := I.tuple hq
  obtain ⟨j, h1, h2, h3, h4, h5⟩ := atI_get he
  obtain ⟨w, ew, rw'⟩ := r.get h2
  have hl := r.length
  have hn := line63
  have fin : EP X pins σ Q w s := ⟨z, H, I, rw', q⟩
  exact subscriptTail_builtinR (x := w) pl.typeIs slot_tuple_getitem.lookup
    (getItem_tuple (j := j) (Q := fun r s' => r = w ∧ EP X pins σ Q r s') pl (by omega) (by omega) (by rw [List.size_toArray, ← hl]; exact h1) (by simpa using ew) ⟨rfl, fin⟩) hs
theorem ix_str : IxR X rIxS := by
  intro value slice pins s σ H x y v u Q I rx ry h hs
  obtain ⟨z, i, c, rfl, rfl, hz, he, q⟩ := h
  obtain ⟨t, rfl⟩ := rx
  obtain ⟨t', rfl⟩ := ry
  obtain ⟨j, h1, h2, h3, h4, h5⟩ := atI_get he
  have hl : z.cps.toList.length = z.length := by simp [Str.length]
  rw [hl] at h1 h4 h5
  have hn := line63
  exact tail_any (typeIs_str s z t) slot_str_getitem.lookup (getItem_str (c := c) (by
    have e1 : decide (i < -(2 ^ 63 : Int)) = false := decide_eq_false (by omega)
    have e2 : decide (i ≥ 2 ^ 63) = false := decide_eq_false (by omega)
    rw [e1, e2, Bool.or_false]) (by rw [h1]; simpa using h2) ⟨.str ⟨#[c]⟩, H, I.tok _, ⟨_, rfl⟩, q⟩) hs
def rIx (K : PySem.W.Frag) : R2 := fun x y H Q => rIxL K x y H Q ∨ rIxT K x y H Q ∨ rIxS x y H Q
theorem mapSeq_set (its : List Value) (n j : Nat) (u : Value) : Obj.mapSeq (·.setIfInBounds j u) { cls := .type "list", data := .seq its.toArray n } = { cls := .type "list", data := .seq (its.set j u).toArray n } := by
  simp [Obj.mapSeq]
theorem Inv.lst {pins : List (Addr × Obj)} {σ : St} {H : Hp} {s : Shared} {p : Addr} {xs : List V} (I : Inv X pins σ H s) (h : H p = some (.lst xs)) :
    ∃ (its : List Value) (n : Nat), Vals xs its ∧ s.heap.get? p = some { cls := .type "list", data := .seq its.toArray n } ∧ xs.length ≤ sizeLine := by
  obtain ⟨z, its, n, r, e⟩ := I.hok p _ h
  exact ⟨its, n, r, e, z⟩
theorem Inv.lstUpd {pins : List (Addr × Obj)} {σ : St} {H : Hp} {s : Shared} {p : Addr} {xs ys : List V} {its its' : List Value} {n n' : Nat} {f : Obj → Obj} (I : Inv X pins σ H s) (h : H p = some (.lst xs))
    (ho : s.heap.get? p = some { cls := .type "list", data := .seq its.toArray n }) (hf : f { cls := .type "list", data := .seq its.toArray n } = { cls := .type "list", data := .seq its'.toArray n' }) (r : Vals ys its') (hz : ys.length ≤ sizeLine) (t : Nat) :
    Inv X pins σ (upd H p (.lst ys)) { s with heap := s.heap.update p f, toks := t } := by
  have e : (s.heap.update p f).get? p = some { cls := .type "list", data := .seq its'.toArray n' } := by
    rw [Heap.get?_update_self f ho (by rw [hf] <;> rfl), hf]
  refine I.write (x := p) (e := p) (by rw [h]; trivial) (.inl rfl) (fun b u hb q => (Heap.get?_update_other _ _ (Ne.symm hb)).trans q) ⟨_, e⟩ ?_
  exact ⟨hz, its', n', r, e⟩
def rSetL : V → V → V → Hp → (Hp → Prop) → Prop := fun o i v H Q => ∃ p xs k j, o = .ref p ∧ i = .int k ∧ H p = some (.lst xs) ∧ ixN xs.length k = some j ∧ Q (upd H p (.lst (xs.set j v)))
theorem set_list : PSet X rSetL := by
  intro pins s σ H o i v ov iv u Q I ro ri rv h
  obtain ⟨p, xs, k, j, rfl, rfl, hp, hj, q⟩ := h
  cases ro
  obtain ⟨t, rfl⟩ := ri
  obtain ⟨its, n, r, ho, hz⟩ := I.lst hp
  obtain ⟨h1, h2, h3, h4⟩ := ixN_seq hj
  have hl := r.length
  have hn := line63
  have I' : Inv X pins σ (upd H p (.lst (xs.set j v))) { s with heap := s.heap.update p (Obj.mapSeq (·.setIfInBounds j u)) } :=
    I.lstUpd hp ho (mapSeq_set its n j u) (r.set rv j) (by rw [List.length_set]; exact hz) s.toks
  by_cases h0 : 0 ≤ k
  · have hk : k.toNat = j := by
      rw [seqIndex_of h0 h4] at h1
      exact Option.some.inj h1
    exact PySem.W.ki_setAt ho h0 (by omega) (by rw [List.size_toArray, ← hl]; exact h4) (by rw [hk]; exact ⟨_, I', q⟩)
  · have hk : (k + (its.toArray.size : Int)).toNat = j := by
      rw [seqIndex_neg (by omega) h3] at h1
      rw [List.size_toArray, ← hl]
      exact Option.some.inj h1
    exact PySem.W.ki_setBack ho (by omega) (by rw [List.size_toArray, ← hl]; exact h3) (by omega) (by rw [hk]; exact ⟨_, I', q⟩)
def rSlL (K : PySem.W.Frag) : V → Option Int → Option Int → Hp → VK → Prop := fun x lo hi H Q => ∃ a xs, x = .ref a ∧ SqL K H a xs ∧ ∀ p, H p = none → Q (.ref p) (upd H p (.lst (cutV xs lo hi)))
def flatV : V → Bool
  | .non => true
  | .bl _ => true
  | .int _ => true
  | .str _ => true
  | _ => false
def eqV : V → V → Bool
  | .non, .non => true
  | .bl a, .bl b => a == b
  | .bl a, .int b => (if a then 1 else 0) == b
  | .int a, .bl b => a == (if b then 1 else 0)
  | .int a, .int b => a == b
  | .str a, .str b => a == b
  | _, _ => false
theorem eqAt_V {A : Around} {s : Shared} {y x : V} {u v : Value} (ry : RelV y u) (rx : RelV x v) (fy : flatV y = true) (fx : flatV x = true) : SeqAt.EqAt A s u v (eqV y x) := by
  cases y with
  | non =>
    cases ry
    cases x with
    | non => cases rx; exact SeqAt.EqAt.same _
    | bl b => cases rx; exact SeqAt.EqAt.none_bool b
    | int b => obtain ⟨t, rfl⟩ := rx; exact SeqAt.EqAt.none_int b t
    | str b => obtain ⟨t, rfl⟩ := rx; exact SeqAt.EqAt.none_str b t
    | _ => exact absurd (show false = true from fx) Bool.false_ne_true
  | bl a =>
    cases ry
    cases x with
    | non => cases rx; exact SeqAt.EqAt.bool_none a
    | bl b => cases rx; exact SeqAt.EqAt.bool_bool a b
    | int b => obtain ⟨t, rfl⟩ := rx; exact SeqAt.EqAt.bool_int a b t
    | str b => obtain ⟨t, rfl⟩ := rx; exact SeqAt.EqAt.bool_str a b t
    | _ => exact absurd (show false = true from fx) Bool.false_ne_true
  | int a =>
    obtain ⟨t', rfl⟩ := ry
    cases x with
    | non => cases rx; exact SeqAt.EqAt.int_none a t'
    | bl b => cases rx; exact SeqAt.EqAt.int_bool a t' b
    | int b => obtain ⟨t, rfl⟩ := rx; exact SeqAt.EqAt.int_int a t' b t
    | str b => obtain ⟨t, rfl⟩ := rx; exact SeqAt.EqAt.int_str a t' b t
    | _ => exact absurd (show false = true from fx) Bool.false_ne_true
  | str a =>
    obtain ⟨t', rfl⟩ := ry
    cases x with
    | non => cases rx; exact SeqAt.EqAt.str_none a t'
    | bl b => cases rx; exact SeqAt.EqAt.str_bool a t' b
    | int b => obtain ⟨t, rfl⟩ := rx; exact SeqAt.EqAt.str_int a t' b t
    | str b => obtain ⟨t, rfl⟩ := rx; exact SeqAt.EqAt.str_str a t' b t
    | _ => exact absurd (show false = true from fx) Bool.false_ne_true
  | _ => exact absurd (show false = true from fy) Bool.false_ne_true
def eqU (x : V) (u : Value) : Bool := match u with
  | .none => eqV .non x
  | .bool b => eqV (.bl b) x
  | .int i _ => eqV (.int i) x
  | .str z _ => eqV (.str z) x
  | _ => false
theorem eqU_of {x y : V} {u : Value} (r : RelV y u) (f : flatV y = true) : eqU x u = eqV y x := by
  cases y with
  | non => cases r; rfl
  | bl b => cases r; rfl
  | int i => obtain ⟨t, rfl⟩ := r; rfl
  | str z => obtain ⟨t, rfl⟩ := r; rfl
  | _ => exact absurd (show false = true from f) Bool.false_ne_true
theorem any_eqU {x : V} : ∀ {xs : List V} {us : List Value}, Vals xs us → xs.all flatV = true → us.any (eqU x) = xs.any fun y => eqV y x
  | _, _, .nil, _ => rfl
  | y :: xs, u :: us, .cons r t, f => by
    rw [List.all_cons, Bool.and_eq_true] at f
    rw [List.any_cons, List.any_cons, eqU_of r f.1, any_eqU t f.2]
theorem mem_eqAt {A : Around} {s : Shared} {x : V} {v : Value} (rx : RelV x v) (fx : flatV x = true) : ∀ {xs : List V} {us : List Value}, Vals xs us → xs.all flatV = true → ∀ u ∈ us, SeqAt.EqAt A s u v (eqU x u)
  | _, _, .nil, _ => fun u hu => by cases hu
  | y :: xs, u :: us, .cons r t, f => fun u' hu => by
    rw [List.all_cons, Bool.and_eq_true] at f
    rcases List.mem_cons.mp hu with rfl | hu
    · rw [eqU_of r f.1]; exact eqAt_V r rx f.1 fx
    · exact mem_eqAt rx fx t f.2 u' hu
def inV (x : V) (xs : List V) : Bool := xs.any fun y => eqV y x
def rIn (K : PySem.W.Frag) (neg : Bool) : R2 := fun x y H Q => ∃ p xs, y = .ref p ∧ (SqL K H p xs ∨ SqT K H p xs) ∧ flatV x = true ∧ xs.all flatV = true ∧ Q (.bl (if neg then !inV x xs else inV x xs)) H
theorem op_in_seq : OpR X (compareOp .In) (rIn X.K false) := by
  intro pins s σ H x y v u Q I rx ry h
  obtain ⟨p, xs, rfl, hq, fx, fs, q⟩ := h
  cases ry
  rcases hq with hq | hq
  · obtain ⟨its, r, pl, hz⟩ := I.list hq
    refine SeqAt.in_listAt (eqU x) pl.isList (fun w hw => mem_eqAt rx fx r fs w (by simpa using hw)) ⟨.bl _, H, I, rfl, ?_⟩
    rw [show its.toArray.any (eqU x) = its.any (eqU x) by simp, any_eqU r fs]
    exact q
  · obtain ⟨its, r, pl, hz⟩ := I.tuple hq
    refine SeqAt.in_tupleAt (eqU x) pl (fun w hw => mem_eqAt rx fx r fs w (by simpa using hw)) ⟨.bl _, H, I, rfl, ?_⟩
    rw [show its.toArray.any (eqU x) = its.any (eqU x) by simp, any_eqU r fs]
    exact q
theorem op_notIn_seq : OpR X (compareOp .NotIn) (rIn X.K true) := by
  intro pins s σ H x y v u Q I rx ry h
  obtain ⟨p, xs, rfl, hq, fx, fs, q⟩ := h
  cases ry
  rcases hq with hq | hq
  · obtain ⟨its, r, pl, hz⟩ := I.list hq
    refine SeqAt.notIn_listAt (eqU x) pl.isList (fun w hw => mem_eqAt rx fx r fs w (by simpa using hw)) ⟨.bl _, H, I, rfl, ?_⟩
    rw [show its.toArray.any (eqU x) = its.any (eqU x) by simp, any_eqU r fs]
    exact q
  · obtain ⟨its, r, pl, hz⟩ := I.tuple hq
    refine SeqAt.notIn_tupleAt (eqU x) pl (fun w hw => mem_eqAt rx fx r fs w (by simpa using hw)) ⟨.bl _, H, I, rfl, ?_⟩
    rw [show its.toArray.any (eqU x) = its.any (eqU x) by simp, any_eqU r fs]
    exact q
theorem call_len_seq : CallR X (.builtin "len") (fun xs H Q => ∃ p ys, xs = [.ref p] ∧ (SqL X.K H p ys ∨ SqT X.K H p ys) ∧ Q (.int ys.length) H) := by
  intro pins s σ H xs us Q I r h
  obtain ⟨p, ys, rfl, hq, q⟩ := h
  obtain ⟨u, rfl, rx⟩ := vals1 r
  cases rx
  have hn := line63
  rcases hq with hq | hq
  · obtain ⟨its, r', pl, hz⟩ := I.list hq
    have hlen := r'.length
    exact Calls.call_len_list pl.isList (by simp only [List.size_toArray] <;> omega) ⟨.int ys.length, H, I.tok _, ⟨s.toks + 1, by rw [List.size_toArray, hlen]⟩, q⟩
  · obtain ⟨its, r', pl, hz⟩ := I.tuple hq
    have hlen := r'.length
    exact len_tuple pl (by simp only [List.size_toArray] <;> omega) ⟨.int ys.length, H, I.tok _, ⟨s.toks + 1, by rw [List.size_toArray, hlen]⟩, q⟩
theorem call_list_of : CallR X (.type "list") (fun xs H Q => ∃ p ys, xs = [.ref p] ∧ (SqL X.K H p ys ∨ SqT X.K H p ys) ∧ ∀ l, H l = none → Q (.ref l) (upd H l (.lst ys))) := by
  intro pins s σ H xs us Q I r h
  obtain ⟨p, ys, rfl, hq, q⟩ := h
  obtain ⟨u, rfl, rx⟩ := vals1 r
  cases rx
  have fin : ∀ (its : List Value), Vals ys its → ys.length ≤ sizeLine → ∀ (h' : Heap) (c' : Nat), (∀ b o', s.heap.get? b = some o' → h'.get? b = some o') →
      h'.get? s.heap.objs.size = some { cls := .type "list", dict := none, data := .seq its.toArray c', slots := #[] } → EP X pins σ Q (.ref s.heap.objs.size) { s with heap := h' } := fun its r' hz h' c' kp e =>
    ⟨.ref s.heap.objs.size, _, I.laid (t' := s.toks) kp (Nat.le_refl _) (show ObjOk X.prog X.w _ h' _ (.lst ys) from ⟨hz, its, c', r', e⟩), rfl, q _ (I.hok.fresh (Nat.le_refl _))⟩
  rcases hq with hq | hq
  · obtain ⟨its, r', pl, hz⟩ := I.list hq
    have hlen := r'.length
    obtain ⟨o, ho, hc, n, hd⟩ := pl.isList
    exact call_list_seq p (.inl rfl) ho hc hd (fun h' c' kp e => fin its r' hz h' c' kp e) (by simp only [List.size_toArray] <;> omega)
  · obtain ⟨its, r', pl, hz⟩ := I.tuple hq
    have hlen := r'.length
    obtain ⟨o, ho, hc, n, hd⟩ := pl
    exact call_list_seq p (.inr rfl) ho hc hd (fun h' c' kp e => fin its r' hz h' c' kp e) (by simp only [List.size_toArray] <;> omega)
def tyV (K : PySem.W.Frag) (T : String) (x : V) (H : Hp) : Prop := match x with
  | .str _ => T = "str"
  | .int _ => T = "int"
  | .ref p => (T = "list" ∧ ∃ xs, SqL K H p xs) ∨ (T = "tuple" ∧ ∃ o, K.lookup p = some o ∧ o.cls = .type "tuple" ∧ o.dict = none) ∨
      (T = "dict" ∧ ((∃ kvs, H p = some (.dK kvs)) ∨ ∃ kvs, H p = some (.dT kvs))) ∨ (T = "set" ∧ ∃ S n, H p = some (.set S n))
  | _ => False
theorem tyV_is {pins : List (Addr × Obj)} {σ : St} {H : Hp} {s : Shared} {T : String} {x : V} {v : Value} (I : Inv X pins σ H s) (r : RelV x v) (ty : tyV X.K T x H) :
    s.TypeIs v T ∧ ∀ a, v = .ref a → ∃ ob, s.heap.get? a = some ob ∧ ob.dict = none := by
  cases x with
  | str z =>
    obtain ⟨t, rfl⟩ := r
    cases (show T = "str" from ty)
    exact ⟨typeIs_str s z t, fun _ e => nomatch e⟩
  | int i =>
    obtain ⟨t, rfl⟩ := r
    cases (show T = "int" from ty)
    exact ⟨typeIs_int s i t, fun _ e => nomatch e⟩
  | ref p =>
    cases r
    rcases ty with ⟨rfl, xs, hq⟩ | ⟨rfl, o, hk, hc, hd⟩ | ⟨rfl, hk⟩ | ⟨rfl, S, n, hk⟩
    · obtain ⟨its, _, pl, _⟩ := I.list hq
      refine ⟨pl.isList.typeIs, fun a e => ?_⟩
      cases e
      obtain ⟨o, n, e, c, hd, _⟩ := pl
      exact ⟨o, e, hd⟩
    · refine ⟨⟨o, I.kIn p o hk, hc⟩, fun a e => ?_⟩
      cases e
      exact ⟨o, I.kIn _ o hk, hd⟩
    · have z : ∃ o, s.heap.get? p = some o ∧ o.ExactDict := by
        rcases hk with ⟨kvs, hk⟩ | ⟨kvs, hk⟩
        · obtain ⟨_, _, _, _, o, _, _, e, ex, _⟩ := I.hok p _ hk
          exact ⟨o, e, ex⟩
        · obtain ⟨_, _, _, _, o, _, _, e, ex, _⟩ := I.hok p _ hk
          exact ⟨o, e, ex⟩
      obtain ⟨o, e, ex⟩ := z
      refine ⟨⟨o, e, ex.1⟩, fun a e2 => ?_⟩
      cases e2
      exact ⟨o, e, ex.2.1⟩
    · obtain ⟨o, _, _, _, e, ex, _⟩ := I.hok p _ hk
      refine ⟨⟨o, e, ex.1⟩, fun a e2 => ?_⟩
      cases e2
      exact ⟨o, e, ex.2.1⟩
  | _ => exact False.elim ty
def tBM0 (K : PySem.W.Frag) (T : String) (r : V → List V → Hp → VK → Prop) (to : TE) : TE := fun σ H Q => to σ H fun x H1 => tyV K T x H1 ∧ r x [] H1 Q
def tBM (K : PySem.W.Frag) (T : String) (r : V → List V → Hp → VK → Prop) (to : TE) (t : TA) : TE := fun σ H Q => to σ H fun x H1 => tyV K T x H1 ∧ t σ H1 fun xs H2 => r x xs H2 Q
variable {o e : Expr} {es : List Expr} {to : TE} {t : TA} {name : Str} {apos cpos : Pos} {T id : String} {r : V → List V → Hp → VK → Prop}
theorem pe_bm0 (pa : PlainAttrs T) (slot : Slot T name id) (hty : typeOf (.builtin id) = pure (.type "method_descriptor")) (hm : MtR X id r) (ho : PE X o to)
    (hbase : attributeBase o name X.env (eval o X.env) = eval o X.env := by rfl) (hline : (apos.endLine == cpos.line) = true := by rfl) : PE X (.Call (.Attribute o name apos) [] [] cpos) (tBM0 X.K T r to) := by
  intro pins s σ H Q I h
  refine wpAny_Call_method0_late hbase hline (thn (ho pins s σ H _ I h) fun v s1 ⟨x, H1, I1, r1, ty, q1⟩ => ?_)
  obtain ⟨h1, h2⟩ := tyV_is I1 r1 ty
  exact ⟨T, id, pa, slot, hty, h1, h2, Calls.callWith_builtin rfl (PySem.evalArgs_none (hm pins s1 σ H1 x [] v [] Q I1 r1 .nil q1))⟩
theorem pe_bm (pa : PlainAttrs T) (slot : Slot T name id) (hty : typeOf (.builtin id) = pure (.type "method_descriptor")) (hm : MtR X id r) (ho : PE X o to) (ha : PA X (e :: es) t)
    (hbase : attributeBase o name X.env (eval o X.env) = eval o X.env := by rfl)
    (hfew : ((backTo cpos (starEach (e :: es) X.env)).all (fun x => !x.1) && (backToKw cpos (keywordEach [] X.env)).all (fun x => x.1.isSome)
      && decide ((e :: es).length + ([] : List Keyword).length + (if ([] : List Keyword).isEmpty then 0 else 1) < 30)) = true := by rfl)
    (hline : (apos.endLine == cpos.line) = true := by rfl) (hs : starEach (e :: es) X.env = (false, eval e X.env) :: starEach es X.env := by rfl) (hplain : (backTo cpos (starEach es X.env)).any (·.1) = false := by rfl) :
    PE X (.Call (.Attribute o name apos) (e :: es) [] cpos) (tBM X.K T r to t) := by
  intro pins s σ H Q I h
  refine wpAny_Call_method_late hbase hfew hline rfl (thn (ho pins s σ H _ I h) fun v s1 ⟨x, H1, I1, r1, ty, q1⟩ => ?_)
  obtain ⟨h1, h2⟩ := tyV_is I1 r1 ty
  refine ⟨T, id, pa, slot, hty, h1, h2, ?_⟩
  have hA := ha cpos pins s1 σ H1 _ I1 q1
  rw [hs] at hA ⊢
  refine Calls.callWith_builtin (by show (false || (backTo cpos (starEach es X.env)).any (·.1)) = false; rw [hplain] <;> rfl) (Calls.evalArgs_plain ?_)
  exact thn hA fun us s2 ⟨vs, H2, I2, r2, q2⟩ => hm pins s2 σ H2 x vs v us Q I2 r1 r2 q2
end
open PySem PySem.Spec PyProof.Rows
def MtM (X : Cx) (id : String) (r : V → List V → Hp → VK → Prop) : Prop :=
  ∀ (pins : List (Addr × Obj)) (s : Shared) (σ : St) (H : Hp) (x : V) (xs : List V) (v : Value) (us : List Value) (Q : VK), Inv X pins σ H s → RelV x v → Vals xs us → r x xs H Q →
    wpAny (model X.prog X.w) X.A (call (.builtin id) (v :: us)) (EP X pins σ Q) X.xe s
theorem Vals.one : ∀ {x : V} {us : List Value}, Vals [x] us → ∃ u, us = [u] ∧ RelV x u
  | _, _, .cons r .nil => ⟨_, rfl, r⟩
theorem Vals.two : ∀ {x y : V} {us : List Value}, Vals [x, y] us → ∃ u v, us = [u, v] ∧ RelV x u ∧ RelV y v
  | _, _, _, .cons r (.cons q .nil) => ⟨_, _, rfl, r, q⟩
theorem Vals.zero : ∀ {us : List Value}, Vals [] us → us = []
  | _, .nil => rfl
theorem Vals.dropLast {xs : List V} {us : List Value} (h : Vals xs us) : Vals xs.dropLast us.dropLast := by
  induction h with
  | nil => exact .nil
  | cons r t ih =>
    cases t with
    | nil => exact .nil
    | cons q t' => exact .cons r ih
theorem Vals.eraseIdx : ∀ {xs : List V} {us : List Value} (i : Nat), Vals xs us → Vals (xs.eraseIdx i) (us.eraseIdx i)
  | _, _, _, .nil => .nil
  | _, _, 0, .cons _ t => t
  | _, _, i + 1, .cons r t => .cons r (Vals.eraseIdx i t)
theorem erase_last {α : Type} (l : List α) : l.eraseIdx (l.length - 1) = l.dropLast := by
  induction l with
  | nil => rfl
  | cons a r ih =>
    cases r with
    | nil => rfl
    | cons b r =>
      have e : (a :: b :: r).length - 1 = ((b :: r).length - 1) + 1 := by
        have h1 : (a :: b :: r).length = r.length + 2 := rfl
        have h2 : (b :: r).length = r.length + 1 := rfl
        omega
      rw [e, List.eraseIdx_cons_succ, ih]
      all_goals rfl
theorem len_erase {α : Type} : ∀ (l : List α) (i : Nat), (l.eraseIdx i).length ≤ l.length
  | [], _ => Nat.le_refl _
  | _ :: _, 0 => Nat.le_succ _
  | _ :: r, i + 1 => Nat.succ_le_succ (len_erase r i)
section
variable {X : Cx} {pins : List (Addr × Obj)} {σ : St} {H : Hp} {s : Shared} {l b : Addr} {xs ys zs : List V}
theorem Inv.lset {its its' : List Value} {n : Nat} {f : Array Value → Array Value} {t' : Nat} (I : Inv X pins σ H s) (hH : H l = some (.lst xs))
    (e : s.heap.get? l = some { cls := .type "list", data := .seq its.toArray n }) (hf : f its.toArray = its'.toArray) (hv : Vals ys its') (hz : ys.length ≤ sizeLine) :
    Inv X pins σ (upd H l (.lst ys)) { s with heap := s.heap.update l (Obj.mapSeq f), toks := t' } := by
  have q := PySem.IsL.update e f
  rw [hf] at q
  refine I.write (x := l) (e := l) (by rw [hH]; exact trivial) (.inl rfl) (fun b' u hb hu => (Heap.get?_update_other s.heap (Obj.mapSeq f) (Ne.symm hb)).trans hu) ⟨_, q⟩ ?_
  exact ⟨hz, its', _, hv, q⟩
theorem Inv.lnew {its : List Value} {t' : Nat} (I : Inv X pins σ H s) (hv : Vals ys its) (hz : ys.length ≤ sizeLine) :
    Inv X pins σ (upd H s.heap.objs.size (.lst ys)) { s with heap := s.heap.push { cls := .type "list", data := .seq its.toArray }, toks := t' } :=
  I.laid (fun _ _ q => Heap.get?_push_of_some _ q) (Nat.le_refl _) ⟨hz, its, 0, hv, Heap.get?_push_size _ rfl⟩
theorem Inv.fresh (I : Inv X pins σ H s) : H s.heap.objs.size = none := I.hok.fresh (Nat.le_refl _)
theorem Inv.lstM (I : Inv X pins σ H s) (hH : H l = some (.lst xs)) : xs.length ≤ sizeLine ∧ ∃ (its : List Value) (n : Nat), Vals xs its ∧ xs.length = its.length ∧ s.heap.get? l = some { cls := .type "list", data := .seq its.toArray n } := by
  obtain ⟨z, its, n, r, e⟩ := I.hok l _ hH
  exact ⟨z, its, n, r, r.length, e⟩
theorem notLongL {n : Nat} (h : n ≤ sizeLine) : Builtin.List.listTooLong n = false := by
  unfold Builtin.List.listTooLong
  exact decide_eq_false (by omega)
end
section
variable {X : Cx}
def rAppend : V → List V → Hp → VK → Prop := fun x vs H Q => ∃ l xs y, x = .ref l ∧ vs = [y] ∧ H l = some (.lst xs) ∧ xs.length < sizeLine ∧ Q .non (upd H l (.lst (xs ++ [y])))
theorem mt_append : MtM X "list.append" rAppend := by
  intro pins s σ H x vs v us Q I rx rv h
  obtain ⟨l, xs, y, rfl, rfl, hH, hz, q⟩ := h
  cases rx
  obtain ⟨u, rfl, ru⟩ := rv.one
  obtain ⟨z, its, n, r, hl, e⟩ := I.lstM hH
  refine call_meets F.slot_list_append ⟨_, e, rfl⟩ F.entry_list_append (F.args_list_append_2 _ _) (PySem.list_append l its.toArray n u (by rw [List.size_toArray]; omega)) ⟨e, ?_⟩
  refine ⟨.non, _, I.lset (its' := its ++ [u]) hH e (by simp) (r.append (.cons ru .nil)) ?_, rfl, q⟩
  rw [List.length_append, List.length_singleton]
  omega
def rExtend : V → List V → Hp → VK → Prop := fun x vs H Q => ∃ l b xs zs, x = .ref l ∧ vs = [.ref b] ∧ H l = some (.lst xs) ∧ H b = some (.lst zs) ∧ xs.length + zs.length ≤ sizeLine ∧ Q .non (upd H l (.lst (xs ++ zs)))
theorem mt_extend : MtM X "list.extend" rExtend := by
  intro pins s σ H x vs v us Q I rx rv h
  obtain ⟨l, b, xs, zs, rfl, rfl, hH, hB, hz, q⟩ := h
  cases rx
  obtain ⟨u, rfl, ru⟩ := rv.one
  cases ru
  obtain ⟨z, its, n, r, hl, e⟩ := I.lstM hH
  obtain ⟨z2, its2, n2, r2, hl2, e2⟩ := I.lstM hB
  have hsz : its.toArray.size + its2.toArray.size ≤ sizeLine := by rw [List.size_toArray, List.size_toArray]; omega
  have hlong : ¬ (!its.toArray.isEmpty && Builtin.List.listTooLong (its.toArray.size + its2.toArray.size)) = true := by
    rw [notLongL hsz, Bool.and_false]
    exact Bool.false_ne_true
  refine call_meets F.slot_list_extend ⟨_, e, rfl⟩ F.entry_list_extend (F.args_list_extend_2 _ _)
    (AutoSeq1.list_extend_list_list_0 l its.toArray n b its2.toArray n2 hlong (by rw [List.size_toArray]; omega) (by omega)) ⟨e, e2, ?_⟩
  refine ⟨.non, _, I.lset (its' := its ++ its2) hH e (by simp) (r.append r2) ?_, rfl, q⟩
  rw [List.length_append]
  omega
def rPop : V → List V → Hp → VK → Prop := fun x vs H Q => ∃ l xs y, x = .ref l ∧ vs = [] ∧ H l = some (.lst xs) ∧ xs[xs.length - 1]? = some y ∧ Q y (upd H l (.lst xs.dropLast))
theorem mt_pop : MtM X "list.pop" rPop := by
  intro pins s σ H x vs v us Q I rx rv h
  obtain ⟨l, xs, y, rfl, rfl, hH, hy, q⟩ := h
  cases rx
  have hus := rv.zero
  subst hus
  obtain ⟨z, its, n, r, hl, e⟩ := I.lstM hH
  obtain ⟨u, hu, ru⟩ := r.get hy
  have hy' : its.toArray[its.toArray.size - 1]? = some u := by
    show its.toArray[its.length - 1]? = some u
    rw [← Array.getElem?_toList, ← hl]
    exact hu
  refine call_meets F.slot_list_pop ⟨_, e, rfl⟩ F.entry_list_pop (F.args_list_pop_1 _) (MeetsSeq.list_pop_last l its.toArray n u hy' (by rw [List.size_toArray]; omega)) ⟨e, ?_⟩
  refine ⟨y, _, I.lset (its' := its.dropLast) hH e ?_ r.dropLast ?_, ru, q⟩
  · show its.toArray.eraseIdxIfInBounds (its.toArray.size - 1) = its.dropLast.toArray
    rw [List.size_toArray, List.eraseIdxIfInBounds_toArray, erase_last]
  · rw [List.length_dropLast]
    omega
def rPopAt : V → List V → Hp → VK → Prop := fun x vs H Q => ∃ l xs i k y, x = .ref l ∧ vs = [.int i] ∧ H l = some (.lst xs) ∧ -(2 ^ 63) ≤ i ∧ i < 2 ^ 63 ∧ seqIndex? i xs.length = some k ∧ xs[k]? = some y ∧ Q y (upd H l (.lst (xs.eraseIdx k)))
def rReverse : V → List V → Hp → VK → Prop := fun x vs H Q => ∃ l xs, x = .ref l ∧ vs = [] ∧ H l = some (.lst xs) ∧ Q .non (upd H l (.lst xs.reverse))
def rClear : V → List V → Hp → VK → Prop := fun x vs H Q => ∃ l xs, x = .ref l ∧ vs = [] ∧ H l = some (.lst xs) ∧ Q .non (upd H l (.lst []))
def rCat : R2 := fun x y H Q => ∃ l b xs zs, x = .ref l ∧ y = .ref b ∧ H l = some (.lst xs) ∧ H b = some (.lst zs) ∧ xs.length + zs.length ≤ sizeLine ∧ ∀ p, H p = none → Q (.ref p) (upd H p (.lst (xs ++ zs)))
theorem op_cat : OpR X (binaryOp .Add) rCat := by
  intro pins s σ H x y v u Q I rx ry h
  obtain ⟨l, b, xs, zs, rfl, rfl, hH, hB, hz, q⟩ := h
  cases rx
  cases ry
  obtain ⟨z, its, n, r, hl, e⟩ := I.lstM hH
  obtain ⟨z2, its2, n2, r2, hl2, e2⟩ := I.lstM hB
  refine PySem.P.add_list e e2 ?_ (by rw [List.size_toArray, List.size_toArray]; omega)
  have ea : its.toArray ++ its2.toArray = (its ++ its2).toArray := by simp
  rw [ea]
  exact ⟨.ref _, _, I.lnew (t' := s.toks) (r.append r2) (by rw [List.length_append]; omega), rfl, q _ I.fresh⟩
def rRep : R2 := fun x y H Q => ∃ l k xs, x = .ref l ∧ y = .int k ∧ H l = some (.lst xs) ∧ -(2 ^ 63) ≤ k ∧ k < 2 ^ 63 ∧ xs.length * k.toNat ≤ sizeLine ∧
  ∀ p, H p = none → Q (.ref p) (upd H p (.lst (List.replicate k.toNat xs).flatten))
end
section
variable {prog : Program} {w : World} {A : Around} {E : Value → Shared → Prop} {s : Shared}
end
section
variable {X : Cx}
end
end L2
namespace Att
open PySem PySem.W PySem.Calls PyProof.Rows
theorem ints_of_wellAll {P : Params} {h : Heap} : ∀ (ns : List Int) (vs : List Value), WellAll P h vs (ns.map WData.int) → IntsAre vs ns := by
  intro ns
  induction ns with
  | nil =>
    intro vs w
    rw [List.map_nil] at w
    cases w
    exact .nil
  | cons n ns ih =>
    intro vs w
    rw [List.map_cons] at w
    cases w with
    | cons a b =>
      cases a
      exact .cons _ _ (ih _ b)
theorem script_of {l : OpenLaw} {n : Nat} (hn : l.most = some n) {P : Params} {h : Heap} {args : List WData} {vals : List Value}
    (hpre : l.row.toRowW.claim.pre args = true) (hwl : WellAll P h vals args) :
    ∃ a vs ns, vals = [Value.ref a] ∧ args = [WData.list (ns.map WData.int)] ∧ h.get? a = some { cls := .type "list", data := .seq vs.toArray } ∧ IntsAre vs ns ∧ ns.length ≤ n := by
  have hsh : WShape.hasAll [] args [.list .int] = true := (pre_splitW hpre).1
  have hc : l.pre.holds [] { args := args } = true := (pre_splitW hpre).2
  obtain ⟨d, r, rfl, h1, h2⟩ := hasAllW_cons hsh
  obtain rfl := hasAllW_nil h2
  obtain ⟨xs, rfl, h3⟩ := hasW_list h1
  obtain ⟨ns, rfl⟩ := items_int h3
  have hlen : ns.length ≤ n := by
    unfold OpenLaw.pre at hc
    have h4 : (WTm.not (.lt (.lit (.int (n : Int))) (.len (.arg 0)))).holds [] { args := [.list (ns.map .int)] } = true := by
      have h4 := (holds_andW hc).1
      rw [hn] at h4
      exact h4
    have h5 := condW_of h4 (w_not (w_lt w_lit (w_len_list (w_arg rfl))))
    rw [List.length_map] at h5
    refine Nat.le_of_not_lt fun q => ?_
    have q' : (n : Int) < ((ns.length : Nat) : Int) := by omega
    first
      | (rw [decide_eq_true q'] at h5; exact absurd h5 (by decide))
      | (simp at h5; omega)
  cases hwl with
  | cons w1 w2 =>
    cases w2
    cases w1 with
    | list ho hall => exact ⟨_, _, ns, rfl, rfl, ho, ints_of_wellAll ns _ hall, hlen⟩
theorem post_true (l : OpenLaw) (args : List WData) : l.row.toRowW.claim.post args (.bool true) args = true :=
  postW_of (r := l.row.toRowW) (X := (true == true))
    (show WShape.has [] (.bool true) .bool = true by first | rfl | decide | simp [WShape.has, WShape.arms, WShape.armsAll])
    (show (WTm.eq .res (.lit (.bool true))).value [] { args := args, res := some (.bool true), after := args } = some (.bool (true == true)) from w_eq_bool (w_res rfl) w_lit) rfl
theorem attach_call {l : OpenLaw} {n : Nat} {q : Program} {loose : List Str} {XP : (Str → Option Value) → Heap → Prop} {YP : World → Heap → Prop} {d : DefRec}
    (hn : l.most = some n) (hdf : d.params.defaults = [])
    (call : ∀ (w : World) (s₀ s₁ : Shared) (mg mb : Str → Option Value) (fa : Addr) (o : Obj) (pm cd doc : Value) (a : Addr) (vs : List Value) (ns : List Int),
      Ground q loose [] XP w s₀ mg mb s₁.heap → YP w s₁.heap →
      s₁.heap.get? fa = some o → o.data = .func (docDef d.name d.params d.body d.scope pm cd doc) → s₁.heap.CodeRec cd d.name → mg d.name = some (.ref fa) →
      s₁.heap.get? a = some { cls := .type "list", data := .seq vs.toArray } → IntsAre vs ns → ns.length ≤ n → s₁.gens = #[] →
      codeAny (model l.prog w) callerA (.call (.ref fa) ⟨[.ref a], []⟩) (fun r s' => r = .ok (.ret (.bool true)) ∧ OldK s₁.heap s'.heap ∧ s'.os = s₁.os ∧ AllBare s'.gens) s₁) :
    WalkO q loose XP YP l.row.toRowW d [] (fun f vs => PySem.call f vs) := by
  intro w s₀ s₁ mg mb G Y fa o pm cd doc dV kV ho hd hcd hD hmg hg args vals as hpre hlay hrd hwl hlo
  obtain rfl : dV = .none := Dflts.none hD hdf
  obtain rfl : kV = .none := Dflts.noKw hD
  obtain ⟨a, vs, ns, rfl, rfl, hobj, hints, hlen⟩ := script_of hn hpre hwl
  refine enter_call (codeAny_mono (call w s₀ s₁ mg mb fa o pm cd doc a vs ns G Y ho (fd_plain hd) hcd hmg hobj hints hlen hg) fun r s' hq => ?_)
  obtain ⟨rfl, h2, h3, h4⟩ := hq
  exact ⟨.inl ⟨.bool true, .bool true, [], rfl, fun _ => rfl, .bool true, post_true l _, fun _ => ⟨List.Pairwise.nil, fun _ hm => (nomatch hm)⟩⟩, h2, h3, h4⟩
section
variable {prog : Program} {w : World} {A : Around} {E : Value → Shared → Prop} {s : Shared} {K : Frag}
def noObjs (h : Heap) : Heap := { h with objs := #[] }
def ledger (h : Heap) (L d : Addr) : List (Addr × Obj) := (List.range h.objs.size).filterMap fun a => if a = L ∨ a = d then none else (h.get? a).map fun o => (a, o)
end
end Att
namespace L2
open PySem PySem.Spec PyProof.Rows
theorem vals_ints : ∀ {vs : List Value} {ns : List Int}, IntsAre vs ns → Vals (ns.map V.int) vs
  | _, _, .nil => .nil
  | _, _, .cons n t h => .cons ⟨t, rfl⟩ (vals_ints h)
def Only (H : Hp) : Prop := ∀ b, H b = none ∨ ∃ o xs, H b = some (.frz o (.lst xs))
theorem law_call {P : Program} {w : World} {K : PySem.W.Frag} {mg mb : Str → Option Value} {CX : CXT} {k : Nat} {fa a : Addr} {fd : FuncData} {x : Str} {sp : Sp} {s₁ : Shared} {vs : List Value} {ns : List Int}
    (KX : K.In s₁.heap) (hns : s₁.heap.Ns mainGlobals mg) (hb : s₁.heap.Ns builtinsNs mb) (hbb : ∀ x : Str, x ≠ "__name__" → mb x = bootBuiltins x) (hlim : s₁.heap.NoLimit) (hg : s₁.gens = #[])
    (ha : s₁.heap.get? a = some { cls := .type "list", data := .seq vs.toArray }) (hi : IntsAre vs ns) (hl : ns.length ≤ sizeLine) (hr : Room k callerA)
    (F : ∀ base : Heap, K.In base → base.Ns mainGlobals mg → FnOk P w K mg base CX k fa fd [x] sp) (hbind : ∀ (s : Shared) (u : Value), BindsTo s fd ⟨[u], []⟩ [(x, u)])
    (hsp : ∀ H : Hp, Only H → SqL K H a (ns.map V.int) → sp [.ref a] H (fun v _ => v = .bl true) fun _ _ _ => False)
    (hCX : ∀ H e s', CX [] H s₁ (fun _ _ _ => False) e s' → False) :
    codeAny (model P w) callerA (.call (.ref fa) ⟨[.ref a], []⟩) (fun r s' => r = .ok (.ret (.bool true)) ∧ OldK s₁.heap s'.heap ∧ s'.os = s₁.os ∧ AllBare s'.gens) s₁ := by
  have rv := vals_ints hi
  have lenV := hi.length
  have core : ∀ H : Hp, Only H → SqL K H a (ns.map V.int) → HOk P w H s₁.heap → (∀ b, H b ≠ none → b = a) → (H a ≠ none → K.lookup a = none) →
      codeAny (model P w) callerA (.call (.ref fa) ⟨[.ref a], []⟩) (fun r s' => r = .ok (.ret (.bool true)) ∧ OldK s₁.heap s'.heap ∧ s'.os = s₁.os ∧ AllBare s'.gens) s₁ := by
    intro H hO hS hok hA hK
    have base_of : ∀ {b : Addr} {o : Obj}, s₁.heap.get? b = some o → H b = none → (hidT s₁.heap H).get? b = some o := fun e n => hidT_get e n
    have noA : ∀ {b : Addr} {o : Obj} {es : Array DictEntry} {ep : Nat}, s₁.heap.get? b = some o → o.data = .dict es ep → H b = none := fun {b o es ep} e d => by
      cases q : H b with
      | none => rfl
      | some u =>
        have e' : b = a := hA b (by rw [q]; simp)
        subst e'
        rw [ha] at e; cases e
        have d' : Data.seq vs.toArray _ = Data.dict es ep := d
        cases d'
    have nsK : ∀ {b : Addr} {m : Str → Option Value}, s₁.heap.Ns b m → (hidT s₁.heap H).Ns b m := fun {b m} ⟨o, es, ep, e, d, r⟩ => ⟨o, es, ep, base_of e (noA e d), d, r⟩
    have hKb : K.In (hidT s₁.heap H) := fun b o e => base_of (KX b o e) (by
      cases q : H b with
      | none => rfl
      | some u =>
        have e' : b = a := hA b (by rw [q]; simp)
        subst e'
        rw [hK (by rw [q]; simp)] at e; cases e)
    have hM : Mod K mg (hidT s₁.heap H) := ⟨hKb, nsK hns, ⟨mb, nsK hb, hbb⟩, let ⟨mc, h1, h2⟩ := hlim; ⟨mc, nsK h1, h2⟩⟩
    have e0 : Env0 P w K mg (hidT s₁.heap H) callerA [] s₁ H := ⟨rfl, hM, fun b o e => of_hidT e, Nat.le_of_eq (hidT_size _ _), trivial, fun b hb => absurd (show b ∈ ([] : List Addr) from hb) (by simp), hok, .of_eq hg⟩
    refine codeAny_mono ((F _ hKb (nsK hns)).run callerA [] s₁ H ⟨[.ref a], []⟩ [.ref a] [.ref a] _ _ hr e0 (hbind s₁ (.ref a)) (.cons rfl .nil) (hsp H hO hS)) fun r s' h => ?_
    cases r with
    | error e => exact (hCX H e s' h).elim
    | ok fl =>
      cases fl with
      | next => exact False.elim h
      | brk => exact False.elim h
      | cont => exact False.elim h
      | ret u =>
        obtain ⟨v, H', os, bare, un, hok', r', q⟩ := h
        have q' : v = .bl true := q
        subst q'
        obtain rfl : u = Value.bool true := r'
        refine ⟨rfl, OldK.of_keep fun b o e => ?_, os, bare⟩
        cases q : H b with
        | none => exact un.keep b o e q (by intro z; exact absurd (show b ∈ ([] : List Addr) from z) (by simp)) (by simp)
        | some u =>
          rcases hO b with z | ⟨ob, xs, z⟩
          · rw [q] at z; cases z
          · have z2 := un.frzs b ob _ z
            obtain ⟨e1, _⟩ := hok b _ z
            obtain ⟨e2, _⟩ := hok' b _ z2
            rw [e] at e1; cases e1
            exact e2
  cases hk : K.lookup a with
  | some o =>
    have e := KX a o hk
    rw [ha] at e
    cases e
    refine core (fun _ => none) (fun _ => .inl rfl) (.inr ⟨_, vs.toArray, _, hk, rfl, rfl, rfl, by rw [List.size_toArray, lenV]; exact hl, by simpa using rv⟩) (fun b u z => by have z' : (none : Option HO) = some u := z; cases z') (fun b z => absurd rfl z) fun z => absurd rfl z
  | none =>
    refine core (fun b => if b = a then some (.frz { cls := .type "list", data := .seq vs.toArray } (.lst (ns.map V.int))) else none) (fun b => ?_) (.inl (.inr ⟨{ cls := .type "list", data := .seq vs.toArray }, if_pos rfl⟩)) (fun b u z => ?_) (fun b z => ?_) fun _ => hk
    · by_cases hb : b = a
      · exact .inr ⟨_, _, if_pos hb⟩
      · exact .inl (if_neg hb)
    · by_cases hb : b = a
      · have z' := (if_pos hb).symm.trans z
        cases z'
        subst hb
        exact ⟨ha, by rw [List.length_map]; exact hl, vs, _, rv, ha⟩
      · have z' := (if_neg hb).symm.trans z
        cases z'
    · by_cases hb : b = a
      · exact hb
      · exact absurd (if_neg hb) z
open PySem PySem.Spec PyProof.Rows
abbrev KOf {K : PySem.W.Frag} {h : Heap} (_ : K.In h) : PySem.W.Frag := K
theorem walk_of {l : PySem.W.OpenLaw} {n k : Nat} {q : Program} {loose : List Str} {XP : (Str → Option Value) → Heap → Prop} {YP : World → Heap → Prop} {d : DefRec} {K : Params → PySem.W.Frag} {CX : World → CXT} {sp : World → Sp} {x : Str}
    (hn : l.most = some n) (hn2 : n ≤ sizeLine) (hdf : d.params.defaults = []) (hr : Room k callerA)
    (hY : ∀ (w : World) (h : Heap), YP w h → (K w.params).In h)
    (F : ∀ (w : World) (mg : Str → Option Value) (fa : Addr) (h : Heap), (K w.params).In h → h.Ns mainGlobals mg → mg d.name = some (.ref fa) →
      ∃ fd : FuncData, (∀ (s : Shared) (u : Value), BindsTo s fd ⟨[u], []⟩ [(x, u)]) ∧
        ∀ base : Heap, (K w.params).In base → base.Ns mainGlobals mg → FnOk l.prog w (K w.params) mg base (CX w) k fa fd [x] (sp w))
    (hsp : ∀ (w : World) (H : Hp) (a : Addr) (ns : List Int), ns.length ≤ n → Only H → SqL (K w.params) H a (ns.map V.int) → sp w [.ref a] H (fun v _ => v = .bl true) fun _ _ _ => False)
    (hCX : ∀ (w : World) (H : Hp) (s : Shared) (e : Value) (s' : Shared), CX w [] H s (fun _ _ _ => False) e s' → False) :
    PySem.W.WalkO q loose XP YP l.row.toRowW d [] (fun f vs => PySem.call f vs) := by
  refine Att.attach_call hn hdf fun w s₀ s₁ mg mb fa o pm cd doc a vs ns G Y ho hd hcd hmg hobj hints hlen hg => ?_
  have KX := hY w _ Y
  obtain ⟨fd, hb, hF⟩ := F w mg fa _ KX G.T.g hmg
  exact law_call KX G.T.g G.T.b G.T.builtins G.T.nolimit hg hobj hints (Nat.le_trans hlen hn2) hr hF hb (fun H hO hS => hsp w H a ns hlen hO hS) fun H e s' => hCX w H s₁ e s'
theorem walk_ofK {l : PySem.W.OpenLaw} {n k : Nat} {q : Program} {loose : List Str} {XP : (Str → Option Value) → Heap → Prop} {YP : World → Heap → Prop} {d : DefRec} {K : Params → PySem.W.Frag} {CX : CXT} {sp : PySem.W.Frag → Sp} {x : Str}
    (hn : l.most = some n) (hn2 : n ≤ sizeLine) (hdf : d.params.defaults = []) (hr : Room k callerA)
    (hY : ∀ (w : World) (h : Heap), YP w h → (K w.params).In h)
    (F : ∀ (w : World) (mg : Str → Option Value) (fa : Addr) (h : Heap), (K w.params).In h → h.Ns mainGlobals mg → mg d.name = some (.ref fa) →
      ∃ fd : FuncData, (∀ (s : Shared) (u : Value), BindsTo s fd ⟨[u], []⟩ [(x, u)]) ∧
        ∀ base : Heap, (K w.params).In base → base.Ns mainGlobals mg → FnOk l.prog w (K w.params) mg base CX k fa fd [x] (sp (K w.params)))
    (hsp : ∀ (K : PySem.W.Frag) (H : Hp) (a : Addr) (ns : List Int), ns.length ≤ n → Only H → SqL K H a (ns.map V.int) → sp K [.ref a] H (fun v _ => v = .bl true) fun _ _ _ => False)
    (hCX : ∀ (H : Hp) (s : Shared) (e : Value) (s' : Shared), CX [] H s (fun _ _ _ => False) e s' → False) :
    PySem.W.WalkO q loose XP YP l.row.toRowW d [] (fun f vs => PySem.call f vs) :=
  walk_of (K := K) (CX := fun _ => CX) (sp := fun w => sp (K w.params)) hn hn2 hdf hr hY F (fun w H a ns h1 h2 h3 => hsp (K w.params) H a ns h1 h2 h3) fun _ H s e s' => hCX H s e s'
open PySem PySem.Spec PyProof.Rows
def inClass (s : Stmt) (j : Nat) : Stmt := match s with
  | .ClassDef _ _ _ body _ _ _ _ _ _ _ => body.getD j (.Pass ⟨0, 0, 0, 0⟩)
  | _ => .Pass ⟨0, 0, 0, 0⟩
def defArgs (s : Stmt) : Arguments := match s with
  | .FunctionDef _ a _ _ _ _ _ _ _ _ => a
  | _ => { posonlyargs := [], args := [], vararg := none, kwonlyargs := [], kw_defaults := [], kwarg := none, defaults := [] }
def defBody (s : Stmt) : List Stmt := match s with
  | .FunctionDef _ _ b _ _ _ _ _ _ _ => b
  | _ => []
def defScope (s : Stmt) : Scope := match s with
  | .FunctionDef _ _ _ _ _ _ sc _ _ _ => sc
  | _ => { kind := .function, names := [], isGenerator := false, isCoroutine := false }
abbrev CX0 : CXT := fun _ _ _ _ _ _ => False
abbrev E0 : XK := fun _ _ _ => False
theorem pass0 {X : Cx} : Passes CX0 X E0 := fun _ _ _ _ _ _ _ h => h.elim
structure Fun (K : PySem.W.Frag) (x qual : Str) (st : Stmt) (f : Addr) (fd : FuncData) : Prop where
  ex : ∃ (oc : Value) (od : Option Addr) (kV doc pm : Value) (an : Option Addr) (cdv ct : Value) (osl : Array (Option Value)),
    fd = PySem.W.fnOf x qual (defArgs st) (defBody st) (defScope st) .none kV doc pm an cdv ct ∧ K.lookup f = some ⟨oc, od, .func fd, osl⟩ ∧ PySem.W.codeIn K cdv qual = true
  kp : PySem.W.keepIn K (.ref f) = true
section
variable {P : Program} {w : World} {K : PySem.W.Frag} {mg : Str → Option Value} {base : Heap}
theorem Fun.ok {x qual : Str} {st : Stmt} {f : Addr} {fd : FuncData} {N ps : List Str} {k : Nat} {sp : Sp} (F : Fun K x qual st f fd) (S : FnScope N ps (defScope st)) (len : ∀ vs H Q E, sp vs H Q E → vs.length = ps.length)
    (hbody : ∀ (cdv : Value) (A : Around) (outer : List Env) (s : Shared) (H : Hp) (vs : List V) (Q : VK) (E : XK), Room k (A.deeper (envOfC qual (defScope st) s.heap.objs.size f cdv)) → sp vs H Q E →
      ∃ t, PSs (cxOf CX0 P w K mg base N qual (defScope st) f cdv A outer s H E).nox (defBody st) t ∧ t { nx := fun _ H' => Q .non H', rt := Q } (start N vs) H) : FnOk P w K mg base CX0 (k + 1) f fd ps sp := by
  obtain ⟨oc, od, kV, doc, pm, an, cdv, ct, osl, rfl, lk, hcd⟩ := F.ex
  refine fn_of lk hcd S len fun A outer s H vs Q E hr hsp => ?_
  obtain ⟨t, h, q⟩ := hbody cdv A outer s H vs Q E hr hsp
  exact ⟨t, h.nox, q⟩
theorem Fun.binds {x qual : Str} {st : Stmt} {f : Addr} {fd : FuncData} {ps : List Str} (F : Fun K x qual st f fd)
    (h : ∀ (kV doc pm : Value) (an : Option Addr) (cdv ct : Value) (us : List Value), us.length = ps.length → bindArgs (PySem.W.fnOf x qual (defArgs st) (defBody st) (defScope st) .none kV doc pm an cdv ct) ⟨us, []⟩ = pure (ps.zip us)) : Binds K fd ps [] := by
  obtain ⟨oc, od, kV, doc, pm, an, cdv, ct, osl, rfl, lk, hcd⟩ := F.ex
  exact .all (h kV doc pm an cdv ct)
theorem fun_mk {x qual : Str} {st : Stmt} {f : Addr} {oc : Value} {od an : Option Addr} {osl : Array (Option Value)} {kV doc pm cdv ct : Value} (l : K.lookup f = some ⟨oc, od, .func (PySem.W.fnOf x qual (defArgs st) (defBody st) (defScope st) .none kV doc pm an cdv ct), osl⟩)
    (c : PySem.W.codeIn K cdv qual = true) (k : PySem.W.keepIn K (.ref f) = true) : Fun K x qual st f (PySem.W.fnOf x qual (defArgs st) (defBody st) (defScope st) .none kV doc pm an cdv ct) := ⟨⟨oc, od, kV, doc, pm, an, cdv, ct, osl, rfl, l, c⟩, k⟩
end
theorem hu_of {A : Around} {k : Nat} (hr : Room k A) : A.units + 1 < cLine := Nat.lt_of_le_of_lt (Nat.add_le_add_left (by decide : 1 ≤ 64) _) hr.units
theorem small1000 {n : Nat} (h : n ≤ 1000) : n < sizeLine := Nat.lt_of_le_of_lt h (by decide)
section
variable {X : Cx}
theorem pv (i : Nat) {x : Str} {pos : Pos} (hN : X.N[i]? = some x := by rfl) (hv : Vis X.env.scope x := by first | exact Or.inl rfl | exact Or.inr (Or.inl rfl) | exact Or.inr (Or.inr rfl)) (hd : (x == ("__debug__" : Str)) = false := by decide)
    (hcd : (x == ("__classdict__" : Str)) = false := by decide) : PE X (.Name x pos) (tVar i) := pe_var hN hv hd hcd
end
theorem iteF {A B : Prop} (h : B) : if false = true then A else B := by
  rw [if_neg Bool.false_ne_true]
  exact h
theorem iteT {A B : Prop} (h : A) : if true = true then A else B := by
  rw [if_pos rfl]
  exact h
theorem iteNS {c A B : Prop} [Decidable c] (hc : c) (h : B) : if (!decide c) = true then A else B := by
  rw [decide_eq_true hc]
  exact iteF h
def Same (H H' : Hp) : Prop := ∀ b o, H b = some o → H' b = some o
theorem Same.refl (H : Hp) : Same H H := fun _ _ h => h
theorem Same.trans {H H1 H2 : Hp} (a : Same H H1) (b : Same H1 H2) : Same H H2 := fun c o h => b c o (a c o h)
theorem Same.free {H H' : Hp} (e : Same H H') {l : Addr} (h : H' l = Option.none) : H l = Option.none := by
  cases q : H l with
  | none => rfl
  | some o =>
    rw [e l o q] at h
    cases h
theorem Same.seq {K : PySem.W.Frag} {H H' : Hp} {a : Addr} {xs : List V} (e : Same H H') (h : SqL K H a xs) : SqL K H' a xs := by
  rcases h with (h | ⟨o, h⟩) | h
  · exact .inl (.inl (e _ _ h))
  · exact .inl (.inr ⟨o, e _ _ h⟩)
  · exact .inr h
open PySem PySem.Spec PyProof.Rows
theorem closure_is {scope : Scope} {env : Env} (h : ∀ y ∈ scope.names, y.2 = .free → ∃ c, env.cells.lookup y.1 = some c) :
    ∃ cl, closureFor scope env = pure cl ∧ (∀ x c, cl.lookup x = some c → env.cells.lookup x = some c ∧ (x, NameKind.free) ∈ scope.names) ∧
      ∀ x, (x, NameKind.free) ∈ scope.names → cl.lookup x = env.cells.lookup x := by
  have key : ∀ (l : List (Str × NameKind)) (cs : List (Str × Addr)), (∀ y ∈ l, y.2 = .free → ∃ c, env.cells.lookup y.1 = some c) →
      ∃ cl, (forIn l cs (fun (x : Str × NameKind) (cs : List (Str × Addr)) => do
          if x.2 == .free then
            let c ← cellOf env x.1
            pure (ForInStep.yield ((x.1, c) :: cs))
          else pure (ForInStep.yield cs)) : Sem (List (Str × Addr))) = pure cl ∧
        (∀ x c, cl.lookup x = some c → (env.cells.lookup x = some c ∧ (x, NameKind.free) ∈ l) ∨ cs.lookup x = some c) ∧
        ∀ x, ((x, NameKind.free) ∈ l → cl.lookup x = env.cells.lookup x) ∧ ((cs.lookup x = env.cells.lookup x) → cl.lookup x = env.cells.lookup x) := by
    intro l
    induction l with
    | nil => intro cs _; exact ⟨cs, rfl, fun x c e => .inr e, fun x => ⟨fun z => absurd z (by simp), fun z => z⟩⟩
    | cons y r ih =>
      intro cs hl
      obtain ⟨n, k⟩ := y
      by_cases hk : k = .free
      · subst hk
        obtain ⟨c, hc⟩ := hl (n, .free) List.mem_cons_self rfl
        obtain ⟨cl, e1, e2, e3⟩ := ih ((n, c) :: cs) fun y hy => hl y (List.mem_cons_of_mem _ hy)
        refine ⟨cl, ?_, fun x d e => ?_, fun x => ⟨fun z => ?_, fun z => ?_⟩⟩
        · rw [List.forIn_cons]
          simp only [beq_self_eq_true, if_true, cellOf, hc]
          exact e1
        · rcases e2 x d e with ⟨z1, z2⟩ | z
          · exact .inl ⟨z1, List.mem_cons_of_mem _ z2⟩
          · rw [List.lookup_cons] at z
            by_cases hx : x == n
            · rw [hx] at z
              have hx' : x = n := by simpa using hx
              subst hx'
              refine .inl ⟨?_, List.mem_cons_self⟩
              rw [hc]; exact z
            · have hx' : (x == n) = false := by simpa using hx
              rw [hx'] at z
              exact .inr z
        · rcases List.mem_cons.mp z with z | z
          · injection z with z1 _
            subst z1
            refine (e3 x).2 ?_
            rw [List.lookup_cons, hc]
            simp
          · exact (e3 x).1 z
        · by_cases hx : x = n
          · subst hx
            refine (e3 x).2 ?_
            rw [List.lookup_cons, hc]
            simp
          · refine (e3 x).2 ?_
            rw [List.lookup_cons]
            have hx' : (x == n) = false := by simpa using hx
            rw [hx']
            exact z
      · obtain ⟨cl, e1, e2, e3⟩ := ih cs fun y hy => hl y (List.mem_cons_of_mem _ hy)
        have hb : (k == NameKind.free) = false := by simpa using hk
        refine ⟨cl, ?_, fun x d e => ?_, fun x => ⟨fun z => ?_, (e3 x).2⟩⟩
        · rw [List.forIn_cons]
          simp only [hb, Bool.false_eq_true, if_false]
          exact e1
        · rcases e2 x d e with ⟨z1, z2⟩ | z
          · exact .inl ⟨z1, List.mem_cons_of_mem _ z2⟩
          · exact .inr z
        · rcases List.mem_cons.mp z with z | z
          · injection z with _ z2
            exact absurd z2.symm hk
          · exact (e3 x).1 z
  obtain ⟨cl, e1, e2, e3⟩ := key scope.names [] h
  refine ⟨cl, ?_, fun x c e => ?_, fun x z => (e3 x).1 z⟩
  · unfold closureFor
    have := e1
    simpa using this
  · rcases e2 x c e with z | z
    · exact z
    · simp at z
theorem lookup_relabel {env : Env} (hk : env.scope.kind = .function) : ∀ {names : List (Str × NameKind)} {x : Str} {k : NameKind}, names.lookup x = some k → k ≠ .free →
    (names.map fun (n, k) => if (k == NameKind.free && env.scope.kind == .function && env.kindOf n == some .cell) then (n, NameKind.cell) else (n, k)).lookup x = some k
  | [], _, _, h, _ => by simp at h
  | (n, k') :: r, x, k, h, hf => by
    have ih := @lookup_relabel env hk r x k
    show List.lookup x ((if (k' == NameKind.free && env.scope.kind == .function && env.kindOf n == some .cell) = true then (n, NameKind.cell) else (n, k')) :: _) = _
    cases hx : x == n with
    | true =>
      simp only [List.lookup_cons, hx] at h
      cases h
      have : (k' == NameKind.free) = false := by simpa using hf
      simp [List.lookup_cons, hx, this]
    | false =>
      simp only [List.lookup_cons, hx] at h
      by_cases hc : (k' == NameKind.free && env.scope.kind == .function && env.kindOf n == some .cell) = true
      · rw [if_pos hc]; simp only [List.lookup_cons, hx]; exact ih h hf
      · rw [if_neg hc]; simp only [List.lookup_cons, hx]; exact ih h hf
theorem lookup_relabel_free {env : Env} (hk : env.scope.kind = .function) : ∀ {names : List (Str × NameKind)} {x : Str}, names.lookup x = some .free → env.kindOf x = some .cell →
    (names.map fun (n, k) => if (k == NameKind.free && env.scope.kind == .function && env.kindOf n == some .cell) then (n, NameKind.cell) else (n, k)).lookup x = some .cell
  | [], _, h, _ => by simp at h
  | (n, k') :: r, x, h, hc => by
    have ih := @lookup_relabel_free env hk r x
    show List.lookup x ((if (k' == NameKind.free && env.scope.kind == .function && env.kindOf n == some .cell) = true then (n, NameKind.cell) else (n, k')) :: _) = _
    cases hx : x == n with
    | true =>
      simp only [List.lookup_cons, hx] at h
      cases h
      have hxn : x = n := by simpa using hx
      subst hxn
      simp [List.lookup_cons, hk, hc]
    | false =>
      simp only [List.lookup_cons, hx] at h
      by_cases hd : (k' == NameKind.free && env.scope.kind == .function && env.kindOf n == some .cell) = true
      · rw [if_pos hd]; simp only [List.lookup_cons, hx]; exact ih h hc
      · rw [if_neg hd]; simp only [List.lookup_cons, hx]; exact ih h hc
def cxComp (X : Cx) (Nc : List Str) (scope : Scope) (cl : List (Str × Addr)) (C : Addr) (fp : List Addr) (s : Shared) (H : Hp) : Cx where
  prog := X.prog
  w := X.w
  K := X.K
  mg := X.mg
  base := X.base
  A := X.A
  N := Nc
  s₀ := s
  H₀ := H
  env := compEnvC scope cl C X.env
  outer := X.stack
  stack := X.stack
  ex := fp
  fn := fun _ => false
  calm := X.calm
  pn := []
  xe := fun _ _ => False
def capV (σ : St) (caps : List Nat) : St := caps.map fun j => (σ[j]?).join
structure CompOk (X : Cx) (x : Str) (Nc : List Str) (caps : List Nat) (scope : Scope) : Prop where
  kind : scope.kind = .function
  cell : ∀ y ∈ scope.names, y.2 ≠ .cell
  names : ∀ y ∈ scope.names, y.2 = .local → scope.names.lookup y.1 = some .local
  fr : ∀ y ∈ scope.names, y.2 = .free → X.env.scope.names.lookup y.1 = some .cell ∧ scope.names.lookup y.1 = some .free
  loc : scope.names.lookup x = some .local
  len : Nc.length = caps.length + 1
  hd : Nc[0]? = some x
  nd : Nc.Nodup
  cap : ∀ k j, caps[k]? = some j → ∃ y, Nc[k + 1]? = some y ∧ X.N[j]? = some y ∧ scope.names.lookup y = some .free
theorem compLoop_any {prog : Program} {w : World} {A : Around} {R : Result → Shared → Prop} {s : Shared} {elt target iter : Expr} {ifs : List Expr} {scope : Scope} {pos : Pos} {it acc : Value} {env : Env} (I : Nat → Shared → Prop)
    (turn : ∀ n s, I n s → wpAny (model prog w) A (pyNext it) (fun r s₁ => match r with
      | none => R (.ok .next) s₁
      | some v => wpAny (model prog w) A (letOwnedTupleGo target it v) (fun _ s1' => wpAny (model prog w) A (assign target env v) (fun _ s₂ =>
          wpAny (model prog w) A (forIn ifs true fun c r => if r = true then do let ok ← isTrue c env (eval c env); pure (ForInStep.yield ok) else pure (ForInStep.yield r)) (fun ok s₃ =>
            if ok = true then wpAny (model prog w) A (eval elt env) (fun x s₄ =>
              wpAny (model prog w) A (call (.builtin "list.append") [acc, x]) (fun _ s₅ => ∃ m, m < n ∧ I m s₅) (notedBy (model prog w) A env fun e s' => R (.error e) s') s₄) (notedBy (model prog w) A env fun e s' => R (.error e) s') s₃
            else ∃ m, m < n ∧ I m s₃) (notedBy (model prog w) A env fun e s' => R (.error e) s') s₂) (notedBy (model prog w) A env fun e s' => R (.error e) s') s1') (notedBy (model prog w) A env fun e s' => R (.error e) s') s₁) (notedBy (model prog w) A env fun e s' => R (.error e) s') s)
    (n : Nat) (h : I n s) :
    codeAny (model prog w) A (.compLoop (.ListComp elt [⟨target, iter, ifs, 0⟩] scope pos) 0 it acc env) R s := by
  refine codeAny_loop rfl I (fun n s hI => ?_) n h
  show wpAny _ A ((compTurn (.ListComp elt [⟨target, iter, ifs, 0⟩] scope pos) 0 it acc env).onRaise (fun x => do noteFrame x env; theTreesLotGoes x)) _ _ s
  refine wpAny_noted ?_
  rw [compTurn_list]
  refine wpAny_bind (wpAny_standAt (wpAny_bind (wpAny_mono (turn n s hI) (fun r s₁ h₁ => ?_) fun _ _ h' => h')))
  cases r with
  | none => exact wpAny_pure h₁
  | some v =>
    refine wpAny_bind (wpAny_mono h₁ (fun _ s1' h₁ => ?_) fun _ _ h' => h')
    refine wpAny_bind (wpAny_mono h₁ (fun _ s₂ h₂ => wpAny_bind (wpAny_mono h₂ (fun ok s₃ h₃ => ?_) fun _ _ h' => h')) fun _ _ h' => h')
    cases ok with
    | false => exact wpAny_pure ⟨rfl, h₃⟩
    | true =>
      exact wpAny_bind (wpAny_bind (wpAny_mono h₃ (fun x s₄ h₄ => wpAny_bind (wpAny_mono h₄ (fun _ s₅ h₅ => wpAny_pure (wpAny_pure ⟨rfl, h₅⟩)) fun _ _ h' => h')) fun _ _ h' => h'))
def tNoTest : TT := fun _ H Q => Q true H
inductive PIf (X : Cx) : List Expr → TT → Prop where
  | nil : PIf X [] tNoTest
  | one {c : Expr} {t : TT} (h : PT X c t) : PIf X [c] t
theorem PIf.run {X : Cx} {ifs : List Expr} {t : TT} (h : PIf X ifs t) {pins : List (Addr × Obj)} {s : Shared} {σ : St} {H : Hp} {Q : Bool → Hp → Prop} (I : Inv X pins σ H s) (ht : t σ H Q) :
    wpAny (model X.prog X.w) X.A (forIn ifs true fun c r => if r = true then do let ok ← isTrue c X.env (eval c X.env); pure (ForInStep.yield ok) else pure (ForInStep.yield r)) (TP X pins σ Q) X.xe s := by
  cases h with
  | nil => exact wpAny_tests_nil ⟨H, I, ht⟩
  | one h => exact wpAny_tests_one (h pins s σ H Q I ht)
def tCompW (caps : List Nat) (tc : TT) (te : TE) (J : It) (σ : St) (H : Hp) (Q : VK) : Prop :=
  ∃ W : Nat → Nat → List V → Hp → Prop, (∃ m, W 0 m [] H) ∧ ∀ i m ys H, W i m ys H →
    (J.stop i H ∧ ys.length ≤ sizeLine ∧ ∀ p, H p = none → Q (.ref p) (upd H p (.lst ys))) ∨
    (J.go i H ∧ ys.length < sizeLine ∧ ∀ x H', J.yld i H x H' → tc (some x :: capV σ caps) H' fun b H2 =>
      if b = true then te (some x :: capV σ caps) H2 fun y H3 => ∃ m', m' < m ∧ W (i + 1) m' (ys ++ [y]) H3 else ∃ m', m' < m ∧ W (i + 1) m' ys H2)
def tComp (wi : TI) (caps : List Nat) (tc : TT) (te : TE) : TE := fun σ H Q => wi σ H fun J H1 => tCompW caps tc te J σ H1 Q
section
variable {X : Cx} {pins : List (Addr × Obj)} {σ : St} {H : Hp} {s : Shared}
theorem Un.track {fs ex : List Addr} {H H' : Hp} {h h' : Heap} {a : Addr} {o : HO} (u : Un fs ex H H' h h') (ha : h.objs.size ≤ a) (hn : H' a = none) : Un fs ex H (upd H' a o) h h' where
  keep := u.keep
  slot := u.slot
  free := fun b ob q n hx => by rw [upd_ne (Nat.ne_of_lt (Nat.lt_of_lt_of_le (Heap.lt_size q) ha))]; exact u.free b ob q n hx
  there := u.there
  tups := fun b xs q => by rw [upd_ne (ne_of_none (u.tups b xs q) hn)]; exact u.tups b xs q
  frzs := fun b ob xs q => by rw [upd_ne (ne_of_none (u.frzs b ob xs q) hn)]; exact u.frzs b ob xs q
  tbls := fun b ps q => by
    obtain ⟨m, e⟩ := u.tbls b ps q
    exact ⟨m, by rw [upd_ne (ne_of_none e hn)]; exact e⟩
theorem HOk.track {P : Program} {w : World} {H : Hp} {h : Heap} {a : Addr} {o : HO} (x : HOk P w H h) (hn : H a = none) (new : ObjOk P w (upd H a o) h a o) : HOk P w (upd H a o) h := fun b u e => by
  by_cases hb : b = a
  · subst hb; rw [upd_same] at e; cases e; exact new
  · rw [upd_ne hb] at e
    exact (x b u e).stay (fun c v _ q => q) (fun c q => by rw [upd_ne (ne_of_none q hn)]; exact q) fun c xs q => by rw [upd_ne (ne_of_none q hn)]; exact q
theorem comp_ok {x : Str} {Nc : List Str} {caps : List Nat} {scope : Scope} {cl : List (Str × Addr)} {C : Addr} {fp : List Addr} (I : Inv X pins σ H s) (O : CompOk X x Nc caps scope)
    (hcl : ∀ x c, cl.lookup x = some c → X.env.cells.lookup x = some c ∧ (x, NameKind.free) ∈ scope.names) (hcl2 : ∀ x, (x, NameKind.free) ∈ scope.names → cl.lookup x = X.env.cells.lookup x)
    (hC : s.heap.objs.size ≤ C) (hfp : ∀ b ∈ fp, FpOk X pins H b) (hfo : ∀ b ∈ fp, b < s.heap.objs.size) : (cxComp X Nc scope cl C fp s H).Ok where
  mod := I.ok.mod
  kind := O.kind
  glob := I.ok.glob
  blt := I.ok.blt
  above := hC
  inj := fun a b c e1 e2 => I.ok.inj a b c (hcl a c e1).1 (hcl b c e2).1
  has := fun y hy => by
    have mem : (y, NameKind.free) ∈ scope.names := by
      have hy' : ((relabel scope X.env).names.lookup y = some .cell) ∨ ((relabel scope X.env).names.lookup y = some .free) := hy
      have hm : ∃ k, (y, k) ∈ (relabel scope X.env).names ∧ (k = .cell ∨ k = .free) := by
        rcases hy' with h | h
        · exact ⟨_, PySem.mem_of_lookup h, .inl rfl⟩
        · exact ⟨_, PySem.mem_of_lookup h, .inr rfl⟩
      obtain ⟨k, hm, hk⟩ := hm
      obtain ⟨⟨n, k'⟩, hm', e⟩ := List.mem_map.mp hm
      dsimp only at e
      by_cases hc : (k' == NameKind.free && X.env.scope.kind == .function && X.env.kindOf n == some .cell) = true
      · rw [if_pos hc] at e
        injection e with e1 _
        subst e1
        have : k' = .free := by
          have := (Bool.and_eq_true _ _ ▸ (Bool.and_eq_true _ _ ▸ hc).1).1
          simpa using this
        subst this
        exact hm'
      · rw [if_neg hc] at e
        injection e with e1 e2
        subst e1 e2
        rcases hk with hk | hk
        · subst hk; exact absurd rfl (O.cell _ hm')
        · subst hk; exact hm'
    obtain ⟨c, e⟩ := I.ok.has y (.inl (O.fr _ mem rfl).1)
    exact ⟨c, (hcl2 y mem).trans e⟩
  cab := fun _ _ z => nomatch z
  hd := I.ok.hd
  frames := I.ok.frames
  stk := .inl rfl
  exf := fun b hb => ⟨Nat.ne_of_lt (Nat.lt_of_lt_of_le (hfo b hb) hC), fun y c e => (hfp b hb).2.2.2.2.1 y c (hcl y c e).1⟩
  bs := I.bs
  bsz := Nat.le_trans I.ok.bsz I.sz
  noex := fun b o e hb => by
    rcases (hfp b hb).2.2.2.1 with z | z
    · exact I.ok.noex b o e z
    · exact absurd (Nat.lt_of_lt_of_le (Heap.lt_size e) (Nat.le_trans I.ok.bsz z)) (Nat.lt_irrefl _)
  exfs := fun b hb z => by
    rcases List.mem_cons.mp (I.stkSub b z) with e | e
    · exact (hfp b hb).2.1 e
    · exact (hfp b hb).2.2.1 e
  funs := I.stack
  frf := I.stkFree
end
open PySem PySem.Spec PyProof.Rows
section
variable {X : Cx} {pins : List (Addr × Obj)} {σ : St} {H : Hp} {s : Shared}
theorem capV_len (σ : St) (caps : List Nat) : (capV σ caps).length = caps.length := by unfold capV; rw [List.length_map]
theorem capV_get {σ : St} {caps : List Nat} {k : Nat} {v : V} (e : (capV σ caps)[k]? = some (some v)) : ∃ j, caps[k]? = some j ∧ σ[j]? = some (some v) := by
  unfold capV at e
  rw [List.getElem?_map] at e
  cases hk : caps[k]? with
  | none => rw [hk] at e; cases e
  | some j =>
    rw [hk] at e
    have e' : (σ[j]?).join = some v := Option.some.inj e
    refine ⟨j, rfl, ?_⟩
    cases hj : σ[j]? with
    | none => rw [hj] at e'; cases e'
    | some o => rw [hj] at e'; rw [show o = some v from e']
theorem Un.but {fs ex : List Addr} {H H' : Hp} {h h1 h2 : Heap} {C : Addr} (u : Un fs ex H H' h h1) (hs : Heap.SameBut C h1 h2) (hC : h.objs.size ≤ C) : Un fs ex H H' h h2 where
  keep := fun b o q n hb hx => (hs.2 b (Nat.ne_of_lt (Nat.lt_of_lt_of_le (Heap.lt_size q) hC))).trans (u.keep b o q n hb hx)
  slot := fun b o q n hb hx => by
    obtain ⟨sl, e⟩ := u.slot b o q n hb hx
    exact ⟨sl, (hs.2 b (Nat.ne_of_lt (Nat.lt_of_lt_of_le (Heap.lt_size q) hC))).trans e⟩
  free := u.free
  there := fun b o q hx => by
    obtain ⟨o', e⟩ := u.there b o q hx
    exact ⟨o', (hs.2 b (Nat.ne_of_lt (Nat.lt_of_lt_of_le (Heap.lt_size q) hC))).trans e⟩
  tups := u.tups
  frzs := u.frzs
  tbls := u.tbls
theorem comp_start {x : Str} {Nc : List Str} {caps : List Nat} {scope : Scope} {cl : List (Str × Addr)} {C : Addr} {fp : List Addr} {h' : Heap} {tk : Nat} {m0 : Str → Option Value} (I : Inv X pins σ H s) (O : CompOk X x Nc caps scope)
    (hcl : ∀ x c, cl.lookup x = some c → X.env.cells.lookup x = some c ∧ (x, NameKind.free) ∈ scope.names) (hcl2 : ∀ x, (x, NameKind.free) ∈ scope.names → cl.lookup x = X.env.cells.lookup x)
    (hC : s.heap.objs.size ≤ C) (hfp : ∀ b ∈ fp, FpOk X pins H b) (hfo : ∀ b ∈ fp, b < s.heap.objs.size)
    (old : ∀ b o, s.heap.get? b = some o → h'.get? b = some o) (hns : h'.Ns C m0) :
    Inv (cxComp X Nc scope cl C fp s H) [] (none :: capV σ caps) H { s with heap := h', toks := tk } where
  ok := comp_ok I O hcl hcl2 hC hfp hfo
  os := rfl
  bare := I.bare
  base := Un.kept old
  loc := by
    refine ⟨m0, hns, fun i y v hN hσ hv => ?_⟩
    cases i with
    | zero => simp at hσ
    | succ k =>
      rw [List.getElem?_cons_succ] at hσ
      obtain ⟨j, hj, hs⟩ := capV_get hσ
      obtain ⟨z, hz1, hz2, hz3⟩ := O.cap k j hj
      have hN' : Nc[k + 1]? = some y := hN
      rw [hz1] at hN'
      cases hN'
      have mem : (y, NameKind.free) ∈ scope.names := PySem.mem_of_lookup hz3
      have hk := (O.fr _ mem rfl).1
      obtain ⟨m, hn, hl⟩ := I.loc
      obtain ⟨u, r, l⟩ := hl j y v hz2 hs (.inr (.inl hk))
      refine ⟨u, r, ?_⟩
      rcases l with ⟨k', _⟩ | ⟨_, c, hc, z⟩
      · have k'' : X.env.scope.names.lookup y = some .local := k'
        rw [hk] at k''; cases k''
      · obtain ⟨o, ho, hd⟩ := z
        exact .inr ⟨.inl (lookup_relabel_free I.ok.kind hz3 hk), c, (hcl2 y mem).trans hc, o, old _ _ ho, hd⟩
  cell := fun y c e => by
    obtain ⟨v, o, ho, hd⟩ := I.cell y c (hcl y c e).1
    exact ⟨v, o, old _ _ ho, hd⟩
  free := I.hok.fresh hC
  freeC := fun y c e => I.freeC y c (hcl y c e).1
  pin := fun p hp => absurd (show p ∈ ([] : List (Addr × Obj)) from hp) (by simp)
  hok := I.hok.kept old
  len := by
    show (none :: capV σ caps).length = Nc.length
    rw [List.length_cons, capV_len, O.len]
abbrev rawL (us : List Value) (n : Nat) : Obj := { cls := .type "list", data := .seq us.toArray n }
theorem comp_fr {X : Cx} {sc0 scope : Scope} (h : X.env.scope = sc0) (hd : ∀ y ∈ scope.names, y.2 = .free → sc0.names.lookup y.1 = some .cell ∧ scope.names.lookup y.1 = some .free) :
    ∀ y ∈ scope.names, y.2 = .free → X.env.scope.names.lookup y.1 = some .cell ∧ scope.names.lookup y.1 = some .free := by
  rw [h]
  exact hd
theorem comp_block {x : Str} {px : Pos} {Nc : List Str} {caps : List Nat} {scope : Scope} {cl : List (Str × Addr)} {iter elt : Expr} {ifs : List Expr} {pos : Pos} {tc : TT} {te : TE} {Q : VK} {it : Addr} {fp : List Addr} {tn : Nat → Heap → Prop} {J : It}
    {RR : Value → Addr → Result → Shared → Prop} {E : Value → Shared → Prop}
    (O : CompOk X x Nc caps scope) (hc : X.calm = true)
    (hcl : ∀ x c, cl.lookup x = some c → X.env.cells.lookup x = some c ∧ (x, NameKind.free) ∈ scope.names) (hcl2 : ∀ x, (x, NameKind.free) ∈ scope.names → cl.lookup x = X.env.cells.lookup x)
    (hte : ∀ C fp s H, PE (cxComp X Nc scope cl C fp s H) elt te) (htc : ∀ C fp s H, PIf (cxComp X Nc scope cl C fp s H) ifs tc)
    (I : Inv X pins σ H s) (T : Turn X.prog X.w X.K (.Name x px) J fp it tn) (st : tn 0 s.heap) (hfp : ∀ b ∈ fp, FpOk X pins H b) (h : tCompW caps tc te J σ H Q)
    (hRR : ∀ (D C : Addr) (s' : Shared) (m : Str → Option Value), s'.heap.Ns C m → (∀ h', Heap.SameBut C s'.heap h' → ∃ H', Inv X pins σ H' { s' with heap := h' } ∧ H' C = none ∧ Q (.ref D) H') →
      s.heap.objs.size ≤ C → RR (.ref D) C (.ok .next) s') :
    wpAny (model X.prog X.w) X.A (newList []) (fun acc s₃ => wpAny (model X.prog X.w) X.A (newFunctionEnv scope X.env.globals cl [] X.env.qual none .none (some X.env)) (fun cenv s₄ =>
      codeAny (model X.prog X.w) X.A (.compStart (.ListComp elt [⟨.Name x px, iter, ifs, 0⟩] scope pos) 0 (.ref it) acc { cenv with scope := relabel scope X.env }) (RR acc cenv.locals) s₄) E s₃) E s := by
  refine wpAny_newObj_type (wpAny_newFunctionEnv O.cell (by intro y hy; simp at hy) (fun h₁ hns₁ hsb₁ => ?_) O.kind)
  dsimp only at hns₁ hsb₁ ⊢
  generalize hH2 : s.heap.push { cls := .type "list", dict := none, data := .seq ([] : List Value).toArray } = H2 at hns₁ hsb₁ ⊢
  have hC : H2.objs.size = s.heap.objs.size + 1 := by rw [← hH2, Heap.size_push]
  have hCle : s.heap.objs.size ≤ H2.objs.size := by rw [hC]; exact Nat.le_succ _
  have hDC : s.heap.objs.size ≠ H2.objs.size := by rw [hC]; exact Nat.ne_of_lt (Nat.lt_succ_self _)
  have below : ∀ b, b < s.heap.objs.size → b ≠ H2.objs.size ∧ b ≠ s.heap.objs.size := fun b hb => ⟨by rw [hC]; exact Nat.ne_of_lt (Nat.lt_succ_of_lt hb), Nat.ne_of_lt hb⟩
  have old : ∀ b o, s.heap.get? b = some o → h₁.get? b = some o := fun b o e => hsb₁.extBut b o (below b (Heap.lt_size e)).1 (Heap.get?_push_of_some _ (hH2 ▸ Heap.get?_push_of_some _ e))
  have hacc : h₁.get? s.heap.objs.size = some (rawL [] 0) := hsb₁.extBut _ _ hDC (Heap.get?_push_of_some _ (hH2 ▸ Heap.get?_push_size _ rfl))
  have hfo : ∀ b ∈ fp, b < s.heap.objs.size := fun b hb => by
    obtain ⟨o, e, _⟩ := T.obj _ _ st b hb
    exact Heap.lt_size e
  have st1 : tn 0 h₁ := T.keep _ _ _ st fun b _ o e => old b o e
  generalize hDD : s.heap.objs.size = D at *
  generalize hCC : H2.objs.size = C at *
  have DleC : D ≤ C := hCle
  let Y : Cx := cxComp X Nc scope cl C fp s H
  have I0 : Inv Y [] (none :: capV σ caps) H { s with heap := h₁, toks := s.toks + ([] : List (Str × Value)).length } := comp_start I O hcl hcl2 (by rw [hDD]; exact hCle) hfp (fun b hb => by rw [hDD]; exact hfo b hb) old hns₁
  have Dfree : H D = none := by rw [← hDD]; exact I.hok.fresh (Nat.le_refl _)
  have DneC : D ≠ C := hDC
  have Dfs : D ∉ Y.fs := fun z => by
    have := I.stack.mem (show D ∈ frs X.stack from z)
    obtain ⟨_, o, e, _⟩ := this
    have := Heap.lt_size e
    rw [hDD] at this
    exact Nat.lt_irrefl _ this
  have Dcell : ∀ y c, Y.env.cells.lookup y = some c → c ≠ D := fun y c e z => by
    obtain ⟨v, q⟩ := I.cell y c (hcl y c e).1
    have := q.lt
    rw [z, hDD] at this
    exact Nat.lt_irrefl _ this
  have Dfp : ∀ b ∈ fp, b ≠ D := fun b hb => Nat.ne_of_lt (hfo b hb)
  have fpY : ∀ {H' : Hp}, (∀ b ∈ fp, H' b = none) → ∀ b ∈ fp, FpOk Y [] H' b := fun hn b hb =>
    ⟨hn b hb, Nat.ne_of_lt (Nat.lt_of_lt_of_le (hfo b hb) DleC), fun z => I0.ok.exfs b hb z, .inl hb, fun y c e => (I0.ok.exf b hb).2 y c e, fun p hp => absurd (show p ∈ ([] : List (Addr × Obj)) from hp) (by simp)⟩
  obtain ⟨W, ⟨m0, w0⟩, turn⟩ := h
  have loop : ∀ s₃ : Shared, s₃ = { s with heap := h₁, toks := s.toks + ([] : List (Str × Value)).length } →
      codeAny (model X.prog X.w) X.A (.compLoop (.ListComp elt [⟨.Name x px, iter, ifs, 0⟩] scope pos) 0 (.ref it) (.ref D) (compEnvC scope cl C X.env)) (RR (.ref D) C) s₃ := by
    rintro s₃ rfl
    refine compLoop_any (fun n s' => ∃ (i : Nat) (o : Option V) (H' : Hp) (ys : List V) (us : List Value) (k : Nat), Inv Y [] (o :: capV σ caps) H' s' ∧ tn i s'.heap ∧ (∀ b ∈ fp, H' b = none) ∧ s'.heap.get? D = some (rawL us k) ∧ H' D = none ∧ Vals ys us ∧ W i n ys H')
      ?_ m0 ⟨0, none, H, [], [], 0, I0, st1, fun b hb => (hfp b hb).1, hacc, Dfree, .nil, w0⟩
    rintro n s3 ⟨i, o3, H3, ys, us, k, I3, st3, fr3, hD3, nD3, rv, w3⟩
    have fpP : ∀ {H' : Hp} {ob : Obj}, (∀ b ∈ fp, H' b = none) → ∀ b ∈ fp, FpOk Y [(D, ob)] H' b := fun hn b hb => by
      obtain ⟨g0, g1, g2, g3, g4, _⟩ := fpY hn b hb
      refine ⟨g0, g1, g2, g3, g4, fun p hp => ?_⟩
      have e : p = (D, _) := List.mem_singleton.mp (show p ∈ [(D, _)] from hp)
      rw [e]
      exact Ne.symm (Dfp b hb)
    have IP : Inv Y [(D, rawL us k)] (o3 :: capV σ caps) H3 s3 := I3.pins_of fun p hp => by
      have e : p = (D, rawL us k) := List.mem_singleton.mp hp
      subst e
      exact ⟨hD3, nD3, DneC, Dfs, fun v z => by cases z⟩
    have pinD : ∀ {σ' : St} {H' : Hp} {s' : Shared} {pl : List (Addr × Obj)}, Inv Y ([(D, rawL us k)] ++ pl) σ' H' s' → s'.heap.get? D = some (rawL us k) ∧ H' D = none := fun I' => by
      have z := I'.pin (D, rawL us k) (List.mem_append_right _ (List.mem_append_left _ List.mem_cons_self))
      exact ⟨z.1, z.2.1⟩
    rcases turn i n ys H3 w3 with ⟨stop, hlen, fin⟩ | ⟨go, hlen, step⟩
    ·
      refine wpAny_mono (T.done Y rfl rfl rfl hc i _ s3 _ H3 (fun _ _ => False) IP (fpP fr3) st3 stop) (fun r s4 hr => ?_) fun _ _ z => z.elim
      obtain ⟨hr, I4⟩ := hr
      subst hr
      obtain ⟨gD, nD⟩ := pinD (pl := []) (by simpa using I4)
      obtain ⟨m, hn, _⟩ := I4.loc
      refine hRR D C s4 m hn (fun h' hs' => ⟨upd H3 D (.lst ys), ?_, (upd_ne (Ne.symm DneC)).trans I4.free, fin D nD⟩) hCle
      have nt : ∀ b ob, H3 b = some ob → b ≠ C := fun b ob e z => by
        have := I4.free
        rw [z] at e
        rw [show H3 C = none from this] at e
        cases e
      have u1 : Un (frs X.stack) fp H H3 s.heap h' := Un.but I4.base hs' (show s.heap.objs.size ≤ C by rw [hDD]; exact hCle)
      have ok1 : HOk X.prog X.w H3 h' := fun b ob e => (I4.hok b ob e).stay (fun c v hc q => (hs'.2 c (by
        rcases hc with z | z
        · rw [z]; exact nt b ob e
        · exact nt c _ z)).trans q) (fun _ q => q) fun _ _ q => q
      have gD' : h'.get? D = some (rawL us k) := (hs'.2 D DneC).trans gD
      exact I.call' (s' := { s4 with heap := h' }) (ch := fp) I4.os (u1.track (Nat.le_of_eq hDD) nD) (ok1.track nD ⟨hlen, us, k, rv, gD'⟩) I4.bare fun b hb => by
        obtain ⟨_, g1, _, g3, g4, g5⟩ := hfp b hb
        exact ⟨g3, g1, g4, g5⟩
    ·
      refine wpAny_mono (T.item Y rfl rfl rfl hc i _ s3 _ H3 (fun _ _ => False) IP (fpP fr3) st3 go) (fun r s4 hr => ?_) fun _ _ z => z.elim
      obtain ⟨u0, hr, h4⟩ := hr
      subst hr
      refine wpAny_mono h4 (fun _ s5 h5 => ?_) fun _ _ z => z.elim
      obtain ⟨x5, H5, I5, r5, y5, st5, fr5⟩ := h5
      have I5' := I5.pinned (fpP fr5) (T.obj _ _ st5)
      have tgt : PG Y (.Name x px) (gName 0) := pg_name (i := 0) O.nd O.hd (.inl (lookup_relabel I.ok.kind O.loc (by intro z; cases z))) (.inr (lookup_relabel I.ok.kind O.loc (by intro z; cases z)))
      refine wpAny_mono (tgt _ s5 _ H5 x5 u0 (fun σ2 H2 => σ2 = some x5 :: capV σ caps ∧ H2 = H5) I5' r5 ⟨rfl, rfl⟩) (fun _ s6 h6 => ?_) fun _ _ z => z.elim
      obtain ⟨_, _, I6, rfl, rfl⟩ := h6
      refine wpAny_mono ((htc C fp s H).run I6 (step x5 _ y5)) (fun b s7 h7 => ?_) fun _ _ z => z.elim
      obtain ⟨H7, I7, q7⟩ := h7
      have keepT : ∀ {σ' : St} {H' : Hp} {s' : Shared}, Inv Y ([(D, rawL us k)] ++ pinsAt fp s5.heap) σ' H' s' → tn (i + 1) s'.heap ∧ ∀ b ∈ fp, H' b = none := fun I' =>
        ⟨T.keep _ _ _ st5 fun b hb o e => (I'.pin (b, o) (List.mem_append_right _ (List.mem_append_right _ (mem_pinsAt hb e)))).1, fun b hb => by
          obtain ⟨o, e, d⟩ := T.obj _ _ st5 b hb
          exact (I'.pin (b, o) (List.mem_append_right _ (List.mem_append_right _ (mem_pinsAt hb e)))).2.1⟩
      cases b with
      | false =>
        rw [if_neg Bool.false_ne_true] at q7
        rw [if_neg Bool.false_ne_true]
        obtain ⟨m', hm, w7⟩ := q7
        obtain ⟨gD, nD⟩ := pinD I7
        obtain ⟨k1, k2⟩ := keepT I7
        exact ⟨m', hm, i + 1, some x5, H7, ys, us, k, I7.pins_of (fun p hp => nomatch hp), k1, k2, gD, nD, rv, w7⟩
      | true =>
        rw [if_pos rfl] at q7
        rw [if_pos rfl]
        refine wpAny_mono (hte C fp s H _ s7 _ H7 _ I7 q7) (fun u8 s8 h8 => ?_) fun _ _ z => z.elim
        obtain ⟨y8, H8, I8, r8, m', hm, w8⟩ := h8
        obtain ⟨gD, nD⟩ := pinD I8
        obtain ⟨k1, k2⟩ := keepT I8
        refine call_meets F.slot_list_append ⟨_, gD, rfl⟩ F.entry_list_append (F.args_list_append_2 _ _) (PySem.list_append D us.toArray k u8 (by rw [List.size_toArray, ← rv.length]; omega)) ⟨gD, ?_⟩
        have q := PySem.IsL.update gD (·.push u8)
        have e1 : us.toArray.push u8 = (us ++ [u8]).toArray := by simp
        rw [e1] at q
        have I8' : Inv Y [] (some x5 :: capV σ caps) H8 s8 := I8.pins_of (fun p hp => nomatch hp)
        have I9 : Inv Y [] (some x5 :: capV σ caps) H8 { s8 with heap := s8.heap.update D (Obj.mapSeq (·.push u8)), toks := s8.toks } :=
          I8'.turned (it := D) (fun b o hb e => (Heap.get?_update_other s8.heap (Obj.mapSeq (·.push u8)) (Ne.symm hb)).trans e) nD DneC (.inr (Nat.le_of_eq hDD)) Dcell (fun p hp => nomatch hp)
        refine ⟨m', hm, i + 1, some x5, H8, ys ++ [y8], us ++ [u8], _, I9, T.keep _ _ _ k1 fun b hb o e => (Heap.get?_update_other s8.heap (Obj.mapSeq (·.push u8)) (Ne.symm (Dfp b hb))).trans e, k2, q, nD, rv.append (.cons r8 .nil), w8⟩
  exact codeAny_compStart_list (loop _ rfl) (T.self X.A 0 _ _ _ st1 (loop _ rfl))
theorem pe_comp {x : Str} {px pos : Pos} {Nc : List Str} {caps : List Nat} {scope : Scope} {iter elt : Expr} {ifs : List Expr} {wi : TI} {tc : TT} {te : TE} (O : CompOk X x Nc caps scope) (hc : X.calm = true) (hi : PI X (.Name x px) iter wi)
    (htc : ∀ cl C fp s H, PIf (cxComp X Nc scope cl C fp s H) ifs tc) (hte : ∀ cl C fp s H, PE (cxComp X Nc scope cl C fp s H) elt te) (hs : ∀ x, foldedSetIterable iter X.env x = pure x := by intro _; rfl) :
    PE X (.ListComp elt [⟨.Name x px, iter, ifs, 0⟩] scope pos) (tComp wi caps tc te) := by
  intro pins s σ H Q I h
  rw [eval_ListComp]
  obtain ⟨cl, e1, e2, e3⟩ := closure_is (scope := scope) (env := X.env) fun y hy hf => I.ok.has y.1 (.inl (O.fr y hy hf).1)
  refine wpAny_comprehension_free (use := none) rfl hs e1 O.kind O.names (thn (hi pins s σ H _ I h) fun v s1 h1 => thn h1 fun itv s2 h2 => ?_)
  obtain ⟨it, fp, tn, J, H2, e, I2, T, st2, f2, w2⟩ := h2
  subst e
  refine comp_block (RR := fun acc C => compPost (model X.prog X.w) X.A X.xe none (EP X pins σ Q) acc C) O hc e2 e3 (hte cl) (htc cl) I2 T st2 f2 w2 ?_
  intro D C s' m hn hq hC
  refine ⟨m, hn, fun h' hs' => ?_⟩
  obtain ⟨H', I', _, q⟩ := hq h' hs'
  exact ⟨.ref D, H', I', rfl, q⟩
theorem ps_setC {i : Nat} {y x : Str} {px py pos spos : Pos} {Nc : List Str} {caps : List Nat} {scope : Scope} {iter elt : Expr} {ifs : List Expr} {wi : TI} {tc : TT} {te : TE} (O : CompOk X x Nc caps scope) (hc : X.calm = true)
    (hN : X.N.Nodup) (hy : X.N[i]? = some y) (hx : X.env.scope.names.lookup y = some .local) (hi : PI X (.Name x px) iter wi)
    (htc : ∀ cl C fp s H, PIf (cxComp X Nc scope cl C fp s H) ifs tc) (hte : ∀ cl C fp s H, PE (cxComp X Nc scope cl C fp s H) elt te)
    (hsw : swapsWith (.ListComp elt [⟨.Name x px, iter, ifs, 0⟩] scope pos) (some (.Name y py)) spos.line X.env = pure true) (hs : ∀ x, foldedSetIterable iter X.env x = pure x := by intro _; rfl) :
    PS X (.Assign [.Name y py] (.ListComp elt [⟨.Name x px, iter, ifs, 0⟩] scope pos) spos) (tAsg (tComp wi caps tc te) (gName i)) := by
  intro pins s σ H Dn I h
  rw [exec_Assign_Name_used _ _ _ _ hsw]
  refine wpAny_bind (wpAny_standAt (wpAny_bind ?_))
  obtain ⟨cl, e1, e2, e3⟩ := closure_is (scope := scope) (env := X.env) fun y hy hf => I.ok.has y.1 (.inl (O.fr y hy hf).1)
  show wpAny _ X.A (do let _ ← comprehension (.ListComp elt [⟨.Name x px, iter, ifs, 0⟩] scope pos) scope X.env _ (newList []) false (eval iter X.env) (some (assign (.Name y py) X.env))) _ _ s
  refine wpAny_bind (wpAny_mono (wpAny_comprehension_free (use := some (assign (.Name y py) X.env)) (Q := fun _ s' => SP X pins Dn .next s') rfl hs e1 O.kind O.names
    (thn (hi pins s σ H _ I h) fun v s1 h1 => thn h1 fun itv s2 h2 => ?_)) (fun _ s' hq => wpAny_pure (wpAny_pure hq)) fun _ _ e => e)
  obtain ⟨it, fp, tn, J, H2, e, I2, T, st2, f2, w2⟩ := h2
  subst e
  refine comp_block (RR := fun acc C => compPost (model X.prog X.w) X.A X.xe (some (assign (.Name y py) X.env)) (fun _ s' => SP X pins Dn .next s') acc C) O hc e2 e3 (hte cl) (htc cl) I2 T st2 f2 w2 ?_
  intro D C s' m hn hq hC
  show wpAny _ X.A (assign (.Name y py) X.env (.ref D)) _ _ _
  obtain ⟨H', I', nC, q⟩ := hq s'.heap (.refl ..)
  have I'' : Inv X pins σ H' s' := I'
  have CL : C ≠ X.env.locals := Nat.ne_of_gt (Nat.lt_of_lt_of_le I2.lt hC)
  have Ccell : ∀ y c, X.env.cells.lookup y = some c → c ≠ C := fun y c e z => by
    obtain ⟨v, q⟩ := I2.cell y c e
    have := Nat.lt_of_lt_of_le q.lt hC
    rw [z] at this
    exact Nat.lt_irrefl _ this
  refine wpAny_assign_Name (store_ok2 I'' hN hy (.inl hx) (show RelV (.ref D) (.ref D) from rfl) (fun s3 I3 hsb => ?_) (.inr hx))
  obtain ⟨a, hsb, ha⟩ := hsb
  have aC : C ≠ a := by
    rcases ha with z | z
    · rw [z]; exact CL
    · exact Ne.symm (Ccell _ _ z)
  refine ⟨m, hn.sameBut hsb aC, fun h4 hs4 => ?_⟩
  refine ⟨_, H', I3.turned (it := C) (t' := s3.toks) (fun b o hb e => (hs4.2 b hb).trans e) nC CL (.inr (Nat.le_trans I2.sz hC)) Ccell (fun p hp z => ?_), q⟩
  · have := Nat.lt_of_lt_of_le (Heap.lt_size (I2.pin p hp).1) hC
    rw [z] at this
    exact Nat.lt_irrefl _ this
end
open PySem PySem.Spec PyProof.Rows
def Its (x : Str) : It := ⟨fun i _ => i < x.cps.size, fun i H v H' => H' = H ∧ ∃ c, x.cps[i]? = some c ∧ v = .str ⟨#[c]⟩, fun i _ => x.cps.size ≤ i⟩
section
variable {X : Cx} {tg : Expr}
def iStr (tl : TE) : TI := fun σ H R => tl σ H fun x H1 => ∃ z, x = .str z ∧ R (Its z) H1
end
def CN (n : Nat) (Pv : Nat → List V → Hp → Prop) (i : Nat) (ys : List V) (H : Hp) : Prop := ∃ m', m' < n - i ∧ m' = n - (i + 1) ∧ i + 1 ≤ n ∧ Pv (i + 1) ys H
theorem CN.of {n : Nat} {Pv : Nat → List V → Hp → Prop} {i : Nat} {ys : List V} {H : Hp} (h : i < n) (p : Pv (i + 1) ys H) : CN n Pv i ys H := ⟨n - (i + 1), by omega, rfl, h, p⟩
def CTurn (n : Nat) (Pv : Nat → List V → Hp → Prop) (tc : TT) (te : TE) (σ : St) (i : Nat) (ys : List V) (H : Hp) : Prop :=
  tc σ H fun b H2 => if b = true then te σ H2 fun y H3 => CN n Pv i (ys ++ [y]) H3 else CN n Pv i ys H2
theorem CTurn.no {n : Nat} {Pv : Nat → List V → Hp → Prop} {te : TE} {σ : St} {i : Nat} {ys : List V} {H : Hp} (h : te σ H fun y H3 => CN n Pv i (ys ++ [y]) H3) : CTurn n Pv tNoTest te σ i ys H := by
  unfold CTurn tNoTest
  exact iteT h
theorem comp_list {K : PySem.W.Frag} {a : Addr} {xs : List V} {caps : List Nat} {tc : TT} {te : TE} {σ : St} {H : Hp} {Q : VK} (Pv : Nat → List V → Hp → Prop) (h0 : Pv 0 [] H) (hl : ∀ i ys H, i ≤ xs.length → Pv i ys H → SqL K H a xs ∧ ys.length ≤ i)
    (hz : xs.length ≤ sizeLine) (hs : ∀ i x ys H, i < xs.length → xs[i]? = some x → Pv i ys H → CTurn xs.length Pv tc te (some x :: capV σ caps) i ys H)
    (hd : ∀ ys H p, Pv xs.length ys H → H p = none → Q (.ref p) (upd H p (.lst ys))) : tCompW caps tc te (Itl K a) σ H Q := by
  refine ⟨fun i m ys H => m = xs.length - i ∧ i ≤ xs.length ∧ Pv i ys H, ⟨xs.length, by simp, Nat.zero_le _, h0⟩, ?_⟩
  rintro i m ys H ⟨rfl, hi, p⟩
  obtain ⟨q, hy⟩ := hl i ys H hi p
  by_cases hlt : i < xs.length
  · refine .inr ⟨⟨xs, xs[i], q, by simp [hlt]⟩, by omega, fun x H' y => ?_⟩
    obtain ⟨e, y⟩ := y
    subst e
    exact hs i x ys _ hlt (y xs q) p
  · have e : i = xs.length := by omega
    subst e
    exact .inl ⟨⟨xs, q, Nat.le_refl _⟩, by omega, fun p' hp => hd ys H p' p hp⟩
theorem comp_range {lo : Int} {n : Nat} {caps : List Nat} {tc : TT} {te : TE} {σ : St} {H : Hp} {Q : VK} (Pv : Nat → List V → Hp → Prop) (h0 : Pv 0 [] H) (hl : ∀ i ys H, i ≤ n → Pv i ys H → ys.length ≤ i)
    (hz : n ≤ sizeLine) (hs : ∀ i ys H, i < n → Pv i ys H → CTurn n Pv tc te (some (.int (lo + i)) :: capV σ caps) i ys H)
    (hd : ∀ ys H p, Pv n ys H → H p = none → Q (.ref p) (upd H p (.lst ys))) : tCompW caps tc te (Itr lo n) σ H Q := by
  refine ⟨fun i m ys H => m = n - i ∧ i ≤ n ∧ Pv i ys H, ⟨n, by simp, Nat.zero_le _, h0⟩, ?_⟩
  rintro i m ys H ⟨rfl, hi, p⟩
  have hy := hl i ys H hi p
  by_cases hlt : i < n
  · refine .inr ⟨hlt, by omega, fun x H' y => ?_⟩
    obtain ⟨e, y⟩ := y
    subst e y
    exact hs i ys _ hlt p
  · have e : i = n := by omega
    subst e
    exact .inl ⟨Nat.le_refl _, by omega, fun p' hp => hd ys H p' p hp⟩
theorem strsAre_of {ys : List Str} : ∀ {us : List Value}, Vals (ys.map V.str) us → StrsAre us ys := by
  induction ys with
  | nil => intro us r; rw [List.map_nil] at r; cases r; exact .nil
  | cons n ns ih =>
    intro us r
    rw [List.map_cons] at r
    cases r with
    | cons r1 r2 =>
      obtain ⟨t, e⟩ := r1
      subst e
      exact .cons n t (ih r2)
def rJoin (K : PySem.W.Frag) : V → List V → Hp → VK → Prop := fun x vs H Q => ∃ z a ys, x = .str z ∧ vs = [.ref a] ∧ SqL K H a (ys.map V.str) ∧ (ys.map (·.length)).sum + ys.length * z.length ≤ 16777216 ∧ Q (.str (Txt.join z ys)) H
section
variable {X : Cx}
theorem mt_join : MtR X "str.join" (rJoin X.K) := by
  intro pins s σ H x vs v us Q I rx rv h
  obtain ⟨z, a, ys, rfl, rfl, hq, hz, q⟩ := h
  obtain ⟨t, rfl⟩ := rx
  obtain ⟨u, rfl, ru⟩ := rv.one
  cases ru
  obtain ⟨its, r, pl, hl⟩ := I.list hq
  exact join_list pl.isList (strsAre_of (by simpa using r)) hz fun t' k => ⟨.str _, H, I.tok _, ⟨_, rfl⟩, q⟩
def rIsi (K : PySem.W.Frag) : List V → Hp → VK → Prop := fun vs H Q => ∃ x t b, TyOf K H x t ∧
  ((∃ n, vs = [x, .ty n] ∧ PySem.W.kitOne K t (.type n) = some b) ∨ (∃ a, vs = [x, .ref a] ∧ PySem.W.kitOne K t (.ref a) = some b)) ∧ Q (.bl b) H
theorem call_isi : CallR X (.builtin "isinstance") (rIsi X.K) := by
  intro pins s σ H xs us Q I rv h
  obtain ⟨x, t, b, ty, hv, q⟩ := h
  rcases hv with ⟨n, rfl, e⟩ | ⟨a, rfl, e⟩
  · obtain ⟨u1, u2, rfl, r1, r2⟩ := rv.two
    cases r2
    exact isinst_ok I r1 ty e fun tk => ⟨.bl b, H, I.tok _, rfl, q⟩
  · obtain ⟨u1, u2, rfl, r1, r2⟩ := rv.two
    cases r2
    exact isinst_ok I r1 ty e fun tk => ⟨.bl b, H, I.tok _, rfl, q⟩
def eqL : List V → List V → Bool
  | [], [] => true
  | x :: xs, y :: ys => eqV x y && eqL xs ys
  | _, _ => false
theorem eqV_refl {x : V} (h : flatV x = true) : eqV x x = true := by
  cases x with
  | non => rfl
  | bl b => simp [eqV]
  | int i => simp [eqV]
  | str z => simp [eqV]
  | _ => exact absurd (show false = true from h) Bool.false_ne_true
theorem eqL_refl : ∀ {xs : List V}, xs.all flatV = true → eqL xs xs = true
  | [], _ => rfl
  | x :: xs, h => by
    rw [List.all_cons, Bool.and_eq_true] at h
    rw [eqL, eqV_refl h.1, eqL_refl h.2]
    rfl
theorem eqL_len : ∀ {xs ys : List V}, xs.length ≠ ys.length → eqL xs ys = false
  | [], [], h => absurd rfl h
  | [], _ :: _, _ => rfl
  | _ :: _, [], _ => rfl
  | x :: xs, y :: ys, h => by
    rw [eqL, eqL_len (xs := xs) (ys := ys) (fun z => h (by rw [List.length_cons, List.length_cons, z])), Bool.and_false]
theorem eqL_range : ∀ {xs ys : List V}, xs.length = ys.length → (List.range xs.length).all (fun j => eqV (xs.getD j .non) (ys.getD j .non)) = eqL xs ys
  | [], [], _ => rfl
  | [], _ :: _, h => by simp at h
  | _ :: _, [], h => by simp at h
  | x :: xs, y :: ys, h => by
    have h' : xs.length = ys.length := by simpa using h
    rw [List.length_cons, List.range_succ_eq_map, List.all_cons, List.all_map]
    rw [eqL, ← eqL_range h']
    rfl
def rEqL (K : PySem.W.Frag) : R2 := fun x y H Q => ∃ p q xs ys, x = .ref p ∧ y = .ref q ∧ SqL K H p xs ∧ SqL K H q ys ∧ xs.all flatV = true ∧ ys.all flatV = true ∧ Q (.bl (eqL xs ys)) H
end
open PySem
def tx (l : List Nat) : Str := ⟨l.toArray⟩
theorem tx_len (l : List Nat) : (tx l).length = l.length := by simp [tx, Str.length]
theorem tx_app (a b : List Nat) : tx a ++ tx b = tx (a ++ b) := by
  show Str.append (tx a) (tx b) = _
  simp [tx, Str.append]
theorem tx_one (c : Nat) : (⟨#[c]⟩ : Str) = tx [c] := rfl
theorem glue_fold : ∀ (ys : List (List Nat)) (acc : Array Nat), (ys.map tx).foldl (fun acc p => acc ++ (tx []).cps ++ p.cps) acc = acc ++ ys.flatten.toArray
  | [], acc => by simp
  | y :: ys, acc => by
    rw [List.map_cons, List.foldl_cons, glue_fold ys]
    simp [tx]
theorem tx_join : ∀ (ys : List (List Nat)), Txt.join (tx []) (ys.map tx) = tx ys.flatten
  | [] => by simp [Txt.join, Builtin.Str.glued, tx, Str.empty]
  | y :: ys => by
    show Str.mk _ = _
    simp only [List.map_cons, List.drop_one, List.tail_cons, List.headD_cons]
    rw [glue_fold]
    simp [tx]
theorem flat1 {α : Type} (f : α → Nat) : ∀ (l : List α), (l.map fun c => [f c]).flatten = l.map f
  | [] => rfl
  | a :: l => by rw [List.map_cons, List.flatten_cons, flat1 f l]; rfl
theorem sum1 {α : Type} (f : α → Nat) : ∀ (l : List α), (((l.map fun c => [f c]).map tx).map (·.length)).sum = l.length
  | [] => rfl
  | a :: l => by
    rw [List.map_cons, List.map_cons, List.map_cons, List.sum_cons, sum1 f l, tx_len, List.length_cons]
    show 1 + l.length = l.length + 1
    omega
end L2
namespace PySem
open Sem (wp)
open Builtin Builtin.Str Builtin.Int
namespace RV
end RV
def revS (x : Str) (t : Tok) (i : Int) : Obj := { cls := .type "reversed", data := .fields #[.str x t, rawInt i] }
def Heap.IsRevS (h : Heap) (a : Addr) (x : Str) (t : Tok) (i : Int) : Prop := ∃ o, h.get? a = some o ∧ o.cls = .type "reversed" ∧ o.data = .fields #[.str x t, rawInt i]
section
variable {prog : Program} {w : World} {A : Around} {E : Value → Shared → Prop} {s : Shared}
end
end PySem
namespace L2
open PySem PySem.Spec PyProof.Rows
def revO (p : Addr) (x : Str) : HO := .ext fun h => ∃ t, h.IsRevS p x t ((x.length : Int) - 1)
def anyO (p : Addr) : HO := .ext fun h => ∃ o, h.get? p = some o
section
variable {X : Cx}
end
open PySem PySem.Spec PyProof.Rows
theorem iteDn {c A B : Prop} [Decidable c] (h : ¬ c) (k : B) : if decide c = true then A else B := by rw [decide_eq_false h]; exact iteF k
theorem iteDp {c A B : Prop} [Decidable c] (h : c) (k : A) : if decide c = true then A else B := by rw [decide_eq_true h]; exact iteT k
theorem ite2D {c A B : Prop} [Decidable c] (h1 : c → A) (h2 : ¬ c → B) : if decide c = true then A else B := by
  by_cases h : c
  · exact iteDp h (h1 h)
  · exact iteDn h (h2 h)
theorem Same.upd {H : Hp} {p : Addr} {o : HO} (h : H p = none) : Same H (L2.upd H p o) := fun b o' e => by rw [upd_ne (ne_of_none e h)]; exact e
theorem Same.new {H H1 : Hp} {p : Addr} {o : HO} (e : Same H H1) (h : H1 p = none) : Same H (L2.upd H1 p o) := e.trans (.upd h)
theorem Same.over {H H1 : Hp} {p : Addr} {o : HO} (e : Same H H1) (h : H p = none) : Same H (L2.upd H1 p o) := fun b o' q => by rw [upd_ne (ne_of_none q h)]; exact e b o' q
theorem bt_len : bootBuiltins "len" = some (.builtin "len") := by decide +kernel
theorem bt_isinstance : bootBuiltins "isinstance" = some (.builtin "isinstance") := by decide +kernel
theorem bt_sorted : bootBuiltins "sorted" = some (.builtin "sorted") := by decide +kernel
theorem bt_list : bootBuiltins "list" = some (.type "list") := by decide +kernel
theorem bt_str : bootBuiltins "str" = some (.type "str") := by decide +kernel
theorem bt_int : bootBuiltins "int" = some (.type "int") := by decide +kernel
theorem bt_tuple : bootBuiltins "tuple" = some (.type "tuple") := by decide +kernel
theorem bt_bool : bootBuiltins "bool" = some (.type "bool") := by decide +kernel
theorem bt_set : bootBuiltins "set" = some (.type "set") := by decide +kernel
structure Df (K : PySem.W.Frag) (mg : Str → Option Value) (x : Str) (st : Stmt) (ps : List Str) (f : Addr) (fd : FuncData) : Prop where
  F : Fun K x x st f fd
  m : mg x = some (.ref f)
  b : Binds K fd ps []
def vS (cl : List (List Nat)) : List V := cl.map fun t => V.str (tx t)
def vI (ns : List Int) : List V := ns.map V.int
theorem vS_len (cl : List (List Nat)) : (vS cl).length = cl.length := by unfold vS; rw [List.length_map]
theorem vI_len (ns : List Int) : (vI ns).length = ns.length := by unfold vI; rw [List.length_map]
theorem vI_get {ns : List Int} {i : Nat} {n : Int} (h : ns[i]? = some n) : (vI ns)[i]? = some (.int n) := by unfold vI; rw [List.getElem?_map, h]; rfl
theorem vI_got {ns : List Int} {i : Nat} {v : V} (h : (vI ns)[i]? = some v) : ∃ t, ns[i]? = some t ∧ v = .int t := by
  unfold vI at h
  rw [List.getElem?_map] at h
  cases e : ns[i]? with
  | none => rw [e] at h; cases h
  | some t => rw [e] at h; exact ⟨t, rfl, (Option.some.inj h).symm⟩
theorem vI_flat (ns : List Int) : (vI ns).all flatV = true := by unfold vI; rw [List.all_map]; exact List.all_eq_true.mpr fun _ _ => rfl
theorem vS_map (cl : List (List Nat)) : vS cl = (cl.map tx).map V.str := by unfold vS; rw [List.map_map]; rfl
theorem vI_set (ns : List Int) (j : Nat) (n : Int) : (vI ns).set j (.int n) = vI (ns.set j n) := by unfold vI; rw [List.map_set]
theorem vI_app (ns : List Int) (n : Int) : vI ns ++ [.int n] = vI (ns ++ [n]) := by unfold vI; rw [List.map_append]; rfl
theorem vS_app (cl : List (List Nat)) (t : List Nat) : vS cl ++ [.str (tx t)] = vS (cl ++ [t]) := by unfold vS; rw [List.map_append]; rfl
theorem atI_of {α : Type} {xs : List α} {i : Int} {v : α} (h0 : 0 ≤ i) (h : xs[i.toNat]? = some v) : atI xs i = some v := by
  have e : i = (i.toNat : Int) := by omega
  rw [e]
  exact atI_nat h
theorem ixN_of {n : Nat} {i : Int} (h0 : 0 ≤ i) (h : i < n) : ixN n i = some i.toNat := by unfold ixN; rw [if_pos h0, if_pos h]
open PySem PySem.Spec PyProof.Rows
section
variable {X : Cx} {K : PySem.W.Frag} {tg : Expr}
theorem ix_listK (hK : X.K = K := by rfl) : IxR X (rIxL K) := by subst hK; exact ix_list
theorem ix_tupK (hK : X.K = K := by rfl) : IxR X (rIxT K) := by subst hK; exact ix_tup
theorem op_in_seqK (hK : X.K = K := by rfl) : OpR X (compareOp .In) (rIn K false) := by subst hK; exact op_in_seq
theorem op_notIn_seqK (hK : X.K = K := by rfl) : OpR X (compareOp .NotIn) (rIn K true) := by subst hK; exact op_notIn_seq
theorem call_len_seqK (hK : X.K = K := by rfl) : CallR X (.builtin "len") (fun xs H Q => ∃ p ys, xs = [.ref p] ∧ (SqL K H p ys ∨ SqT K H p ys) ∧ Q (.int ys.length) H) := by subst hK; exact call_len_seq
theorem call_list_ofK (hK : X.K = K := by rfl) : CallR X (.type "list") (fun xs H Q => ∃ p ys, xs = [.ref p] ∧ (SqL K H p ys ∨ SqT K H p ys) ∧ ∀ l, H l = none → Q (.ref l) (upd H l (.lst ys))) := by subst hK; exact call_list_of
theorem call_isiK (hK : X.K = K := by rfl) : CallR X (.builtin "isinstance") (rIsi K) := by subst hK; exact call_isi
theorem mt_joinK (hK : X.K = K := by rfl) : MtR X "str.join" (rJoin K) := by subst hK; exact mt_join
theorem pi_listK {l : Expr} {tl : TE} (hl : PE X l tl) (hK : X.K = K := by rfl) : PI X tg l (iList K tl) := by subst hK; exact pi_list hl
theorem pt_truthK {a : Expr} {ta : TE} (ha : PE X a ta) (he : ∀ whole, isTrue a X.env whole = (do let v ← whole; standAt a.pos; holding [v] (truthy v))) (hK : X.K = K := by rfl) :
    PT X a (fun σ H Q => ta σ H fun x H' => ∃ k, TruV K x H' k ∧ Q k H') := by subst hK; exact pt_truth ha he
variable {o e : Expr} {es : List Expr} {to : TE} {t : TA} {name : Str} {apos cpos : Pos} {T id : String} {r : V → List V → Hp → VK → Prop}
theorem pe_bm0K (pa : PlainAttrs T) (slot : Slot T name id) (hty : typeOf (.builtin id) = pure (.type "method_descriptor")) (hm : MtR X id r) (ho : PE X o to)
    (hbase : attributeBase o name X.env (eval o X.env) = eval o X.env := by rfl) (hline : (apos.endLine == cpos.line) = true := by rfl) (hK : X.K = K := by rfl) : PE X (.Call (.Attribute o name apos) [] [] cpos) (tBM0 K T r to) := by
  subst hK
  exact pe_bm0 pa slot hty hm ho hbase hline
theorem pe_bmK (pa : PlainAttrs T) (slot : Slot T name id) (hty : typeOf (.builtin id) = pure (.type "method_descriptor")) (hm : MtR X id r) (ho : PE X o to) (ha : PA X (e :: es) t)
    (hbase : attributeBase o name X.env (eval o X.env) = eval o X.env := by rfl)
    (hfew : ((backTo cpos (starEach (e :: es) X.env)).all (fun x => !x.1) && (backToKw cpos (keywordEach [] X.env)).all (fun x => x.1.isSome)
      && decide ((e :: es).length + ([] : List Keyword).length + (if ([] : List Keyword).isEmpty then 0 else 1) < 30)) = true := by rfl)
    (hline : (apos.endLine == cpos.line) = true := by rfl) (hs : starEach (e :: es) X.env = (false, eval e X.env) :: starEach es X.env := by rfl) (hplain : (backTo cpos (starEach es X.env)).any (·.1) = false := by rfl) (hK : X.K = K := by rfl) :
    PE X (.Call (.Attribute o name apos) (e :: es) [] cpos) (tBM K T r to t) := by
  subst hK
  exact pe_bm pa slot hty hm ho ha hbase hfew hline hs hplain
end
open PySem PySem.Spec PyProof.Rows
abbrev exO (C t : Addr) (tb : Value) : Obj := { cls := .ref C, data := .fields #[.ref t, tb, .none, .none, .bool false, .none] }
structure Fx (B : Heap) (l : List Env) (e C t : Addr) (fl : Value) (h : Heap) : Prop where
  st : B.StaysIn h
  ne : B.get? e = none
  fr : h.FunFrames B l
  ob : ∃ (T : Addr) (oT : Obj) (ts : Array Value), h.get? e = some (exO C t (.ref T)) ∧ B.get? T = none ∧ T ≠ e ∧ h.get? T = some oT ∧ oT.data = .fields ts ∧ ts[3]? = some fl
theorem Fx.outer {B : Heap} {env : Env} {l : List Env} {e C t : Addr} {fl : Value} {h : Heap} (x : Fx B (env :: l) e C t fl h) : Fx B l e C t fl h := ⟨x.st, x.ne, x.fr.2.2, x.ob⟩
section
variable {M : Model} {A : Around} {E : Value → Shared → Prop} {s : Shared} {B : Heap} {env : Env} {l : List Env} {e C t L : Addr}
theorem fx_land {fl : Value} {Q : Unit → Shared → Prop} (x : Fx B l e C t fl s.heap) (k : ∀ h', Fx B l e C t .none h' → s.heap.UpToSlots h' → Q () { s with heap := h' }) : wpAny M A (setFlight (.ref e) none) Q E s := by
  obtain ⟨st, ne, fr, T, oT, ts, hE, hBT, hTe, hT, hdT, h3⟩ := x
  have h3s : 3 < ts.size := (Array.getElem?_eq_some_iff.mp h3).1
  unfold setFlight
  refine wpAny_bind (wpAny_field hE rfl (x := .ref T) rfl ?_)
  rw [if_pos (show (Value.ref T != Value.none) = true by simp)]
  refine wpAny_setField hT hdT h3s (k _ ?_ ?_)
  all_goals
    have oth : ∀ b, b ≠ T → (s.heap.update T (Obj.mapFields (·.setIfInBounds 3 ((none : Option Addr).elim Value.none fun f => rawInt f)))).get? b = s.heap.get? b := fun b hb => Heap.get?_update_other _ _ (Ne.symm hb)
    have nrec : ∀ b o, s.heap.get? b = some o → (∀ vs, o.data ≠ .fields vs) → b ≠ T := fun b o hb hn q => by
      rw [q, hT] at hb
      cases hb
      exact hn ts hdT
  · refine ⟨fun b o hb => (oth b fun q => by rw [q, hBT] at hb; cases hb).trans (st b o hb), ne, fr.of_keeps fun b o hb hn => ⟨o, (oth b (nrec b o hb hn)).trans hb, rfl⟩, T, _, _, (oth e (Ne.symm hTe)).trans hE, hBT, hTe,
      Heap.get?_update_self _ hT (Obj.isFreed_of_fields (Obj.data_mapFields hdT _)), Obj.data_mapFields hdT _, ?_⟩
    simp [h3s]
  · exact fun b o hb hn => ⟨o.slots, (oth b (nrec b o hb hn)).trans hb⟩
theorem fx_enter {tb : Value} {had : Bool} {Q : Unit → Shared → Prop} (hfr : A.frames = some (env :: l)) (hf : env.frame = some L) (st : B.StaysIn s.heap) (ne : B.get? e = none) (fr : s.heap.FunFrames B (env :: l))
    (hE : s.heap.get? e = some (exO C t tb)) (k : ∀ h', Fx B (env :: l) e C t (rawInt L) h' → s.heap.UpToSlots h' → Q () { s with heap := h' }) :
    wpAny M A (do let a ← frameOf env; let pl ← entryPlaceOf L had; let b ← EntryCells.newEntry tb a .none (rawInt L) .none pl; setField (.ref e) 1 b) Q E s := by
  have eF : e ∉ (env :: l).filterMap (·.frame) := fun hm => by
    obtain ⟨_, o, ho, hn⟩ := fr.mem hm
    rw [hE] at ho
    cases ho
    exact hn _ rfl
  refine wpAny_bind (wpAny_frameOf_fun hfr fr hf fun h1 so => wpAny_bind (wpAny_entryPlaceOf fun pl hpl => ?_))
  unfold EntryCells.newEntry newFields
  refine wpAny_bind (wpAny_newObj_type ?_ (hpl.sizeOk5 _ _ _ _ _))
  have E1 : h1.get? e = some (exO C t tb) := (so.2.1 e eF).trans hE
  have st1 : B.StaysIn h1 := fun b o hb => (so.2.1 b fun hm => by rw [(fr.mem hm).1] at hb; cases hb).trans (st b o hb)
  have TE : h1.objs.size ≠ e := Nat.ne_of_gt (Heap.lt_size E1)
  generalize hN : ({ cls := .type "traceback", dict := none, data := .fields ([tb, .ref L, .none, rawInt L, .none] ++ (if pl.isEmpty then List.replicate 6 Value.none else pl)).toArray } : Obj) = nT
  have E2 : (h1.push nT).get? e = some (exO C t tb) := Heap.get?_push_of_some nT E1
  refine wpAny_setField (s := { s with heap := h1.push nT }) E2 rfl (by show 1 < 6; decide) (k _ ?_ ?_)
  all_goals
    have kp : ∀ b o, b ≠ e → h1.get? b = some o → ((h1.push nT).update e (Obj.mapFields (·.setIfInBounds 1 (Value.ref h1.objs.size)))).get? b = some o := fun b o hb q =>
      (Heap.get?_update_other _ _ (Ne.symm hb)).trans (Heap.get?_push_of_some nT q)
    have nrec : ∀ b o, s.heap.get? b = some o → (∀ vs, o.data ≠ .fields vs) → b ≠ e := fun b o hb hn q => by
      rw [q, hE] at hb
      cases hb
      exact hn _ rfl
  · have freed : nT.isFreed = false := by rw [← hN]; rfl
    refine ⟨fun b o hb => kp b o (fun q => by rw [q, ne] at hb; cases hb) (st1 b o hb), ne, fr.of_keeps fun b o hb hn => ?_, h1.objs.size, nT, _, Heap.get?_update_self _ E2 rfl, st1.fresh, TE,
      (Heap.get?_update_other _ _ (Ne.symm TE)).trans (Heap.get?_push_size h1 freed), by rw [← hN], by simp⟩
    obtain ⟨sl, q⟩ := so.2.2 b o hb
    exact ⟨_, kp b _ (nrec b o hb hn) q, rfl⟩
  · intro b o hb hn
    obtain ⟨sl, q⟩ := so.2.2 b o hb
    exact ⟨sl, kp b _ (nrec b o hb hn) q⟩
theorem fx_note0 {Q : Unit → Shared → Prop} (hfr : A.frames = some (env :: l)) (hf : env.frame = some L) (st : B.StaysIn s.heap) (ne : B.get? e = none) (fr : s.heap.FunFrames B (env :: l))
    (hE : s.heap.get? e = some (exO C t .none)) (k : ∀ h', Fx B (env :: l) e C t (rawInt L) h' → s.heap.UpToSlots h' → Q () { s with heap := h' }) : wpAny M A (noteFrame (.ref e) env) Q E s := by
  unfold noteFrame
  simp only [hf]
  refine wpAny_bind (wpAny_field hE rfl (x := .none) rfl ?_)
  rw [if_neg (by decide)]
  exact fx_enter hfr hf st ne fr hE k
theorem fx_note {Q : Unit → Shared → Prop} (hfr : A.frames = some (env :: l)) (hf : env.frame = some L) (x : Fx B (env :: l) e C t .none s.heap)
    (k : ∀ h', Fx B (env :: l) e C t (rawInt L) h' → s.heap.UpToSlots h' → Q () { s with heap := h' }) : wpAny M A (noteFrame (.ref e) env) Q E s := by
  obtain ⟨st, ne, fr, T, oT, ts, hE, hBT, hTe, hT, hdT, h3⟩ := x
  unfold noteFrame
  simp only [hf]
  refine wpAny_bind (wpAny_field hE rfl (x := .ref T) rfl ?_)
  rw [if_pos (show (Value.ref T != Value.none) = true by simp)]
  refine wpAny_bind (wpAny_field hT hdT h3 ?_)
  rw [if_neg (show ¬ ((Value.none == rawInt L) = true) by simp [rawInt])]
  refine wpAny_bind (wpAny_setField hT hdT (Array.getElem?_eq_some_iff.mp h3).1 ?_)
  have oth : ∀ b, b ≠ T → (s.heap.update T (Obj.mapFields (·.setIfInBounds 3 Value.none))).get? b = s.heap.get? b := fun b hb => Heap.get?_update_other _ _ (Ne.symm hb)
  have nrec : ∀ b o, s.heap.get? b = some o → (∀ vs, o.data ≠ .fields vs) → b ≠ T := fun b o hb hn q => by
    rw [q, hT] at hb
    cases hb
    exact hn ts hdT
  exact fx_enter (s := { s with heap := s.heap.update T (Obj.mapFields (·.setIfInBounds 3 Value.none)) }) hfr hf (fun b o hb => (oth b fun q => by rw [q, hBT] at hb; cases hb).trans (st b o hb)) ne
    (fr.of_keeps fun b o hb hn => ⟨o, (oth b (nrec b o hb hn)).trans hb, rfl⟩) ((oth e (Ne.symm hTe)).trans hE)
    fun h' y u => k h' y fun b o hb hn => u b o ((oth b (nrec b o hb hn)).trans hb) hn
end
open PySem PySem.Spec PyProof.Rows
section
variable {M : Model} {A : Around} {E : Value → Shared → Prop} {s : Shared} {B : Heap} {env : Env} {l : List Env} {e C t L : Addr}
theorem fx_noteN {Q : Unit → Shared → Prop} (hf : env.frame = some L) (x : Fx B l e C t (rawInt L) s.heap) (k : Q () s) : wpAny M A (noteFrame (.ref e) env) Q E s := by
  obtain ⟨st, ne, fr, T, oT, ts, hE, hBT, hTe, hT, hdT, h3⟩ := x
  unfold noteFrame
  simp only [hf]
  refine wpAny_bind (wpAny_field hE rfl (x := .ref T) rfl ?_)
  rw [if_pos (show (Value.ref T != Value.none) = true by simp)]
  refine wpAny_bind (wpAny_field hT hdT h3 ?_)
  rw [if_pos (show ((rawInt L == rawInt L) = true) by simp)]
  exact wpAny_pure k
end
structure Bk (P : Program) (w : World) (outer : List Env) (H : Hp) (h : Heap) (H' : Hp) (B h' : Heap) : Prop where
  ok : HOk P w H' B
  keep : ∀ b o, h.get? b = some o → H b = none → b ∉ frs outer → B.get? b = some o
  slot : ∀ b o, h.get? b = some o → b ∈ frs outer → ∃ sl, h'.get? b = some { o with slots := sl }
  free : ∀ b o, h.get? b = some o → H b = none → H' b = none
  there : ∀ b o, h.get? b = some o → b ∉ frs outer → ∃ o', B.get? b = some o'
  tups : ∀ b xs, H b = some (.tup xs) → H' b = some (.tup xs)
  frzs : ∀ b o u, H b = some (.frz o u) → H' b = some (.frz o u)
  tbls : ∀ b ps, H b = some (.tbl ps) → ∃ more, H' b = some (.tbl (ps ++ more))
theorem Bk.slots {P : Program} {w : World} {outer : List Env} {H H' : Hp} {h B h1 h2 : Heap} (k : Bk P w outer H h H' B h1) (fr : h1.FunFrames B outer) (u : h1.UpToSlots h2) : Bk P w outer H h H' B h2 :=
  ⟨k.ok, k.keep, fun b o q hb => by
    obtain ⟨sl, e⟩ := k.slot b o q hb
    obtain ⟨_, o2, e2, n2⟩ := fr.mem hb
    rw [e] at e2
    cases e2
    obtain ⟨sl2, e3⟩ := u b _ e n2
    exact ⟨sl2, e3⟩, k.free, k.there, k.tups, k.frzs, k.tbls⟩
def CX1 (P : Program) (w : World) : CXT := fun outer H s E e s' => ∃ ea C t H' B, e = .ref ea ∧ Fx B outer ea C t .none s'.heap ∧ s'.os = s.os ∧ AllBare s'.gens ∧ Bk P w outer H s.heap H' B s'.heap ∧ E (.ref C) none H'
inductive Fly (B : Heap) (l : List Env) (L ea C t : Addr) (h : Heap) : Prop where
  | new (st : B.StaysIn h) (ne : B.get? ea = none) (fr : h.FunFrames B l) (ob : h.get? ea = some (exO C t .none))
  | came (x : Fx B l ea C t .none h)
  | seen (x : Fx B l ea C t (rawInt L) h)
theorem Fly.fr {B : Heap} {l : List Env} {L ea C t : Addr} {h : Heap} (x : Fly B l L ea C t h) : h.FunFrames B l := by
  cases x with
  | new st ne fr ob => exact fr
  | came x => exact x.fr
  | seen x => exact x.fr
def FlX (X : Cx) (E : XK) : Value → Shared → Prop := fun e s' => ∃ ea C t H' B, e = .ref ea ∧ Fly B X.stack X.env.locals ea C t s'.heap ∧ s'.os = X.s₀.os ∧ AllBare s'.gens ∧ Bk X.prog X.w X.outer X.H₀ X.s₀.heap H' B s'.heap ∧ E (.ref C) none H'
structure Body (X : Cx) : Prop where
  stack : X.stack = X.env :: X.outer
  frame : X.env.frame = some X.env.locals
  ex : X.ex = []
section
variable {X : Cx} {pins : List (Addr × Obj)} {σ : St} {H : Hp} {s s' : Shared} {E : XK} {e : Value}
theorem Inv.frsN (I : Inv X pins σ H s) {b : Addr} {o : Obj} (q : X.s₀.heap.get? b = some o) (hb : b ∉ X.fs) : b ∉ frs X.stack := fun hm => by
  rcases List.mem_cons.mp (I.stkSub b hm) with z | z
  · rw [z] at q
    exact absurd (Nat.lt_of_lt_of_le (Heap.lt_size q) I.ok.above) (Nat.lt_irrefl _)
  · exact hb z
theorem madeX {h' : Heap} {ea C : Addr} {vs : List Value} (hB : Body X) (I : Inv X pins σ H s) (hx : Heap.MadeExcOf s.heap h' ea (.ref C) vs) (q : E (.ref C) none H) : FlX X E (.ref ea) { s with heap := h' } := by
  obtain ⟨t, ht, _, _⟩ := hx.there
  have nx : ∀ b : Addr, b ∉ X.ex := fun b z => by rw [hB.ex] at z; exact nomatch z
  have nfr : ∀ b u, H b = some u → b ∉ frs X.stack := fun b u e hm => by rw [I.stkFree b hm] at e; cases e
  refine ⟨ea, C, t, H, PySem.W.hideAll s.heap (frs X.stack), rfl, .new (fun b o e => hx.keeps b o (PySem.W.of_hideAll _ e)) ?_ ?_ ht, I.os, I.bare, ⟨fun b u e => ?_, fun b o e n hb => ?_, fun b o e hb => ?_, fun b o e n => I.base.free b o e n (nx b), fun b o e hb => ?_, I.base.tups, I.base.frzs, I.base.tbls⟩, q⟩
  · cases z : (PySem.W.hideAll s.heap (frs X.stack)).get? ea with
    | none => rfl
    | some o =>
      have := PySem.W.of_hideAll _ z
      rw [hx.new] at this
      cases this
  · exact (PySem.W.funFrames_hide I.stack fun env he a ha => List.mem_filterMap.mpr ⟨env, he, ha⟩).of_keeps fun b o hb _ => ⟨o, hx.keeps b o hb, rfl⟩
  · refine (I.hok b u e).stay (fun c v hc z => PySem.W.hideAll_get _ z ?_) (fun _ z => z) fun _ _ z => z
    rcases hc with z | z
    · rw [z]; exact nfr b u e
    · exact nfr c _ z
  · exact PySem.W.hideAll_get _ (I.base.keep b o e n hb (nx b)) (I.frsN e hb)
  · obtain ⟨sl, e1⟩ := I.base.slot b o e (I.ok.frf b hb) hb (nx b)
    exact ⟨sl, hx.keeps _ _ e1⟩
  · obtain ⟨o', e1⟩ := I.base.there b o e (nx b)
    exact ⟨o', PySem.W.hideAll_get _ e1 (I.frsN e hb)⟩
theorem noteX {M : Model} {Q : Unit → Shared → Prop} {E' : Value → Shared → Prop} {B : Heap} {ea C t : Addr} (hB : Body X) (hfr : X.A.frames = some X.stack) (x : Fly B X.stack X.env.locals ea C t s.heap)
    (k : ∀ h', Fx B X.stack ea C t (rawInt X.env.locals) h' → s.heap.UpToSlots h' → Q () { s with heap := h' }) : wpAny M X.A (noteFrame (.ref ea) X.env) Q E' s := by
  rw [hB.stack] at x hfr k
  cases x with
  | new st ne fr ob => exact fx_note0 hfr hB.frame st ne fr ob k
  | came x => exact fx_note hfr hB.frame x k
  | seen x => exact fx_noteN hB.frame x (k s.heap x (.refl _))
theorem frs_sub (hB : Body X) {B h : Heap} (x : h.FunFrames B X.stack) : h.FunFrames B X.outer := by
  rw [hB.stack] at x
  exact x.2.2
theorem leaveX {M : Model} {E' : Value → Shared → Prop} (hB : Body X) (hfr : X.A.frames = some X.stack) (c : FlX X E e s) : wpAny M X.A (leaving X.env e) (fun _ s'' => CX1 X.prog X.w X.outer X.H₀ X.s₀ E e s'') E' s := by
  obtain ⟨ea, C, t, H', B, rfl, fx, os, bare, bk, q⟩ := c
  unfold leaving
  refine wpAny_bind (noteX hB hfr fx fun h1 x1 u1 => fx_land (s := { s with heap := h1 }) x1 fun h2 x2 u2 => ?_)
  have x3 := x2
  rw [hB.stack] at x3
  exact ⟨ea, C, t, H', B, rfl, x3.outer, os, bare, bk.slots (frs_sub hB fx.fr) (u1.trans u2), q⟩
end
open PySem PySem.Spec PyProof.Rows
def mroK (K : PySem.W.Frag) (C : Addr) : List Value := match K.lookup C with
  | some ⟨_, _, .cls cd, _⟩ => cd.mro
  | _ => []
theorem exc_obj {K : PySem.W.Frag} {h : Heap} {C : Addr} {bmB : List Value} {nid : String} (X : K.In h) (q : PySem.W.excIn K C bmB nid = true) :
    ∃ bm N nm qn bs hdct sn sub ab col dd k0 k1 k2 k3 k5 mN, mroK K C = .ref C :: bm ∧ h.get? C = some (excClassObj nm qn C N bs bm hdct sn sub ab col dd k0 k1 k2 k3 k5 nid) ∧ h.Ns N mN ∧ mN "__init__" = none ∧ OwnTail h bmB bm := by
  unfold PySem.W.excIn at q
  split at q
  next dd cd sl ho =>
    split at q
    next C' bm k0 k1 k2 k3 n k5 hm hs =>
      have hM : mroK K C = cd.mro := by unfold mroK; rw [ho]
      simp only [Bool.and_eq_true, beq_iff_eq, Bool.not_eq_true'] at q
      obtain ⟨⟨⟨⟨⟨q1, q2⟩, hdel⟩, ht⟩, hok⟩, hni⟩ := q
      subst q1 q2
      have hsl : sl = #[k0, k1, k2, k3, some (.builtin n), k5] := by rw [← hs]
      rw [hm] at hM
      cases cd
      dsimp only at hm hdel hok hni
      subst hm hdel hsl
      exact ⟨bm, _, _, _, _, _, _, _, _, _, dd, k0, k1, k2, k3, k5, _, hM, X _ _ ho, .of_isNs (PySem.W.isNs_of_in X hok), PySem.W.nsMap_none_of_in X hok hni, PySem.W.tail_of_in X ht⟩
    next => cases q
  next => cases q
def tRaise (C : Addr) (E : XK) (t : TA) : TS := fun _ σ H => t σ H fun vs H1 => vs.length ≤ sizeLine ∧ E (.ref C) none H1
section
variable {X : Cx} {x : Str} {C : Addr} {bmB bmN : List Value} {B Bn nid nid' iid iid' : String} {E : XK} {e : Expr} {es : List Expr} {t : TA} {np cpos pos : Pos}
theorem ps_raise (hB : Body X) (hc : X.calm = true) (hw : ∀ e s', FlX X E e s' → X.xe e s') (Fn : ExcBaseFacts Bn nid iid bmN) (hn : bmB.contains (.type Bn) = true) (FB : ExcBaseFacts B nid' iid' bmB) (q : PySem.W.excIn X.K C bmB nid = true) (hg : Gl X x) (hm : X.mg x = some (.ref C)) (ha : PA X.nox (e :: es) t)
    (hd : (x == ("__debug__" : Str)) = false := by decide) (he : starEach (e :: es) X.env = (false, eval e X.env) :: starEach es X.env := by rfl) (hpl : (backTo cpos (starEach es X.env)).any (·.1) = false := by rfl) :
    PS X (.Raise (some (.Call (.Name x np) (e :: es) [] cpos)) none pos) (tRaise C E t) := by
  intro pins s σ H D I h
  obtain ⟨bm, N, nm, qn, bs, hdct, sn, sub, ab, col, dd, k0, k1, k2, k3, k5, mN, _, hC, hN, hni, T⟩ := exc_obj I.ok.mod.kin q
  refine wpAny_Raise_call_subU (N := N) (C := C) (k5 := k5) (k3 := k3) (k2 := k2) (k1 := k1) (k0 := k0) (dd := dd) (col := col) (ab := ab) (sub := sub) (sn := sn) (hdct := hdct) (bs := bs) (q := qn) (nm := nm) (newId := nid) Fn hn FB (mN := mN) (T.hasType FB.hasBase) (I.ok.hd hc) (by rw [he]; show (false || (backTo cpos (starEach es X.env)).any (·.1)) = false; rw [hpl]; rfl) hni (ld_glob I hg hm ⟨rfl, ?_⟩ hd)
  have h1 := ha cpos pins s σ H _ (I.wish _) h
  rw [he] at h1 ⊢
  refine Calls.evalArgs_plain (wpAny_mono h1 (fun us s2 z => ?_) fun _ _ z => z.elim)
  obtain ⟨vs, H1, I1, r, hl, hE⟩ := z
  have I2 : Inv X pins σ H1 s2 := I1.unwish
  exact ⟨rfl, by rw [← r.length]; exact hl, I2.bk _ _ hC, hN.keeps I2.bk, T.keeps I2.bk, fun h' ea hx => hw _ _ (madeX hB I2 hx hE)⟩
end
abbrev cx1 (P : Program) (w : World) (K : PySem.W.Frag) (mg : Str → Option Value) (base : Heap) (N : List Str) (qual : Str) (scope : Scope) (f : Addr) (cd : Value) (A : Around) (outer : List Env) (s : Shared) (H : Hp) (E : XK) : Cx :=
  (cxOf (CX1 P w) P w K mg base N qual scope f cd A outer s H E).wish (FlX (cxOf (CX1 P w) P w K mg base N qual scope f cd A outer s H E) E)
section
variable {P : Program} {w : World} {K : PySem.W.Frag} {mg : Str → Option Value} {base : Heap}
theorem body1 {N : List Str} {qual : Str} {scope : Scope} {f : Addr} {cd : Value} {A : Around} {outer : List Env} {s : Shared} {H : Hp} {E : XK} : Body (cx1 P w K mg base N qual scope f cd A outer s H E) := ⟨rfl, rfl, rfl⟩
theorem Fun.okX {x qual : Str} {st : Stmt} {f : Addr} {fd : FuncData} {N ps : List Str} {k : Nat} {sp : Sp} (F : Fun K x qual st f fd) (S : FnScope N ps (defScope st)) (len : ∀ vs H Q E, sp vs H Q E → vs.length = ps.length)
    (hbody : ∀ (cdv : Value) (A : Around) (outer : List Env) (s : Shared) (H : Hp) (vs : List V) (Q : VK) (E : XK), Room k (A.deeper (envOfC qual (defScope st) s.heap.objs.size f cdv)) → sp vs H Q E →
      ∃ t, PSs (cx1 P w K mg base N qual (defScope st) f cdv A outer s H E) (defBody st) t ∧ t { nx := fun _ H' => Q .non H', rt := Q } (start N vs) H) : FnOk P w K mg base (CX1 P w) (k + 1) f fd ps sp := by
  obtain ⟨oc, od, kV, doc, pm, an, cdv, ct, osl, rfl, lk, hcd⟩ := F.ex
  refine fn_of lk hcd S len fun A outer s H vs Q E hr hsp => ?_
  obtain ⟨t, h, q⟩ := hbody cdv A outer s H vs Q E hr hsp
  refine ⟨t, fun pins s1 σ H1 D I h1 => ?_, q⟩
  exact wpAny_mono (h pins s1 σ H1 D (I.wish _) h1) (fun _ _ z => z.unwish) fun e s' z => leaveX (X := cxOf (CX1 P w) P w K mg base N qual (defScope st) f cdv A outer s H E) ⟨rfl, rfl, rfl⟩ I.ok.frames z
end
def PEX (X : Cx) (e : Expr) (t : XK → TE) : Prop := ∀ (pins : List (Addr × Obj)) (s : Shared) (σ : St) (H : Hp) (Q : VK) (E : XK), Inv X pins σ H s → t E σ H Q →
  wpAny (model X.prog X.w) X.A (eval e X.env) (EP X pins σ Q) (fun ex s' => ∃ H1 s1, Inv X pins σ H1 s1 ∧ CX1 X.prog X.w X.stack H1 s1 E ex s') s
section
variable {X : Cx} {k : Nat} {f C : Addr} {fd : FuncData} {ps : List Str} {sp : Sp} {dvs : List V} {ds : List Value} {x m : Str} {p pos apos : Pos} {e o : Expr} {es : List Expr} {ta : TE} {t : TA}
theorem run_fnX {pins : List (Addr × Obj)} {σ : St} {H : Hp} {s : Shared} {Q : VK} {E : XK} {us : List Value} {vs : List V} (F : FnOk X.prog X.w X.K X.mg X.base (CX1 X.prog X.w) k f fd ps sp) (hr : Room k X.A) (hb : Binds X.K fd ps ds) (hd : Vals dvs ds)
    (I : Inv X pins σ H s) (r : Vals vs us) (h : sp (vs ++ dvs) H Q E) : wpAny (model X.prog X.w) X.A (call (.ref f) us) (EP X pins σ Q) (fun ex s' => ∃ H1 s1, Inv X pins σ H1 s1 ∧ CX1 X.prog X.w X.stack H1 s1 E ex s') s := by
  have r2 : Vals (vs ++ dvs) (us ++ ds) := r.append hd
  have hl : (us ++ ds).length = ps.length := (r2.length.symm).trans (F.len _ _ _ _ h)
  refine wpAny_call (codeAny_mono (F.run X.A X.stack s H ⟨us, []⟩ (us ++ ds) (vs ++ dvs) Q E hr I.env0 (hb s us I.kIn hl) r2 h) fun rs s' hq => ?_)
  match rs, hq with
  | .error e, hq => exact ⟨H, s, I, hq⟩
  | .ok (.ret u), hq => exact I.after hq
  | .ok .next, hq => exact False.elim hq
  | .ok .brk, hq => exact False.elim hq
  | .ok .cont, hq => exact False.elim hq
end
open PySem PySem.Spec PyProof.Rows
def exH (C a : Addr) : HO := .ext fun h => ∃ t tb, h.get? a = some (exO C t tb)
theorem ObjOk.get {P : Program} {w : World} {H : Hp} {h : Heap} {a : Addr} {o : HO} (x : ObjOk P w H h a o) : ∃ u, h.get? a = some u := by
  induction o with
  | lst xs => obtain ⟨_, _, _, _, e⟩ := x; exact ⟨_, e⟩
  | tup xs => obtain ⟨_, _, _, _, e, _⟩ := x; exact ⟨_, e⟩
  | dK kvs => obtain ⟨_, _, _, _, _, _, _, e, _⟩ := x; exact ⟨_, e⟩
  | dT kvs => obtain ⟨_, _, _, _, _, _, _, e, _⟩ := x; exact ⟨_, e⟩
  | set S n => obtain ⟨_, _, _, _, e, _⟩ := x; exact ⟨_, e⟩
  | ins C dx fs => obtain ⟨_, _, _, e, _⟩ := x; exact ⟨_, e⟩
  | own y => obtain ⟨_, e⟩ := x; exact ⟨_, e⟩
  | xd fs => obtain ⟨_, ⟨_, _, _, e, _⟩, _⟩ := x; exact ⟨_, e⟩
  | rng lo hi => obtain ⟨_, _, _, e⟩ := x; exact ⟨_, e⟩
  | frz ob u ih => obtain ⟨e, _⟩ := x; exact ⟨_, e⟩
  | tbl ps => exact ⟨_, x⟩
  | met f y => exact ⟨_, x⟩
  | ext φ => exact x.2.1
section
variable {X : Cx} {pins : List (Addr × Obj)} {σ : St} {H H' : Hp} {s s' : Shared} {B h2 : Heap} {ea C t : Addr} {fl : Value}
theorem Bk.none {P : Program} {w : World} {outer : List Env} {h h' : Heap} (k : Bk P w outer H h H' B h') (ne : B.get? ea = Option.none) : H' ea = Option.none := by
  cases q : H' ea with
  | none => rfl
  | some o =>
    obtain ⟨u, e⟩ := (k.ok ea o q).get
    rw [ne] at e
    cases e
theorem caughtI (I : Inv X pins σ H s) (os : s'.os = s.os) (bare : AllBare s'.gens) (bk : Bk X.prog X.w X.stack H s.heap H' B h2) (fx : Fx B X.stack ea C t fl h2) :
    Inv X pins σ (upd H' ea (exH C ea)) { s' with heap := h2 } := by
  have hn := bk.none fx.ne
  obtain ⟨T, oT, ts, hE, _⟩ := fx.ob
  have ne : ∀ b o, s.heap.get? b = some o → b ≠ ea := fun b o e z => by
    by_cases hb : b ∈ frs X.stack
    · obtain ⟨_, o2, e2, n2⟩ := fx.fr.mem hb
      rw [z, hE] at e2
      cases e2
      exact n2 _ rfl
    · obtain ⟨o', e1⟩ := bk.there b o e hb
      rw [z, fx.ne] at e1
      cases e1
  have nt : ∀ b u, H' b = some u → b ≠ ea := fun b u e z => by
    rw [z, hn] at e
    cases e
  obtain ⟨hh, g, d, tk, os'⟩ := s'
  obtain rfl : os' = s.os := os
  refine I.call (s := s) (h' := h2) (g' := g) (d' := d) (t' := tk) (ch := []) ⟨fun b o e n hb _ => fx.st _ _ (bk.keep b o e n hb), fun b o e n hb _ => bk.slot b o e hb, fun b o e n _ => ?_, fun b o e _ => ?_, fun b xs e => ?_, fun b o u e => ?_, fun b ps e => ?_⟩ (fun b u e => ?_) bare (fun b z => nomatch z)
  · rw [upd_ne (ne b o e)]
    exact bk.free b o e n
  · by_cases hb : b ∈ frs X.stack
    · obtain ⟨sl, e1⟩ := bk.slot b o e hb
      exact ⟨_, e1⟩
    · obtain ⟨o', e1⟩ := bk.there b o e hb
      exact ⟨o', fx.st _ _ e1⟩
  · have e1 := bk.tups b xs e
    rw [upd_ne (nt _ _ e1)]
    exact e1
  · have e1 := bk.frzs b o u e
    rw [upd_ne (nt _ _ e1)]
    exact e1
  · obtain ⟨m1, e1⟩ := bk.tbls b ps e
    exact ⟨m1, by rw [upd_ne (nt _ _ e1)]; exact e1⟩
  · by_cases hb : b = ea
    · subst hb
      rw [upd_same] at e
      cases e
      exact ⟨⟨t, _, hE⟩, ⟨_, hE⟩, fun h1 h3 ⟨t', tb', q⟩ k => ⟨t', tb', k _ q⟩⟩
    · rw [upd_ne hb] at e
      refine (bk.ok b u e).stay (fun c v _ q => fx.st _ _ q) (fun c q => ?_) fun c xs q => ?_
      · rw [upd_ne (nt _ _ q)]; exact q
      · rw [upd_ne (nt _ _ q)]; exact q
abbrev Cx.hdl (X : Cx) (e : Addr) : Cx := { X with A := X.A.mark (some (.ref e)), calm := false, xe := fun _ _ => False }
theorem Inv.hdl (I : Inv X pins σ H s) (e : Addr) : Inv (X.hdl e) pins σ H s :=
  ⟨⟨I.ok.mod, I.ok.kind, I.ok.glob, I.ok.blt, I.ok.above, I.ok.inj, I.ok.has, I.ok.cab, (fun z => nomatch z), I.ok.frames, I.ok.stk, I.ok.exf, I.ok.bs, I.ok.bsz, I.ok.noex, I.ok.exfs, I.ok.funs, I.ok.frf⟩, I.os, I.bare, I.base, I.loc, I.cell, I.free, I.freeC, I.pin, I.hok, I.len⟩
theorem Inv.unhdl {e : Addr} (hd : X.calm = true → X.A.handled = none) (I : Inv (X.hdl e) pins σ H s) : Inv X pins σ H s :=
  ⟨⟨I.ok.mod, I.ok.kind, I.ok.glob, I.ok.blt, I.ok.above, I.ok.inj, I.ok.has, I.ok.cab, hd, I.ok.frames, I.ok.stk, I.ok.exf, I.ok.bs, I.ok.bsz, I.ok.noex, I.ok.exfs, I.ok.funs, I.ok.frf⟩, I.os, I.bare, I.base, I.loc, I.cell, I.free, I.freeC, I.pin, I.hok, I.len⟩
theorem Inv.forget {n : Str} {j : Nat} {m : Str → Option Value} {v : Option Value} {tk : Nat} {h' : Heap} (I : Inv X pins σ H s) (hN : X.N.Nodup) (hj : X.N[j]? = some n) (hn : s.heap.Ns X.env.locals m)
    (hm : ∀ (i : Nat) (x : Str) (v : V), X.N[i]? = some x → σ[i]? = some (some v) → Vis X.env.scope x → ∃ u, RelV v u ∧ Look X.env s.heap m x u) (hn' : h'.Ns X.env.locals (fun x => if x = n then v else m x)) (hs : Heap.SameBut X.env.locals s.heap h') :
    Inv X pins (σ.set j none) H { s with heap := h', toks := tk } := by
  obtain ⟨oL, _, _, hoL, _⟩ := id hn
  have neL : ∀ b o, X.s₀.heap.get? b = some o → b ≠ X.env.locals := fun b o e => Nat.ne_of_lt (Nat.lt_of_lt_of_le (Heap.lt_size e) I.ok.above)
  refine ⟨I.ok, I.os, I.bare, ⟨fun b o e n hb hx => ?_, fun b o e n hb hx => ?_, I.base.free, fun b o e hx => ?_, I.base.tups, I.base.frzs, I.base.tbls⟩, ⟨_, hn', fun i y w e1 e2 e3 => ?_⟩, fun y c e => ?_, I.free, I.freeC, fun p hp => ?_, fun b u e => ?_, by rw [List.length_set]; exact I.len⟩
  · exact (hs.2 b (neL b o e)).trans (I.base.keep b o e n hb hx)
  · obtain ⟨sl, e1⟩ := I.base.slot b o e n hb hx
    exact ⟨sl, (hs.2 b (neL b o e)).trans e1⟩
  · obtain ⟨o', e1⟩ := I.base.there b o e hx
    exact ⟨o', (hs.2 b (neL b o e)).trans e1⟩
  · by_cases hij : i = j
    · subst hij
      rw [List.getElem?_set] at e2
      split at e2
      · split at e2 <;> cases e2
      · exact absurd rfl ‹_›
    · rw [List.getElem?_set_ne (Ne.symm hij)] at e2
      obtain ⟨u, r, l⟩ := hm i y w e1 e2 e3
      refine ⟨u, r, ?_⟩
      rcases l with ⟨k, z⟩ | ⟨k, c, z, y'⟩
      · have : y ≠ n := fun q => hij (nodup_ix hN e1 (q ▸ hj))
        exact .inl ⟨k, by simp [this, z]⟩
      · exact .inr ⟨k, c, z, y'.sameBut hs (I.cne y c z)⟩
  · obtain ⟨v', z⟩ := I.cell y c e
    exact ⟨v', z.sameBut hs (I.cne y c e)⟩
  · obtain ⟨e, n1, n2, nf, d⟩ := I.pin p hp
    exact ⟨(hs.2 p.1 n2).trans e, n1, n2, nf, d⟩
  · refine (I.hok b u e).stay (fun c w' hc q => (hs.2 c ?_).trans q) (fun _ q => q) fun _ _ q => q
    rintro rfl
    rcases hc with z | z
    · rw [← z, I.free] at e; cases e
    · rw [I.free] at z; cases z
end
open PySem PySem.Spec PyProof.Rows
section
variable {M : Model} {A : Around} {E : Value → Shared → Prop} {h : Heap} {g : Array GenState} {d : Drawn} {t : Nat} {os : OsState}
theorem exc_matches {K : PySem.W.Frag} {C D e : Addr} {bC bD : List Value} {nC nD : String} {oe : Obj} {Q : Bool → Shared → Prop} (X : K.In h) (qC : PySem.W.excIn K C bC nC = true) (qD : PySem.W.excIn K D bD nD = true)
    (hb : bD.contains (.type "BaseException") = true) (he : h.get? e = some oe) (hc : oe.cls = .ref C) (hq : Q ((mroK K C).contains (.ref D)) ⟨h, g, d, t, os⟩) : wpAny M A (excMatches (.ref e) (.ref D)) Q E ⟨h, g, d, t, os⟩ := by
  obtain ⟨bm1, _, _, _, _, _, _, _, _, _, _, _, _, _, _, _, _, e1, hC, _, _, T1⟩ := exc_obj X qC
  obtain ⟨bm2, _, _, _, _, _, _, _, _, _, _, _, _, _, _, _, _, _, hD, _, _, T2⟩ := exc_obj X qD
  have hcB : (Value.ref D :: bm2).contains (.type "BaseException") = true := by rw [List.contains_cons, T2.hasType hb, Bool.or_true]
  have f := tc_notTuple
  rw [e1] at hq
  unfold excMatches
  repeat (first | (with_reducible refine wpAny_loadPart_at he ?_; rw [hc]) | with_reducible refine wpAny_loadPart_at hD ?_ | (with_reducible refine wpAny_isSubtype_exc hD ?_; rw [hcB]) | with_reducible refine wpAny_isSubtype_exc hC ?_ | wp_step)
  all_goals (revert hq; cases (Value.ref C :: bm1).contains (Value.ref D) <;> intro hq)
  all_goals (repeat (first | exact hq | wp_step))
end
abbrev WX (X : Cx) (pins : List (Addr × Obj)) (σ : St) (E : XK) : Value → Shared → Prop := fun ex s' => ∃ H1 s1, Inv X pins σ H1 s1 ∧ CX1 X.prog X.w X.stack H1 s1 E ex s'
def PSX (X : Cx) (st : Stmt) (t : XK → TS) : Prop := ∀ (pins : List (Addr × Obj)) (s : Shared) (σ : St) (H : Hp) (D : Ends) (E : XK), Inv X pins σ H s → t E D σ H → wpAny (model X.prog X.w) X.A (exec st X.env) (SP X pins D) (WX X pins σ E) s
def PSXs (X : Cx) (st : List Stmt) (t : XK → TS) : Prop := ∀ (pins : List (Addr × Obj)) (s : Shared) (σ : St) (H : Hp) (D : Ends) (E : XK), Inv X pins σ H s → t E D σ H → wpAny (model X.prog X.w) X.A (execs st X.env) (SP X pins D) (WX X pins σ E) s
section
variable {X : Cx} {e : Expr} {t u : XK → TS} {te : XK → TE} {pos : Pos} {st : Stmt}
theorem psxs_one (h : PSX X st t) : PSXs X [st] t := by
  intro pins s σ H D E I h1
  refine wpAny_execs_cons (thn (h pins s σ H D E I h1) fun f s1 q => ?_)
  match f, q with
  | .next, q => exact wpAny_execs_nil q
  | .brk, q => exact q
  | .cont, q => exact q
  | .ret u, q => exact q
theorem psx_set {i : Nat} {x : Str} {pos' : Pos} (hN : X.N.Nodup) (hi : X.N[i]? = some x) (hx : Loc X.env.scope x) (he : PEX X e te) (hs : swapsWith e (some (.Name x pos')) pos.line X.env = pure false := by rfl)
    (hf : X.fn x = true ∨ X.env.scope.names.lookup x = some .local := by first | exact .inl rfl | exact .inr rfl | assumption) : PSX X (.Assign [.Name x pos'] e pos) fun E => tAsg (te E) (gName i) := by
  intro pins s σ H D E I h
  refine wpAny_Assign_Name (thn (he pins s σ H _ E I h) fun v s1 ⟨y, H1, I1, r1, q1⟩ => ?_) hs
  exact store_ok I1 hN hi hx r1 (fun s2 I2 => ⟨_, H1, I2, q1⟩) hf
abbrev Ends.un (D : Ends) (j : Nat) : Ends := { nx := fun σ H => D.nx (σ.set j none) H, rt := D.rt, bk := fun σ H => D.bk (σ.set j none) H, ct := fun σ H => D.ct (σ.set j none) H }
def Sub (K : PySem.W.Frag) (C D : Addr) : Prop := (∃ bm nid, PySem.W.excIn K C bm nid = true) ∧ (mroK K C).contains (.ref D) = true
def tTry (K : PySem.W.Frag) (Ch : Addr) (j : Nat) (t : XK → TS) (ts : TS) : TS := fun D σ H => t (fun c _ H' => ∃ C, c = .ref C ∧ Sub K C Ch ∧ ∀ ea, H' ea = none → ts (D.un j) (σ.set j (some (.ref ea))) (upd H' ea (exH C ea))) D σ H
theorem ps_try {body suite : List Stmt} {b₀ : Stmt} {ts : TS} {n x : Str} {j : Nat} {Ch : Addr} {bmB : List Value} {nid : String} {np hpos : Pos} (hB : Body X) (hc : X.calm = true) (hb : PSXs X body t) (hN : X.N.Nodup) (hj : X.N[j]? = some n)
    (hn : X.env.scope.names.lookup n = some .local) (hg : Gl X x) (hm : X.mg x = some (.ref Ch)) (hq : PySem.W.excIn X.K Ch bmB nid = true) (hbs : bmB.contains (.type "BaseException") = true) (hs : ∀ ea, PSs (X.hdl ea) (b₀ :: suite) ts)
    (hd : (x == ("__debug__" : Str)) = false := by decide) :
    PS X (.Try body [.ExceptHandler (some (.Name x np)) (some n) (b₀ :: suite) hpos] [] [] pos) (tTry X.K Ch j t ts) := by
  intro pins s σ H D I h
  refine wpAny_Try_except (wpAny_mono (hb pins s σ H D _ I h) (fun f s1 q => ?_) fun ex s1 z => ?_)
  · match f, q with
    | .next, q => exact wpAny_execs_nil q
    | .brk, q => exact q
    | .cont, q => exact q
    | .ret u, q => exact q
  · obtain ⟨H1, s0, I0, ea, C, t0, H', B, rfl, fx, os, bare, bk, C', eC, ⟨⟨bC, nC, qC⟩, sub⟩, ht⟩ := z
    obtain rfl : C = C' := by cases eC; rfl
    refine noteX hB I.ok.frames (.came fx) fun h1 x1 u1 => fx_land (s := { s1 with heap := h1 }) x1 fun h2 x2 u2 => ?_
    have bk2 := (bk.slots fx.fr u1).slots x1.fr u2
    have I2 : Inv X pins σ (upd H' ea (exH C ea)) { s1 with heap := h2 } := caughtI I0 os bare bk2 x2
    refine wpAny_handleBy_cons (codeAny_handlers_test (ld_glob (X := X.hdl ea) (I2.hdl ea) hg hm ?_ hd)) (by intro q; cases q)
    obtain ⟨T, oT, tt, hE, _⟩ := x2.ob
    refine exc_matches I2.kIn qC hq hbs hE rfl ?_
    rw [sub]
    refine codeAny_handlers_suite_as ?_
    refine fx_land (s := { s1 with heap := h2 }) x2 fun h3 x3 u3 => ?_
    have I3 : Inv X pins σ (upd H' ea (exH C ea)) { s1 with heap := h3 } := caughtI I0 os bare (bk2.slots x2.fr u3) x3
    refine store_ok (X := X.hdl ea) (I3.hdl ea) hN hj (.inl hn) (v := .ref ea) rfl (fun s4 I4 => ?_) (.inr hn)
    refine wpAny_mono (hs ea pins s4 _ _ _ I4 (ht ea (bk.none fx.ne))) (fun f s5 q => ?_) fun _ _ z => z.elim
    have go : ∀ {σ' : St} {H5 : Hp} {Q : Unit → Shared → Prop}, Inv (X.hdl ea) pins σ' H5 s5 → (∀ s6, Inv X pins (σ'.set j none) H5 s6 → Q () s6) → wpAny (model X.prog X.w) X.A (do bindName X.env n .none; unbindBehindTheSuite X.env n hpos) Q X.xe s5 := fun {σ' H5 Q} J k => by
      have J' : Inv X pins σ' H5 s5 := J.unhdl I.ok.hd
      obtain ⟨m, hns, hl⟩ := id J'.loc
      refine wpAny_nameGoes_keeps hn hns (by rw [I.ok.kind]; rfl) fun h6 v hn6 hs6 => k _ ?_
      exact J'.forget hN hj hns hl hn6 hs6
    match f, q with
    | .next, ⟨σ', H5, J, q⟩ => exact go J fun s6 J6 => ⟨_, H5, J6, q⟩
    | .brk, ⟨σ', H5, J, q⟩ => exact go J fun s6 J6 => ⟨_, H5, J6, q⟩
    | .cont, ⟨σ', H5, J, q⟩ => exact go J fun s6 J6 => ⟨_, H5, J6, q⟩
    | .ret u, ⟨v, σ', H5, J, r, q⟩ => exact go J fun s6 J6 => ⟨v, _, H5, J6, r, q⟩
end
open PySem PySem.Spec PyProof.Rows
structure ExC (K : PySem.W.Frag) (C : Addr) : Prop where
  ga : PySem.W.findIn K (.ref C) "__getattribute__" = some (some (.builtin "BaseException.__getattribute__"))
  gt : PySem.W.findIn K (.ref C) "__getattr__" = some none
  cl : PySem.W.findIn K (.ref C) "__class__" = some (some (.builtin "object.__class__"))
  gc : PySem.W.specialIn K (.builtin "object.__class__") "__get__" = some (some (.builtin "getset_descriptor.__get__"))
  tk : PySem.W.takesIn K (.builtin "object.__class__") = some true
  ob : PySem.W.mroIn K C (.type "object") = some true
  be : PySem.W.mroIn K C (.type "BaseException") = some true
  is : (PySem.W.clsIn K C).isSome = true
section
variable {prog : Program} {w : World} {A : Around} {E : Value → Shared → Prop} {s : Shared} {K : PySem.W.Frag} {x C t : Addr} {tb : Value}
theorem ex_inst {h : Heap} (hx : h.get? x = some (exO C t tb)) : PySem.W.InstAt h x (exO C t tb) C none := ⟨hx, rfl, rfl, True.intro⟩
theorem ex_class {Q : Option Value → Shared → Prop} (X : K.In s.heap) (hx : s.heap.get? x = some (exO C t tb)) (c : ExC K C) (h : Q (some (.ref C)) { s with toks := s.toks + 1 }) : wpAny (model prog w) A (getAttr? (.ref x) "__class__") Q E s := by
  have I := ex_inst hx
  obtain ⟨hh, g, d, tk, os⟩ := s
  have L0 : PySem.W.Looks (model prog w) hh (typeOf (.ref x)) (.ref C) := I.type
  have L1 := PySem.W.looks_findIn (M := model prog w) X c.ga
  have L2 := PySem.W.looks_findIn (M := model prog w) X c.gt
  have hfo : PySem.W.findObj K C none "__class__" = some (.bind (.builtin "getset_descriptor.__get__") (.builtin "object.__class__")) := by
    obtain ⟨cd, hc⟩ := Option.isSome_iff_exists.mp c.is
    unfold PySem.W.findObj
    rw [hc, Option.bind_some, c.cl, Option.bind_some]
    simp [c.gc, c.tk]
  have L3 := PySem.W.looks_find (M := model prog w) X I hfo
  have L4 : PySem.W.Looks (model prog w) hh (isInstance (.ref x) (.type "BaseException")) true := L0.andThen (PySem.W.looks_mroIn X c.be)
  have f3 := F.excAttr_ValueError.ga.bind (.ref x)
  unfold getAttr? getAttrBy? getAttrBy
  refine wpAny_bind (wpAny_mkText (wpAny_bind (wpAny_attempt (wpAny_holding (wpAny_bind (L0.at (wpAny_bind (L1.at ?_))))))))
  show wpAny _ _ (getAttrByItsOwn _ _ _ _ _ _) _ _ _
  unfold getAttrByItsOwn hookBefore
  rw [if_pos (show onTheHeap (Value.ref C) = true from rfl)]
  refine wpAny_bind (L2.at (wpAny_bind (wpAny_attempt (wpAny_holding ?_))))
  unfold callGetattribute
  rw [if_neg (show ¬ ((false && onTheHeap (Value.builtin "BaseException.__getattribute__")) = true) by simp)]
  unfold boundAndCalled
  rw [f3]
  refine wpAny_bind (wpAny_pure (wpAny_call (codeAny_call_builtin F.excAttr_ValueError.ga.plain F.entry_bexc_ga ?_)))
  have hk : builtinKind "BaseException.__getattribute__" = some .slot := by decide +kernel
  have hsp : splitId "BaseException.__getattribute__" = some ("BaseException", "__getattribute__") := by decide +kernel
  have ha := F.args_bexc_ga (.ref x) (.str "__class__" tk)
  simp only [checkBuiltinCall, hk, hsp]
  refine wpAny_bind (L4.at ?_)
  repeat (first | (with_reducible refine wpAny_bind (L0.at (wpAny_bind (L3.at ?_)))) | wp_step)
  refine PySem.W.class_get (s := ⟨hh, g, d, tk + 1, os⟩) (ox := exO C t tb) (od := none) X I c.ob ?_
  exact wpAny_pure (PySem.W.handed_on rfl (wpAny_pure h))
theorem kitx_exc (c : ExC K C) : PySem.W.KitX K (.ref x) (.ref C) (fun h => ∃ t tb, h.get? x = some (exO C t tb)) where
  ty := fun M h _ ⟨t, tb, e⟩ => (ex_inst e).type
  it := fun M h X _ => by
    obtain ⟨cd, hc⟩ := Option.isSome_iff_exists.mp c.is
    unfold PySem.W.clsIn at hc
    split at hc
    next ho =>
      intro A' Q' E' s' k q
      unfold isType loadHead
      exact wpAny_bind (wpAny_loadPart (k _ _ (X _ _ ho)) (wpAny_pure q))
    next => cases hc
  ne := fun h tp dd its n sl X htp => by
    obtain ⟨cd, hc⟩ := Option.isSome_iff_exists.mp c.is
    refine Bool.eq_false_iff.mpr fun q => ?_
    have e : C = tp := Value.ref.inj (beq_iff_eq.mp q)
    subst e
    unfold PySem.W.clsIn at hc
    split at hc
    next ho => cases (X _ _ ho).symm.trans htp
    next => cases hc
  ca := fun X ⟨t, tb, e⟩ k => ex_class X e c k
end
def rIsX (K : PySem.W.Frag) : List V → Hp → VK → Prop := fun vs H Q => ∃ a C b, H a = some (exH C a) ∧ ExC K C ∧
  ((∃ n, vs = [.ref a, .ty n] ∧ PySem.W.kitOne K (.ref C) (.type n) = some b) ∨ (∃ D, vs = [.ref a, .ref D] ∧ PySem.W.kitOne K (.ref C) (.ref D) = some b)) ∧ Q (.bl b) H
section
variable {X : Cx} {K : PySem.W.Frag}
theorem ex_at {pins : List (Addr × Obj)} {σ : St} {H : Hp} {s : Shared} {a C : Addr} (I : Inv X pins σ H s) (e : H a = some (exH C a)) : ∃ t tb, s.heap.get? a = some (exO C t tb) := (I.hok a _ e).1
theorem call_isx (hK : X.K = K := by rfl) : CallR X (.builtin "isinstance") (rIsX K) := by
  subst hK
  intro pins s σ H xs us Q I rv h
  obtain ⟨a, C, b, ea, c, hv, q⟩ := h
  rcases hv with ⟨n, rfl, e⟩ | ⟨D, rfl, e⟩
  · obtain ⟨u1, u2, rfl, r1, r2⟩ := rv.two
    cases r1
    cases r2
    exact PySem.W.kia_one (kitx_exc c) I.kIn (ex_at I ea) e (fun z => nomatch z) fun tk => ⟨.bl b, H, I.tok _, rfl, q⟩
  · obtain ⟨u1, u2, rfl, r1, r2⟩ := rv.two
    cases r1
    cases r2
    exact PySem.W.kia_one (kitx_exc c) I.kIn (ex_at I ea) e (fun z => nomatch z) fun tk => ⟨.bl b, H, I.tok _, rfl, q⟩
variable {CX : CXT} {k : Nat} {ps : List Str} {sp : Addr → Sp} {E : XK} {m : Str} {pos apos : Pos} {o : Expr} {ta : TE}
def tMethX (K : PySem.W.Frag) (m : Str) (sp : Addr → Sp) (E : XK) (ta : TE) : TE := fun σ H Q => ta σ H fun x H1 => ∃ a C, x = .ref a ∧ H1 a = some (exH C a) ∧ sp C [x] H1 Q E
end
open PySem PySem.Spec PyProof.Rows
abbrev vE : List Value := [.type "ValueError", .type "Exception", .type "BaseException", .type "object"]
abbrev vN : String := "ValueError.__new__"
structure Exn (K : PySem.W.Frag) (C : Addr) : Prop where
  q : PySem.W.excIn K C vE vN = true
  c : ExC K C
  ty : PySem.W.typeIn K (.ref C) = some (.type "type")
  ve : PySem.W.mroIn K C (.type "ValueError") = some true
theorem exn_mk {K : PySem.W.Frag} {C : Addr} (q : PySem.W.excIn K C vE vN = true) (ga : PySem.W.findIn K (.ref C) "__getattribute__" = some (some (.builtin "BaseException.__getattribute__"))) (gt : PySem.W.findIn K (.ref C) "__getattr__" = some none)
    (cl : PySem.W.findIn K (.ref C) "__class__" = some (some (.builtin "object.__class__"))) (gc : PySem.W.specialIn K (.builtin "object.__class__") "__get__" = some (some (.builtin "getset_descriptor.__get__"))) (tk : PySem.W.takesIn K (.builtin "object.__class__") = some true)
    (ob : PySem.W.mroIn K C (.type "object") = some true) (be : PySem.W.mroIn K C (.type "BaseException") = some true) (is : PySem.W.isClsIn K C = true) (ty : PySem.W.typeIn K (.ref C) = some (.type "type")) (ve : PySem.W.mroIn K C (.type "ValueError") = some true) : Exn K C :=
  ⟨q, ⟨ga, gt, cl, gc, tk, ob, be, is⟩, ty, ve⟩
theorem has_base : vE.contains (.type "BaseException") = true := by decide
theorem has_ve : vE.contains (.type "ValueError") = true := by decide
theorem Exn.sub {K : PySem.W.Frag} {C D : Addr} (x : Exn K C) (r : PySem.W.mroIn K C (.ref D) = some true) : Sub K C D := by
  refine ⟨⟨_, _, x.q⟩, ?_⟩
  obtain ⟨cd, h1, h2⟩ := Option.bind_eq_some_iff.mp r
  unfold PySem.W.clsIn at h1
  unfold mroK
  split at h1
  next c d cd' sl ho =>
    cases h1
    rw [ho]
    split at h2
    · cases h2
    · exact Option.some.inj h2
  next => cases h1
theorem kit_ref {K : PySem.W.Frag} {C D : Addr} {b : Bool} (hC : PySem.W.mroIn K C (.ref C) = some true) (x : Exn K D) (r : PySem.W.mroIn K C (.ref D) = some b) : PySem.W.kitOne K (.ref C) (.ref D) = some b := by
  unfold PySem.W.kitOne
  by_cases q : (Value.ref C == Value.ref D) = true
  · rw [if_pos q]
    have e : C = D := Value.ref.inj (beq_iff_eq.mp q)
    subst e
    rw [hC] at r
    exact r
  · rw [if_neg q]
    unfold PySem.W.kitCls
    have h : ((PySem.W.clsIn K D).isSome && PySem.W.typeIn K (.ref D) == some (.type "type")) = true := by rw [x.c.is, x.ty]; rfl
    show (if _ then _ else _) = _
    rw [if_pos h]
    exact r
section
variable {X : Cx} {CX : CXT} {k : Nat} {C f : Addr} {fd : FuncData} {ps : List Str} {sp : Sp} {E : XK} {m : Str} {pos apos : Pos} {o : Expr} {ta : TE}
def tMethE (C : Addr) (sp : Sp) (E : XK) (ta : TE) : TE := fun σ H Q => ta σ H fun x H1 => ∃ a, x = .ref a ∧ H1 a = some (exH C a) ∧ sp [x] H1 Q E
end
def clsBody (s : Stmt) : List Stmt := match s with
  | .ClassDef _ _ _ b _ _ _ _ _ _ _ => b
  | _ => []
structure Mf (K : PySem.W.Frag) (x q : Str) (st : Stmt) (ps : List Str) (C f : Addr) (fd : FuncData) : Prop where
  F : Fun K x q st f fd
  m : Meth K C x f
  b : Binds K fd ps []
theorem kit_ib (K : PySem.W.Frag) : PySem.W.kitOne K (.type "int") (.type "bool") = some false := by
  unfold PySem.W.kitOne PySem.W.kitCls PySem.W.subIn
  rw [if_neg (by simp)]
  show (if _ then _ else _) = _
  rw [if_pos (by decide +kernel)]
  show Option.map (fun x => x.contains (Value.type "bool")) (fastBuiltinMro "int") = some false
  decide +kernel
open PySem PySem.Spec PyProof.Rows
open Builtin Builtin.Str
def cutT (u : List Nat) (lo hi : Option Int) : List Nat := (u.drop (HT.sIx u.length 0 lo)).take (HT.sIx u.length u.length hi - HT.sIx u.length 0 lo)
section
variable {X : Cx}
end
open PySem PySem.Spec PyProof.Rows
def rngO (p : Addr) (a b c : Int) : HO := .ext fun h => ∃ t u v, IsRange h p a b c t u v
def rngL (a c : Int) (n : Nat) : List Int := (List.range n).map fun (i : Nat) => a + (i : Int) * c
section
variable {X : Cx} {K : PySem.W.Frag}
end
open PySem PySem.Spec PyProof.Rows
section
variable {X : Cx} {tg : Expr}
def iRng2L (ta : TA) : TI := fun σ H R => ta σ H fun vs H1 => ∃ i j : Int, vs = [.int i, .int j] ∧ R (Itr i (j - i).toNat) H1
end
section
variable {X : Cx}
theorem bits250 {k : Int} (h : k.natAbs < 2 ^ 250) : Builtin.Int.intBits k ≤ 2 ^ 20 := by
  unfold Builtin.Int.intBits
  split
  · exact Nat.zero_le _
  · have : k.natAbs.log2 < 250 := by
      rcases Nat.eq_zero_or_pos k.natAbs with h0 | hp
      · rw [h0]; decide
      · exact (Nat.log2_lt (Nat.ne_of_gt hp)).mpr h
    have e : (2 : Nat) ^ 20 = 1048576 := by decide
    omega
theorem op_mulW : OpR X (binaryOp .Mult) (rI (fun i j => i.natAbs < 2 ^ 250 ∧ j.natAbs < 2 ^ 250) fun i j => .int (i * j)) := opI fun _ _ _ _ _ _ _ hc q => mul_int q (IntMulOk.of_bits (bits250 hc.1) (bits250 hc.2))
def rRepS : R2 := fun x y H Q => ∃ u n, x = .str (tx u) ∧ y = .int n ∧ 0 ≤ n ∧ n ≤ 1000000 ∧ u.length * n.toNat ≤ sizeLine ∧ Q (.str (tx (List.replicate n.toNat u).flatten)) H
def rCount : V → List V → Hp → VK → Prop := fun x vs H Q => ∃ u c, x = .str (tx u) ∧ vs = [.str ⟨#[c]⟩] ∧ Q (.int (u.count c : Nat)) H
end
open PySem PySem.Spec PyProof.Rows
section
variable {X : Cx} {K : PySem.W.Frag}
def rIsXT (K : PySem.W.Frag) : List V → Hp → VK → Prop := fun vs H Q => ∃ (a C p : Addr) (Ds : List Addr) (b : Bool), vs = [.ref a, .ref p] ∧ H a = some (exH C a) ∧ ExC K C ∧ H p = some (.tup (Ds.map V.ref)) ∧ PySem.W.kitAny K (.ref C) (Ds.map Value.ref) = some b ∧ Q (.bl b) H
end
open PySem PySem.Spec PyProof.Rows
section
variable {X : Cx} {K : PySem.W.Frag}
def rNeL (K : PySem.W.Frag) : R2 := fun x y H Q => ∃ p q xs ys, x = .ref p ∧ y = .ref q ∧ SqL K H p xs ∧ SqL K H q ys ∧ xs.all flatV = true ∧ ys.all flatV = true ∧ Q (.bl (!eqL xs ys)) H
theorem op_neLK (hu : X.A.units < cLine) (hK : X.K = K := by rfl) : OpR X (compareOp .NotEq) (rNeL K) := by
  subst hK
  intro pins s σ H x y v u Q I rx ry h
  obtain ⟨p, q, xs, ys, rfl, rfl, hx, hy, fx, fy, k⟩ := h
  cases rx
  cases ry
  obtain ⟨its, r, pl, hz⟩ := I.list hx
  obtain ⟨its2, r2, pl2, hz2⟩ := I.list hy
  have l1 := r.length
  have l2 := r2.length
  by_cases hl : xs.length = ys.length
  · refine SeqAt.RcNeAt.lists (e := fun j => eqV (xs.getD j .non) (ys.getD j .non)) pl.isList pl2.isList (by simp only [List.size_toArray]; omega) hu (fun j h1 h2 => ?_) _ _ _ _ ?_
    · have j1 : j < xs.length := by simp only [List.size_toArray] at h1; omega
      have j2 : j < ys.length := by omega
      obtain ⟨w1, e1, q1⟩ := r.get (i := j) (x := xs[j]) (by simp [j1])
      obtain ⟨w2, e2, q2⟩ := r2.get (i := j) (x := ys[j]) (by simp [j2])
      have g1 : its.toArray[j] = w1 := by
        have : its.toArray[j]? = some w1 := by simpa using e1
        exact Option.some.inj ((Array.getElem?_eq_getElem h1).symm.trans this)
      have g2 : its2.toArray[j] = w2 := by
        have : its2.toArray[j]? = some w2 := by simpa using e2
        exact Option.some.inj ((Array.getElem?_eq_getElem h2).symm.trans this)
      rw [g1, g2]
      have d1 : xs.getD j .non = xs[j] := by simp [List.getD, j1]
      have d2 : ys.getD j .non = ys[j] := by simp [List.getD, j2]
      show SeqAt.EqAt _ _ _ _ (eqV (xs.getD j .non) (ys.getD j .non))
      rw [d1, d2]
      exact eqAt_V q1 q2 (List.all_eq_true.mp fx _ (List.getElem_mem j1)) (List.all_eq_true.mp fy _ (List.getElem_mem j2))
    · refine ⟨.bl (!eqL xs ys), H, I, ?_, k⟩
      show Value.bool _ = Value.bool _
      rw [List.size_toArray, ← l1, eqL_range hl]
  · refine SeqAt.RcNeAt.lists_lengths pl.isList pl2.isList (by simp only [List.size_toArray, bne_iff_ne]; omega) hu _ _ _ _ ?_
    exact ⟨.bl (!eqL xs ys), H, I, by rw [eqL_len hl]; rfl, k⟩
end
open PySem PySem.Spec PyProof.Rows
theorem Room.units100 {k : Nat} {A : Around} (r : Room k A) : A.units + 100 < cLine := by have := r.un; omega
def SamL (K : PySem.W.Frag) (H : Hp) (p q : Addr) : Prop := ∃ as bs : List Addr, SqL K H p (as.map V.ref) ∧ SqL K H q (bs.map V.ref) ∧ as.length = bs.length ∧
  ∀ (i : Nat) (a b : Addr), as[i]? = some a → bs[i]? = some b → ∃ xs : List V, xs.all flatV = true ∧ SqL K H a xs ∧ SqL K H b xs
section
variable {X : Cx} {K : PySem.W.Frag}
def rNeLL (K : PySem.W.Frag) : R2 := fun x y H Q => ∃ p q, x = .ref p ∧ y = .ref q ∧ SamL K H p q ∧ Q (.bl false) H
def rEqLL (K : PySem.W.Frag) : R2 := fun x y H Q => ∃ p q, x = .ref p ∧ y = .ref q ∧ SamL K H p q ∧ Q (.bl true) H
theorem inV_vI (z : Int) : ∀ ks : List Int, inV (.int z) (vI ks) = decide (z ∈ ks)
  | [] => by simp [inV, vI]
  | k :: ks => by
    have ih := inV_vI z ks
    unfold inV vI at ih ⊢
    rw [List.map_cons, List.any_cons, ih]
    by_cases h : k = z
    · subst h
      have : eqV (V.int k) (V.int k) = true := eqV_refl rfl
      rw [this]
      simp
    · have : eqV (V.int k) (V.int z) = false := by simp [eqV, h]
      rw [this, Bool.false_or]
      exact decide_eq_decide.mpr (by simp [Ne.symm h])
end
open PySem PySem.Spec PyProof.Rows
section
variable {X : Cx} {K : PySem.W.Frag} {o e value : Expr} {f : Str} {pos pos' tpos : Pos} {ta tv : TE} {st : Stmt} {t : TS}
theorem pe_fldK (he : PE X e ta) (hb : attributeBase e f X.env (eval e X.env) = eval e X.env) (hK : X.K = K := by rfl) : PE X (.Attribute e f pos) (tFld K ta f) := by subst hK; exact pe_fld he hb
theorem ps_fldK (ha : PE X o ta) (hv : PE X value tv) (hs : swapsWith value (some (.Attribute o f pos')) pos.line X.env = pure false := by rfl) (hK : X.K = K := by rfl) : PS X (.Assign [.Attribute o f pos'] value pos) (sFld K ta tv f) := by subst hK; exact ps_fld ha hv hs
end
structure Own (K : PySem.W.Frag) (C f : Addr) : Prop where
  c : Cls K C
  m : Mk K C f
theorem own_mk {K : PySem.W.Frag} {C f : Addr} (h1 : PySem.W.plainGet K C Str.empty = true) (h2 : PySem.W.hasDictIn K C = true) (h3 : PySem.W.plainOver K C = true) (h4 : PySem.W.findIn K (.ref C) "__setattr__" = some (some (.builtin "object.__setattr__")))
    (h5 : PySem.W.makesIn K C = true) (h6 : PySem.W.findIn K (.ref C) "__init__" = some (some (.ref f))) (h7 : PySem.W.isFn K (.ref f) = true) (h8 : PySem.W.keepIn K (.ref C) = true) : Own K C f := ⟨⟨h1, h2, h3, h4⟩, ⟨h5, h6, h7, h8⟩⟩
open PySem PySem.Spec PyProof.Rows
structure Isa (K : PySem.W.Frag) (C : Addr) : Prop where
  ha : PySem.W.findIn K (.ref C) "__class__" = some (some (.builtin "object.__class__"))
  hn : PySem.W.specialIn K (.builtin "object.__class__") "__get__" = some (some (.builtin "getset_descriptor.__get__"))
  htk : PySem.W.takesIn K (.builtin "object.__class__") = some true
  hm : PySem.W.mroIn K C (.type "object") = some true
open PySem PySem.Spec PyProof.Rows
def Itz (K : PySem.W.Frag) (a b : Addr) : It where
  go := fun i H => ∃ xs ys x y, SqL K H a xs ∧ SqL K H b ys ∧ xs[i]? = some x ∧ ys[i]? = some y
  yld := fun i H x H' => ∃ T, x = .ref T ∧ H T = none ∧ ∀ xs ys u v, SqL K H a xs → SqL K H b ys → xs[i]? = some u → ys[i]? = some v → H' = upd H T (.tup [u, v])
  stop := fun i H => ∃ xs ys, SqL K H a xs ∧ SqL K H b ys ∧ (xs.length ≤ i ∨ ys.length ≤ i)
def ZipSt (z TI TO i1 i2 a b : Addr) (i : Nat) (h : Heap) : Prop := IsZip h z TI TO .none ∧ IsPair h TI (.ref i1) (.ref i2) ∧ (∃ p q, IsPair h TO p q) ∧ h.IsListIter i1 a i ∧ h.IsListIter i2 b i
section
variable {X : Cx} {es : List Expr} {kx : Nat} {tp : Pos}
def iZip (K : PySem.W.Frag) (ta : TA) : TI := fun σ H R => ta σ H fun vs H1 => ∃ a b, vs = [.ref a, .ref b] ∧ (∃ xs, SqL K H1 a xs) ∧ (∃ ys, SqL K H1 b ys) ∧ R (Itz K a b) H1
end
open PySem PySem.Spec PyProof.Rows
def rInT (K : PySem.W.Frag) : R2 := fun x y H Q => ∃ (p q : Addr) (as : List Addr) (ks : List Int), x = .ref p ∧ y = .ref q ∧ SqL K H q (as.map V.ref) ∧ SqT K H p (vI ks) ∧
  (∀ a ∈ as, ∃ js : List Int, SqT K H a (vI js)) ∧ (∃ a ∈ as, SqT K H a (vI ks)) ∧ Q (.bl true) H
section
variable {X : Cx} {K : PySem.W.Frag}
end
open PySem PySem.Spec PyProof.Rows
section
variable {prog : Program} {w : World} {A : Around} {E : Value → Shared → Prop} {s : Shared}
structure Apart2 (z TI TO i1 i2 : Addr) : Prop where
  TIz : TI ≠ z
  TOz : TO ≠ z
  i1z : i1 ≠ z
  i2z : i2 ≠ z
  TITO : TI ≠ TO
  TIi1 : TI ≠ i1
  TIi2 : TI ≠ i2
  TOi1 : TO ≠ i1
  TOi2 : TO ≠ i2
  i12 : i1 ≠ i2
abbrev strIt (x : Str) (t : Tok) : Obj := { cls := .type (strIterType x), data := .fields #[.str x t, .int 0 0] }
abbrev lstIt (l : Addr) : Obj := { cls := .type "list_iterator", data := .fields #[.ref l, .int 0 0] }
abbrev zHeap (h : Heap) (o1 o2 : Obj) : Heap := ((((h.push o1).push o2).push { cls := .type "tuple", data := .seq #[.ref h.objs.size, .ref (h.push o1).objs.size] }).push { cls := .type "tuple", data := .seq #[.none, .none] }).push
  { cls := .type "zip", data := .fields #[.none, .bool false, .bool false, .ref ((h.push o1).push o2).objs.size, .ref (((h.push o1).push o2).push { cls := .type "tuple", data := .seq #[.ref h.objs.size, .ref (h.push o1).objs.size] }).objs.size] }
abbrev zAddr (h : Heap) (o1 o2 : Obj) : Addr := ((((h.push o1).push o2).push { cls := .type "tuple", data := .seq #[.ref h.objs.size, .ref (h.push o1).objs.size] }).push { cls := .type "tuple", data := .seq #[.none, .none] }).objs.size
end
open PySem PySem.Spec PyProof.Rows
inductive Src where
  | l (a : Addr)
  | s (z : Str)
def srcV : Src → V
  | .l a => .ref a
  | .s z => .str z
def srcOk (K : PySem.W.Frag) (H : Hp) : Src → Prop
  | .l a => ∃ xs, SqL K H a xs
  | .s _ => True
def srcAt (K : PySem.W.Frag) (H : Hp) : Src → Nat → V → Prop
  | .l a, i, v => ∃ xs, SqL K H a xs ∧ xs[i]? = some v
  | .s z, i, v => ∃ c, z.cps[i]? = some c ∧ v = .str ⟨#[c]⟩
def srcEnd (K : PySem.W.Frag) (H : Hp) : Src → Nat → Prop
  | .l a, i => ∃ xs, SqL K H a xs ∧ xs.length = i
  | .s z, i => z.cps.size = i
def srcSt (it : Addr) (t : Tok) : Src → Nat → Heap → Prop
  | .l a, i, h => h.IsListIter it a i
  | .s z, i, h => h.IsStrIter it (strIterType z) z t i
def srcFp (it : Addr) : Src → List Addr
  | .l a => [it, a]
  | .s _ => [it]
def srcIt (t : Tok) : Src → Obj
  | .l a => lstIt a
  | .s z => strIt z t
def Itz2 (K : PySem.W.Frag) (S1 S2 : Src) : It where
  go := fun i H => (∃ u, srcAt K H S1 i u) ∧ ∃ v, srcAt K H S2 i v
  yld := fun i H x H' => ∃ T, x = .ref T ∧ H T = none ∧ ∀ u v, srcAt K H S1 i u → srcAt K H S2 i v → H' = upd H T (.tup [u, v])
  stop := fun i H => srcOk K H S1 ∧ srcOk K H S2 ∧ (srcEnd K H S1 i ∨ ((∃ u, srcAt K H S1 i u) ∧ srcEnd K H S2 i))
def Zip2St (z TI TO i1 i2 : Addr) (t1 t2 : Tok) (S1 S2 : Src) (i : Nat) (h : Heap) : Prop := IsZip h z TI TO .none ∧ IsPair h TI (.ref i1) (.ref i2) ∧ (∃ p q, IsPair h TO p q) ∧ srcSt i1 t1 S1 i h ∧ srcSt i2 t2 S2 i h
section
variable {X : Cx} {es : List Expr} {kx : Nat} {tp : Pos}
def zOk : Src → Src → Prop
  | .s _, .l _ => False
  | _, _ => True
def iZip2 (K : PySem.W.Frag) (ta : TA) : TI := fun σ H R => ta σ H fun vs H1 => ∃ S1 S2, vs = [srcV S1, srcV S2] ∧ zOk S1 S2 ∧ srcOk K H1 S1 ∧ srcOk K H1 S2 ∧ R (Itz2 K S1 S2) H1
end
open PySem PySem.Spec PyProof.Rows
structure CompOk2 (X : Cx) (x x' : Str) (Nc : List Str) (caps : List Nat) (scope : Scope) : Prop where
  kind : scope.kind = .function
  cell : ∀ y ∈ scope.names, y.2 ≠ .cell
  names : ∀ y ∈ scope.names, y.2 = .local → scope.names.lookup y.1 = some .local
  fr : ∀ y ∈ scope.names, y.2 = .free → X.env.scope.names.lookup y.1 = some .cell ∧ scope.names.lookup y.1 = some .free
  loc : scope.names.lookup x = some .local
  loc2 : scope.names.lookup x' = some .local
  len : Nc.length = caps.length + 2
  hd : Nc[0]? = some x
  hd2 : Nc[1]? = some x'
  nd : Nc.Nodup
  cap : ∀ k j, caps[k]? = some j → ∃ y, Nc[k + 2]? = some y ∧ X.N[j]? = some y ∧ scope.names.lookup y = some .free
def tCompW2 (K : PySem.W.Frag) (caps : List Nat) (tc : TT) (te : TE) (J : It) (σ : St) (H : Hp) (Q : VK) : Prop :=
  ∃ W : Nat → Nat → List V → Hp → Prop, (∃ m, W 0 m [] H) ∧ ∀ i m ys H, W i m ys H →
    (J.stop i H ∧ ys.length ≤ sizeLine ∧ ∀ p, H p = none → Q (.ref p) (upd H p (.lst ys))) ∨
    (J.go i H ∧ ys.length < sizeLine ∧ ∀ x H', J.yld i H x H' → ∃ a u v, x = .ref a ∧ SqT K H' a [u, v] ∧ tc (some u :: some v :: capV σ caps) H' fun b H2 =>
      if b = true then te (some u :: some v :: capV σ caps) H2 fun y H3 => ∃ m', m' < m ∧ W (i + 1) m' (ys ++ [y]) H3 else ∃ m', m' < m ∧ W (i + 1) m' ys H2)
def tComp2 (K : PySem.W.Frag) (wi : TI) (caps : List Nat) (tc : TT) (te : TE) : TE := fun σ H Q => wi σ H fun J H1 => tCompW2 K caps tc te J σ H1 Q
section
variable {X : Cx} {pins : List (Addr × Obj)} {σ : St} {H : Hp} {s : Shared}
theorem comp_ok2 {x x' : Str} {Nc : List Str} {caps : List Nat} {scope : Scope} {cl : List (Str × Addr)} {C : Addr} {fp : List Addr} (I : Inv X pins σ H s) (O : CompOk2 X x x' Nc caps scope)
    (hcl : ∀ x c, cl.lookup x = some c → X.env.cells.lookup x = some c ∧ (x, NameKind.free) ∈ scope.names) (hcl2 : ∀ x, (x, NameKind.free) ∈ scope.names → cl.lookup x = X.env.cells.lookup x)
    (hC : s.heap.objs.size ≤ C) (hfp : ∀ b ∈ fp, FpOk X pins H b) (hfo : ∀ b ∈ fp, b < s.heap.objs.size) : (cxComp X Nc scope cl C fp s H).Ok where
  mod := I.ok.mod
  kind := O.kind
  glob := I.ok.glob
  blt := I.ok.blt
  above := hC
  inj := fun a b c e1 e2 => I.ok.inj a b c (hcl a c e1).1 (hcl b c e2).1
  has := fun y hy => by
    have mem : (y, NameKind.free) ∈ scope.names := by
      have hy' : ((relabel scope X.env).names.lookup y = some .cell) ∨ ((relabel scope X.env).names.lookup y = some .free) := hy
      have hm : ∃ k, (y, k) ∈ (relabel scope X.env).names ∧ (k = .cell ∨ k = .free) := by
        rcases hy' with h | h
        · exact ⟨_, PySem.mem_of_lookup h, .inl rfl⟩
        · exact ⟨_, PySem.mem_of_lookup h, .inr rfl⟩
      obtain ⟨k, hm, hk⟩ := hm
      obtain ⟨⟨n, k'⟩, hm', e⟩ := List.mem_map.mp hm
      dsimp only at e
      by_cases hc : (k' == NameKind.free && X.env.scope.kind == .function && X.env.kindOf n == some .cell) = true
      · rw [if_pos hc] at e
        injection e with e1 _
        subst e1
        have : k' = .free := by
          have := (Bool.and_eq_true _ _ ▸ (Bool.and_eq_true _ _ ▸ hc).1).1
          simpa using this
        subst this
        exact hm'
      · rw [if_neg hc] at e
        injection e with e1 e2
        subst e1 e2
        rcases hk with hk | hk
        · subst hk; exact absurd rfl (O.cell _ hm')
        · subst hk; exact hm'
    obtain ⟨c, e⟩ := I.ok.has y (.inl (O.fr _ mem rfl).1)
    exact ⟨c, (hcl2 y mem).trans e⟩
  cab := fun _ _ z => nomatch z
  hd := I.ok.hd
  frames := I.ok.frames
  stk := .inl rfl
  exf := fun b hb => ⟨Nat.ne_of_lt (Nat.lt_of_lt_of_le (hfo b hb) hC), fun y c e => (hfp b hb).2.2.2.2.1 y c (hcl y c e).1⟩
  bs := I.bs
  bsz := Nat.le_trans I.ok.bsz I.sz
  noex := fun b o e hb => by
    rcases (hfp b hb).2.2.2.1 with z | z
    · exact I.ok.noex b o e z
    · exact absurd (Nat.lt_of_lt_of_le (Heap.lt_size e) (Nat.le_trans I.ok.bsz z)) (Nat.lt_irrefl _)
  exfs := fun b hb z => by
    rcases List.mem_cons.mp (I.stkSub b z) with e | e
    · exact (hfp b hb).2.1 e
    · exact (hfp b hb).2.2.1 e
  funs := I.stack
  frf := I.stkFree
theorem comp_start2 {x x' : Str} {Nc : List Str} {caps : List Nat} {scope : Scope} {cl : List (Str × Addr)} {C : Addr} {fp : List Addr} {h' : Heap} {tk : Nat} {m0 : Str → Option Value} (I : Inv X pins σ H s) (O : CompOk2 X x x' Nc caps scope)
    (hcl : ∀ x c, cl.lookup x = some c → X.env.cells.lookup x = some c ∧ (x, NameKind.free) ∈ scope.names) (hcl2 : ∀ x, (x, NameKind.free) ∈ scope.names → cl.lookup x = X.env.cells.lookup x)
    (hC : s.heap.objs.size ≤ C) (hfp : ∀ b ∈ fp, FpOk X pins H b) (hfo : ∀ b ∈ fp, b < s.heap.objs.size)
    (old : ∀ b o, s.heap.get? b = some o → h'.get? b = some o) (hns : h'.Ns C m0) :
    Inv (cxComp X Nc scope cl C fp s H) [] (none :: none :: capV σ caps) H { s with heap := h', toks := tk } where
  ok := comp_ok2 I O hcl hcl2 hC hfp hfo
  os := rfl
  bare := I.bare
  base := Un.kept old
  loc := by
    refine ⟨m0, hns, fun i y v hN hσ hv => ?_⟩
    match i with
    | 0 => simp at hσ
    | 1 => simp at hσ
    | k + 2 =>
      rw [List.getElem?_cons_succ, List.getElem?_cons_succ] at hσ
      obtain ⟨j, hj, hs⟩ := capV_get hσ
      obtain ⟨z, hz1, hz2, hz3⟩ := O.cap k j hj
      have hN' : Nc[k + 2]? = some y := hN
      rw [hz1] at hN'
      cases hN'
      have mem : (y, NameKind.free) ∈ scope.names := PySem.mem_of_lookup hz3
      have hk := (O.fr _ mem rfl).1
      obtain ⟨m, hn, hl⟩ := I.loc
      obtain ⟨u, r, l⟩ := hl j y v hz2 hs (.inr (.inl hk))
      refine ⟨u, r, ?_⟩
      rcases l with ⟨k', _⟩ | ⟨_, c, hc, z⟩
      · have k'' : X.env.scope.names.lookup y = some .local := k'
        rw [hk] at k''; cases k''
      · obtain ⟨o, ho, hd⟩ := z
        exact .inr ⟨.inl (lookup_relabel_free I.ok.kind hz3 hk), c, (hcl2 y mem).trans hc, o, old _ _ ho, hd⟩
  cell := fun y c e => by
    obtain ⟨v, o, ho, hd⟩ := I.cell y c (hcl y c e).1
    exact ⟨v, o, old _ _ ho, hd⟩
  free := I.hok.fresh hC
  freeC := fun y c e => I.freeC y c (hcl y c e).1
  pin := fun p hp => absurd (show p ∈ ([] : List (Addr × Obj)) from hp) (by simp)
  hok := I.hok.kept old
  len := by
    show (none :: none :: capV σ caps).length = Nc.length
    rw [List.length_cons, List.length_cons, capV_len, O.len]
theorem comp_block2 {x x' : Str} {px px' tp : Pos} {kx : Nat} {Nc : List Str} {caps : List Nat} {scope : Scope} {cl : List (Str × Addr)} {iter elt : Expr} {ifs : List Expr} {pos : Pos} {tc : TT} {te : TE} {Q : VK} {it : Addr} {fp : List Addr} {tn : Nat → Heap → Prop} {J : It}
    {RR : Value → Addr → Result → Shared → Prop} {E : Value → Shared → Prop}
    (O : CompOk2 X x x' Nc caps scope) (hc : X.calm = true)
    (hcl : ∀ x c, cl.lookup x = some c → X.env.cells.lookup x = some c ∧ (x, NameKind.free) ∈ scope.names) (hcl2 : ∀ x, (x, NameKind.free) ∈ scope.names → cl.lookup x = X.env.cells.lookup x)
    (hte : ∀ C fp s H, PE (cxComp X Nc scope cl C fp s H) elt te) (htc : ∀ C fp s H, PIf (cxComp X Nc scope cl C fp s H) ifs tc)
    (I : Inv X pins σ H s) (T : Turn X.prog X.w X.K (.Tuple [.Name x px, .Name x' px'] kx tp) J fp it tn) (st : tn 0 s.heap) (hfp : ∀ b ∈ fp, FpOk X pins H b) (h : tCompW2 X.K caps tc te J σ H Q)
    (hRR : ∀ (D C : Addr) (s' : Shared) (m : Str → Option Value), s'.heap.Ns C m → (∀ h', Heap.SameBut C s'.heap h' → ∃ H', Inv X pins σ H' { s' with heap := h' } ∧ H' C = none ∧ Q (.ref D) H') →
      s.heap.objs.size ≤ C → RR (.ref D) C (.ok .next) s') :
    wpAny (model X.prog X.w) X.A (newList []) (fun acc s₃ => wpAny (model X.prog X.w) X.A (newFunctionEnv scope X.env.globals cl [] X.env.qual none .none (some X.env)) (fun cenv s₄ =>
      codeAny (model X.prog X.w) X.A (.compStart (.ListComp elt [⟨(.Tuple [.Name x px, .Name x' px'] kx tp), iter, ifs, 0⟩] scope pos) 0 (.ref it) acc { cenv with scope := relabel scope X.env }) (RR acc cenv.locals) s₄) E s₃) E s := by
  refine wpAny_newObj_type (wpAny_newFunctionEnv O.cell (by intro y hy; simp at hy) (fun h₁ hns₁ hsb₁ => ?_) O.kind)
  dsimp only at hns₁ hsb₁ ⊢
  generalize hH2 : s.heap.push { cls := .type "list", dict := none, data := .seq ([] : List Value).toArray } = H2 at hns₁ hsb₁ ⊢
  have hC : H2.objs.size = s.heap.objs.size + 1 := by rw [← hH2, Heap.size_push]
  have hCle : s.heap.objs.size ≤ H2.objs.size := by rw [hC]; exact Nat.le_succ _
  have hDC : s.heap.objs.size ≠ H2.objs.size := by rw [hC]; exact Nat.ne_of_lt (Nat.lt_succ_self _)
  have below : ∀ b, b < s.heap.objs.size → b ≠ H2.objs.size ∧ b ≠ s.heap.objs.size := fun b hb => ⟨by rw [hC]; exact Nat.ne_of_lt (Nat.lt_succ_of_lt hb), Nat.ne_of_lt hb⟩
  have old : ∀ b o, s.heap.get? b = some o → h₁.get? b = some o := fun b o e => hsb₁.extBut b o (below b (Heap.lt_size e)).1 (Heap.get?_push_of_some _ (hH2 ▸ Heap.get?_push_of_some _ e))
  have hacc : h₁.get? s.heap.objs.size = some (rawL [] 0) := hsb₁.extBut _ _ hDC (Heap.get?_push_of_some _ (hH2 ▸ Heap.get?_push_size _ rfl))
  have hfo : ∀ b ∈ fp, b < s.heap.objs.size := fun b hb => by
    obtain ⟨o, e, _⟩ := T.obj _ _ st b hb
    exact Heap.lt_size e
  have st1 : tn 0 h₁ := T.keep _ _ _ st fun b _ o e => old b o e
  generalize hDD : s.heap.objs.size = D at *
  generalize hCC : H2.objs.size = C at *
  have DleC : D ≤ C := hCle
  let Y : Cx := cxComp X Nc scope cl C fp s H
  have I0 : Inv Y [] (none :: none :: capV σ caps) H { s with heap := h₁, toks := s.toks + ([] : List (Str × Value)).length } := comp_start2 I O hcl hcl2 (by rw [hDD]; exact hCle) hfp (fun b hb => by rw [hDD]; exact hfo b hb) old hns₁
  have Dfree : H D = none := by rw [← hDD]; exact I.hok.fresh (Nat.le_refl _)
  have DneC : D ≠ C := hDC
  have Dfs : D ∉ Y.fs := fun z => by
    have := I.stack.mem (show D ∈ frs X.stack from z)
    obtain ⟨_, o, e, _⟩ := this
    have := Heap.lt_size e
    rw [hDD] at this
    exact Nat.lt_irrefl _ this
  have Dcell : ∀ y c, Y.env.cells.lookup y = some c → c ≠ D := fun y c e z => by
    obtain ⟨v, q⟩ := I.cell y c (hcl y c e).1
    have := q.lt
    rw [z, hDD] at this
    exact Nat.lt_irrefl _ this
  have Dfp : ∀ b ∈ fp, b ≠ D := fun b hb => Nat.ne_of_lt (hfo b hb)
  have fpY : ∀ {H' : Hp}, (∀ b ∈ fp, H' b = none) → ∀ b ∈ fp, FpOk Y [] H' b := fun hn b hb =>
    ⟨hn b hb, Nat.ne_of_lt (Nat.lt_of_lt_of_le (hfo b hb) DleC), fun z => I0.ok.exfs b hb z, .inl hb, fun y c e => (I0.ok.exf b hb).2 y c e, fun p hp => absurd (show p ∈ ([] : List (Addr × Obj)) from hp) (by simp)⟩
  obtain ⟨W, ⟨m0, w0⟩, turn⟩ := h
  have loop : ∀ s₃ : Shared, s₃ = { s with heap := h₁, toks := s.toks + ([] : List (Str × Value)).length } →
      codeAny (model X.prog X.w) X.A (.compLoop (.ListComp elt [⟨(.Tuple [.Name x px, .Name x' px'] kx tp), iter, ifs, 0⟩] scope pos) 0 (.ref it) (.ref D) (compEnvC scope cl C X.env)) (RR (.ref D) C) s₃ := by
    rintro s₃ rfl
    refine compLoop_any (fun n s' => ∃ (i : Nat) (o o' : Option V) (H' : Hp) (ys : List V) (us : List Value) (k : Nat), Inv Y [] (o :: o' :: capV σ caps) H' s' ∧ tn i s'.heap ∧ (∀ b ∈ fp, H' b = none) ∧ s'.heap.get? D = some (rawL us k) ∧ H' D = none ∧ Vals ys us ∧ W i n ys H')
      ?_ m0 ⟨0, none, none, H, [], [], 0, I0, st1, fun b hb => (hfp b hb).1, hacc, Dfree, .nil, w0⟩
    rintro n s3 ⟨i, o3, o3', H3, ys, us, k, I3, st3, fr3, hD3, nD3, rv, w3⟩
    have fpP : ∀ {H' : Hp} {ob : Obj}, (∀ b ∈ fp, H' b = none) → ∀ b ∈ fp, FpOk Y [(D, ob)] H' b := fun hn b hb => by
      obtain ⟨g0, g1, g2, g3, g4, _⟩ := fpY hn b hb
      refine ⟨g0, g1, g2, g3, g4, fun p hp => ?_⟩
      have e : p = (D, _) := List.mem_singleton.mp (show p ∈ [(D, _)] from hp)
      rw [e]
      exact Ne.symm (Dfp b hb)
    have IP : Inv Y [(D, rawL us k)] (o3 :: o3' :: capV σ caps) H3 s3 := I3.pins_of fun p hp => by
      have e : p = (D, rawL us k) := List.mem_singleton.mp hp
      subst e
      exact ⟨hD3, nD3, DneC, Dfs, fun v z => by cases z⟩
    have pinD : ∀ {σ' : St} {H' : Hp} {s' : Shared} {pl : List (Addr × Obj)}, Inv Y ([(D, rawL us k)] ++ pl) σ' H' s' → s'.heap.get? D = some (rawL us k) ∧ H' D = none := fun I' => by
      have z := I'.pin (D, rawL us k) (List.mem_append_right _ (List.mem_append_left _ List.mem_cons_self))
      exact ⟨z.1, z.2.1⟩
    rcases turn i n ys H3 w3 with ⟨stop, hlen, fin⟩ | ⟨go, hlen, step⟩
    ·
      refine wpAny_mono (T.done Y rfl rfl rfl hc i _ s3 _ H3 (fun _ _ => False) IP (fpP fr3) st3 stop) (fun r s4 hr => ?_) fun _ _ z => z.elim
      obtain ⟨hr, I4⟩ := hr
      subst hr
      obtain ⟨gD, nD⟩ := pinD (pl := []) (by simpa using I4)
      obtain ⟨m, hn, _⟩ := I4.loc
      refine hRR D C s4 m hn (fun h' hs' => ⟨upd H3 D (.lst ys), ?_, (upd_ne (Ne.symm DneC)).trans I4.free, fin D nD⟩) hCle
      have nt : ∀ b ob, H3 b = some ob → b ≠ C := fun b ob e z => by
        have := I4.free
        rw [z] at e
        rw [show H3 C = none from this] at e
        cases e
      have u1 : Un (frs X.stack) fp H H3 s.heap h' := Un.but I4.base hs' (show s.heap.objs.size ≤ C by rw [hDD]; exact hCle)
      have ok1 : HOk X.prog X.w H3 h' := fun b ob e => (I4.hok b ob e).stay (fun c v hc q => (hs'.2 c (by
        rcases hc with z | z
        · rw [z]; exact nt b ob e
        · exact nt c _ z)).trans q) (fun _ q => q) fun _ _ q => q
      have gD' : h'.get? D = some (rawL us k) := (hs'.2 D DneC).trans gD
      exact I.call' (s' := { s4 with heap := h' }) (ch := fp) I4.os (u1.track (Nat.le_of_eq hDD) nD) (ok1.track nD ⟨hlen, us, k, rv, gD'⟩) I4.bare fun b hb => by
        obtain ⟨_, g1, _, g3, g4, g5⟩ := hfp b hb
        exact ⟨g3, g1, g4, g5⟩
    ·
      refine wpAny_mono (T.item Y rfl rfl rfl hc i _ s3 _ H3 (fun _ _ => False) IP (fpP fr3) st3 go) (fun r s4 hr => ?_) fun _ _ z => z.elim
      obtain ⟨u0, hr, h4⟩ := hr
      subst hr
      refine wpAny_mono h4 (fun _ s5 h5 => ?_) fun _ _ z => z.elim
      obtain ⟨x5, H5, I5, r5, y5, st5, fr5⟩ := h5
      have I5' := I5.pinned (fpP fr5) (T.obj _ _ st5)
      have n1 : PG Y (.Name x px) (gName 0) := pg_name (i := 0) O.nd O.hd (.inl (lookup_relabel I.ok.kind O.loc (by intro z; cases z))) (.inr (lookup_relabel I.ok.kind O.loc (by intro z; cases z)))
      have n2 : PG Y (.Name x' px') (gName 1) := pg_name (i := 1) O.nd O.hd2 (.inl (lookup_relabel I.ok.kind O.loc2 (by intro z; cases z))) (.inr (lookup_relabel I.ok.kind O.loc2 (by intro z; cases z)))
      have tgt : PG Y (.Tuple [.Name x px, .Name x' px'] kx tp) (gTup Y.K 2 (gCons (gName 0) (gCons (gName 1) gNil))) := pg_tup hc (pgs_cons n1 (pgs_cons n2 pgs_nil))
      obtain ⟨aT, uT, vT, rfl, hT, stepT⟩ := step x5 _ y5
      refine wpAny_mono (tgt _ s5 _ H5 (.ref aT) u0 (fun σ2 H2 => σ2 = some uT :: some vT :: capV σ caps ∧ H2 = H5) I5' r5 ⟨aT, [uT, vT], rfl, hT, rfl, uT, [vT], rfl, vT, [], rfl, rfl, rfl, rfl⟩) (fun _ s6 h6 => ?_) fun _ _ z => z.elim
      obtain ⟨_, _, I6, rfl, rfl⟩ := h6
      refine wpAny_mono ((htc C fp s H).run I6 stepT) (fun b s7 h7 => ?_) fun _ _ z => z.elim
      obtain ⟨H7, I7, q7⟩ := h7
      have keepT : ∀ {σ' : St} {H' : Hp} {s' : Shared}, Inv Y ([(D, rawL us k)] ++ pinsAt fp s5.heap) σ' H' s' → tn (i + 1) s'.heap ∧ ∀ b ∈ fp, H' b = none := fun I' =>
        ⟨T.keep _ _ _ st5 fun b hb o e => (I'.pin (b, o) (List.mem_append_right _ (List.mem_append_right _ (mem_pinsAt hb e)))).1, fun b hb => by
          obtain ⟨o, e, d⟩ := T.obj _ _ st5 b hb
          exact (I'.pin (b, o) (List.mem_append_right _ (List.mem_append_right _ (mem_pinsAt hb e)))).2.1⟩
      cases b with
      | false =>
        rw [if_neg Bool.false_ne_true] at q7
        rw [if_neg Bool.false_ne_true]
        obtain ⟨m', hm, w7⟩ := q7
        obtain ⟨gD, nD⟩ := pinD I7
        obtain ⟨k1, k2⟩ := keepT I7
        exact ⟨m', hm, i + 1, some uT, some vT, H7, ys, us, k, I7.pins_of (fun p hp => nomatch hp), k1, k2, gD, nD, rv, w7⟩
      | true =>
        rw [if_pos rfl] at q7
        rw [if_pos rfl]
        refine wpAny_mono (hte C fp s H _ s7 _ H7 _ I7 q7) (fun u8 s8 h8 => ?_) fun _ _ z => z.elim
        obtain ⟨y8, H8, I8, r8, m', hm, w8⟩ := h8
        obtain ⟨gD, nD⟩ := pinD I8
        obtain ⟨k1, k2⟩ := keepT I8
        refine call_meets F.slot_list_append ⟨_, gD, rfl⟩ F.entry_list_append (F.args_list_append_2 _ _) (PySem.list_append D us.toArray k u8 (by rw [List.size_toArray, ← rv.length]; omega)) ⟨gD, ?_⟩
        have q := PySem.IsL.update gD (·.push u8)
        have e1 : us.toArray.push u8 = (us ++ [u8]).toArray := by simp
        rw [e1] at q
        have I8' : Inv Y [] (some uT :: some vT :: capV σ caps) H8 s8 := I8.pins_of (fun p hp => nomatch hp)
        have I9 : Inv Y [] (some uT :: some vT :: capV σ caps) H8 { s8 with heap := s8.heap.update D (Obj.mapSeq (·.push u8)), toks := s8.toks } :=
          I8'.turned (it := D) (fun b o hb e => (Heap.get?_update_other s8.heap (Obj.mapSeq (·.push u8)) (Ne.symm hb)).trans e) nD DneC (.inr (Nat.le_of_eq hDD)) Dcell (fun p hp => nomatch hp)
        refine ⟨m', hm, i + 1, some uT, some vT, H8, ys ++ [y8], us ++ [u8], _, I9, T.keep _ _ _ k1 fun b hb o e => (Heap.get?_update_other s8.heap (Obj.mapSeq (·.push u8)) (Ne.symm (Dfp b hb))).trans e, k2, q, nD, rv.append (.cons r8 .nil), w8⟩
  exact codeAny_compStart_list (loop _ rfl) (T.self X.A 0 _ _ _ st1 (loop _ rfl))
theorem pe_comp2 {x x' : Str} {px px' tp pos : Pos} {kx : Nat} {Nc : List Str} {caps : List Nat} {scope : Scope} {iter elt : Expr} {ifs : List Expr} {wi : TI} {tc : TT} {te : TE} (O : CompOk2 X x x' Nc caps scope) (hc : X.calm = true) (hi : PI X (.Tuple [.Name x px, .Name x' px'] kx tp) iter wi)
    (htc : ∀ cl C fp s H, PIf (cxComp X Nc scope cl C fp s H) ifs tc) (hte : ∀ cl C fp s H, PE (cxComp X Nc scope cl C fp s H) elt te) (hs : ∀ x, foldedSetIterable iter X.env x = pure x := by intro _; rfl) :
    PE X (.ListComp elt [⟨(.Tuple [.Name x px, .Name x' px'] kx tp), iter, ifs, 0⟩] scope pos) (tComp2 X.K wi caps tc te) := by
  intro pins s σ H Q I h
  rw [eval_ListComp]
  obtain ⟨cl, e1, e2, e3⟩ := closure_is (scope := scope) (env := X.env) fun y hy hf => I.ok.has y.1 (.inl (O.fr y hy hf).1)
  refine wpAny_comprehension_free (use := none) rfl hs e1 O.kind O.names (thn (hi pins s σ H _ I h) fun v s1 h1 => thn h1 fun itv s2 h2 => ?_)
  obtain ⟨it, fp, tn, J, H2, e, I2, T, st2, f2, w2⟩ := h2
  subst e
  refine comp_block2 (RR := fun acc C => compPost (model X.prog X.w) X.A X.xe none (EP X pins σ Q) acc C) O hc e2 e3 (hte cl) (htc cl) I2 T st2 f2 w2 ?_
  intro D C s' m hn hq hC
  refine ⟨m, hn, fun h' hs' => ?_⟩
  obtain ⟨H', I', _, q⟩ := hq h' hs'
  exact ⟨.ref D, H', I', rfl, q⟩
theorem pe_comp2K {K : PySem.W.Frag} {x x' : Str} {px px' tp pos : Pos} {kx : Nat} {Nc : List Str} {caps : List Nat} {scope : Scope} {iter elt : Expr} {ifs : List Expr} {wi : TI} {tc : TT} {te : TE} (O : CompOk2 X x x' Nc caps scope) (hc : X.calm = true) (hi : PI X (.Tuple [.Name x px, .Name x' px'] kx tp) iter wi)
    (htc : ∀ cl C fp s H, PIf (cxComp X Nc scope cl C fp s H) ifs tc) (hte : ∀ cl C fp s H, PE (cxComp X Nc scope cl C fp s H) elt te) (hs : ∀ x, foldedSetIterable iter X.env x = pure x := by intro _; rfl) (hK : X.K = K := by rfl) :
    PE X (.ListComp elt [⟨(.Tuple [.Name x px, .Name x' px'] kx tp), iter, ifs, 0⟩] scope pos) (tComp2 K wi caps tc te) := by
  subst hK
  exact pe_comp2 O hc hi htc hte hs
end
open PySem PySem.Spec PyProof.Rows
section
variable {X : Cx}
def rCountL (K : PySem.W.Frag) : V → List V → Hp → VK → Prop := fun x vs H Q => ∃ a ns k, x = .ref a ∧ vs = [.int k] ∧ SqL K H a (vI ns) ∧ Q (.int (ns.count k : Nat)) H
end
def Ite (K : PySem.W.Frag) (a : Addr) : It where
  go := fun i H => ∃ xs x, SqL K H a xs ∧ xs[i]? = some x
  yld := fun i H x H' => ∃ T, x = .ref T ∧ H T = none ∧ ∀ xs u, SqL K H a xs → xs[i]? = some u → H' = upd H T (.tup [.int (i : Int), u])
  stop := fun i H => ∃ xs, SqL K H a xs ∧ xs.length = i
def EnSt (e it a : Addr) (i : Nat) (h : Heap) : Prop := (∃ old, IsEnum h e it i old) ∧ h.IsListIter it a i
section
variable {X : Cx} {es : List Expr} {kx : Nat} {tp : Pos}
def iEnum (K : PySem.W.Frag) (ta : TA) : TI := fun σ H R => ta σ H fun vs H1 => ∃ a, vs = [.ref a] ∧ (∃ xs, SqL K H1 a xs) ∧ R (Ite K a) H1
end
open PySem PySem.Spec PyProof.Rows
inductive SamV (K : PySem.W.Frag) (H : Hp) : Nat → V → V → Prop where
  | flat {n : Nat} {x : V} (h : flatV x = true) : SamV K H n x x
  | lst {n : Nat} {p q : Addr} {xs ys : List V} (hp : SqL K H p xs) (hq : SqL K H q ys) (hl : xs.length = ys.length) (hi : ∀ (i : Nat) (x y : V), xs[i]? = some x → ys[i]? = some y → SamV K H n x y) : SamV K H (n + 1) (.ref p) (.ref q)
  | tup {n : Nat} {p q : Addr} {xs ys : List V} (hp : SqT K H p xs) (hq : SqT K H q ys) (hl : xs.length = ys.length) (hi : ∀ (i : Nat) (x y : V), xs[i]? = some x → ys[i]? = some y → SamV K H n x y) : SamV K H (n + 1) (.ref p) (.ref q)
section
variable {X : Cx} {K : PySem.W.Frag}
theorem vals_get {xs : List V} {us : List Value} (r : Vals xs us) {j : Nat} (h : j < us.toArray.size) : ∃ x, xs[j]? = some x ∧ RelV x us.toArray[j] := by
  have l := r.length
  simp only [List.size_toArray] at h
  obtain ⟨u, e, q⟩ := r.get (i := j) (x := xs[j]) (by simp [show j < xs.length by omega])
  refine ⟨xs[j], by simp [show j < xs.length by omega], ?_⟩
  have : us.toArray[j] = u := by
    have h2 : us.toArray[j]? = some u := by simpa using e
    exact Option.some.inj ((Array.getElem?_eq_getElem (by simpa using h)).symm.trans h2)
  rw [this]
  exact q
theorem eqAt_sam {pins : List (Addr × Obj)} {σ : St} {H : Hp} {s : Shared} (I : Inv X pins σ H s) {n : Nat} {x y : V} (S : SamV X.K H n x y) : ∀ {A : Around} {u v : Value}, RelV x u → RelV y v → A.units + n < cLine → SeqAt.EqAt A s u v true := by
  induction S with
  | flat h =>
    intro A u v r1 r2 hu
    have := eqAt_V (A := A) (s := s) r1 r2 h h
    rw [eqV_refl h] at this
    exact this
  | lst hp hq hl hi ih =>
    intro A u v r1 r2 hu
    rename_i n p q xs ys
    cases r1
    cases r2
    by_cases e : p = q
    · subst e; exact SeqAt.EqAt.same _
    · refine SeqAt.EqAt.of_refs e ?_
      obtain ⟨its, r, pl, hz⟩ := I.list hp
      obtain ⟨its2, r2, pl2, hz2⟩ := I.list hq
      have l1 := r.length
      have l2 := r2.length
      have key := SeqAt.RcAt.lists (A := A) (s := s) (e := fun _ => true) pl.isList pl2.isList (by simp only [List.size_toArray]; omega) (by omega) (fun j h1 h2 => ?_)
      · have e1 : (List.range its.toArray.size).all (fun _ => true) = true := by simp
        rw [e1] at key
        exact key
      · obtain ⟨x, ex, qx⟩ := vals_get r h1
        obtain ⟨y, ey, qy⟩ := vals_get r2 h2
        exact ih j x y ex ey qx qy (by show A.units + 1 + n < cLine; omega)
  | tup hp hq hl hi ih =>
    intro A u v r1 r2 hu
    rename_i n p q xs ys
    cases r1
    cases r2
    by_cases e : p = q
    · subst e; exact SeqAt.EqAt.same _
    · refine SeqAt.EqAt.of_refs e ?_
      obtain ⟨its, r, pl, hz⟩ := I.tuple hp
      obtain ⟨its2, r2, pl2, hz2⟩ := I.tuple hq
      have l1 := r.length
      have l2 := r2.length
      have key := SeqAt.RcAt.tuples (A := A) (s := s) (e := fun _ => true) pl pl2 (by omega) (fun j h1 h2 => ?_)
      · have e1 : ((List.range (min its.toArray.size its2.toArray.size)).all (fun _ => true) && its.toArray.size == its2.toArray.size) = true := by
          have e2 : its.length = its2.length := by omega
          simp [e2]
        rw [e1] at key
        exact key
      · obtain ⟨x, ex, qx⟩ := vals_get r h1
        obtain ⟨y, ey, qy⟩ := vals_get r2 h2
        exact ih j x y ex ey qx qy (by show A.units + 1 + n < cLine; omega)
def SamS (K : PySem.W.Frag) (H : Hp) (p q : Addr) : Prop := ∃ xs ys : List V, SqL K H p xs ∧ SqL K H q ys ∧ xs.length = ys.length ∧ ∀ (i : Nat) (x y : V), xs[i]? = some x → ys[i]? = some y → SamV K H 50 x y
def rEqS (K : PySem.W.Frag) : R2 := fun x y H Q => ∃ p q, x = .ref p ∧ y = .ref q ∧ SamS K H p q ∧ Q (.bl true) H
def rNeS (K : PySem.W.Frag) : R2 := fun x y H Q => ∃ p q, x = .ref p ∧ y = .ref q ∧ SamS K H p q ∧ Q (.bl false) H
end
open PySem PySem.Spec PyProof.Rows
section
variable {X : Cx} {K : PySem.W.Frag} {k : Nat} {f C : Addr} {fd : FuncData} {ps : List Str} {sp : Sp} {dvs : List V} {ds : List Value} {x m : Str} {p pos apos : Pos} {e o : Expr} {es : List Expr} {ta : TE} {t : TA}
theorem pex_meth {pl : Sem Bool} (he : PE X.nox o ta) (c : Cls X.K C) (hm : Meth X.K C m f) (F : FnOk X.prog X.w X.K X.mg X.base (CX1 X.prog X.w) k f fd ps sp) (hr : Room k X.A) (hb : Binds X.K fd ps ds) (hd : Vals dvs ds) (ha : PA X.nox (e :: es) t)
    (hst : starEach (e :: es) X.env = (false, eval e X.env) :: starEach es X.env := by rfl) (hpl : (backTo pos (starEach es X.env)).any (·.1) = false := by rfl)
    (ht : eval (.Call (.Attribute o m apos) (e :: es) [] pos) X.env = (do
      let ov ← eval o X.env
      standAt apos.atName
      let (f, first) ← holding [ov] (getMethod ov m pl)
      callWith pos f first (backTo pos (starEach (e :: es) X.env)) (backToKw pos (keywordEach [] X.env))) := by rfl) :
    PEX X (.Call (.Attribute o m apos) (e :: es) [] pos) fun E => tMeth C m sp dvs E ta t := by
  intro pins s σ H Q E I h
  refine PySem.W.methodCall_KW (pl := pl) (wpAny_mono (he pins s σ H _ (I.wish _) h) (fun u s1 ⟨x, H1, I1, rx, a, dx, fs, ex, ea, l, q⟩ => ?_) fun _ _ z => z.elim) ht
  subst ex
  obtain rfl : u = Value.ref a := rx
  refine getmeth_ok (I1.unwish) ea c hm l ?_
  refine PySem.W.callWith_K (first := [.ref a]) (h₀ := X.base) I.ok.mod.kin hm.kp (wpAny_mono (ha pos pins s1 σ H1 _ I1 q) (fun us s2 ⟨vs, H2, I2, r, q2⟩ => ⟨I2.kIn, ?_⟩) fun _ _ z => z.elim) hst hpl
  exact run_fnX (us := .ref a :: us) (vs := .ref a :: vs) F hr hb hd (I2.unwish) (.cons rfl r) q2
theorem pex_meth0 {pl : Sem Bool} (he : PE X.nox o ta) (c : Cls X.K C) (hm : Meth X.K C m f) (F : FnOk X.prog X.w X.K X.mg X.base (CX1 X.prog X.w) k f fd ps sp) (hr : Room k X.A) (hb : Binds X.K fd ps ds) (hd : Vals dvs ds)
    (ht : eval (.Call (.Attribute o m apos) [] [] pos) X.env = (do
      let ov ← eval o X.env
      standAt apos.atName
      let (f, first) ← holding [ov] (getMethod ov m pl)
      callWith pos f first (backTo pos (starEach [] X.env)) (backToKw pos (keywordEach [] X.env))) := by rfl) :
    PEX X (.Call (.Attribute o m apos) [] [] pos) fun E => tMeth C m sp dvs E ta tNil := by
  intro pins s σ H Q E I h
  refine PySem.W.methodCall_KW (pl := pl) (wpAny_mono (he pins s σ H _ (I.wish _) h) (fun u s1 ⟨x, H1, I1, rx, a, dx, fs, ex, ea, l, q⟩ => ?_) fun _ _ z => z.elim) ht
  subst ex
  obtain rfl : u = Value.ref a := rx
  refine getmeth_ok (I1.unwish) ea c hm l ?_
  exact PySem.W.callWith_K0 (first := [.ref a]) I1.kIn hm.kp (run_fnX (us := [.ref a]) (vs := [.ref a]) F hr hb hd (I1.unwish) (.cons rfl .nil) q)
theorem psx_if {c : Expr} {a b : List Stmt} {tc : TT} {t1 t2 : XK → TS} (hc : PT X.nox c tc) (ha : PSXs X a t1) (hb : PSXs X b t2) : PSX X (.If c a b pos) fun E => tIfS tc (t1 E) (t2 E) := by
  intro pins s σ H D E I h
  refine wpAny_If (wpAny_mono (hc pins s σ H _ (I.wish _) h) (fun d s1 ⟨H1, I1, q1⟩ => ?_) fun _ _ z => z.elim)
  cases d with
  | true => exact ha pins s1 σ H1 D E I1.unwish q1
  | false => exact hb pins s1 σ H1 D E I1.unwish q1
def rNeE (K : PySem.W.Frag) : R2 := fun x y H Q => ∃ p q xs, x = .ref p ∧ y = .ref q ∧ SqL K H p xs ∧ SqL K H q [] ∧ Q (.bl (!xs.isEmpty)) H
def rEqE (K : PySem.W.Frag) : R2 := fun x y H Q => ∃ p q xs, x = .ref p ∧ y = .ref q ∧ SqL K H p xs ∧ SqL K H q [] ∧ Q (.bl xs.isEmpty) H
end
open PySem PySem.Spec PyProof.Rows
section
variable {X : Cx} {e : Expr} {pos : Pos} {te : XK → TE}
theorem pex_tup1 {x1} (he : PEX X e te) (hs : starEach [e] X.env = (false, eval e X.env) :: starEach [] X.env := by rfl) : PEX X (.Tuple [e] x1 pos) fun E => tTup (tCons (te E) tNil) := by
  intro pins s σ H Q E I h
  refine wpAny_Tuple_spliced ?_
  rw [hs]
  show wpAny _ _ (spliced ((false, eval e X.env) :: backTo pos (starEach [] X.env))) _ _ s
  refine Calls.spliced_cons (wpAny_mono (he pins s σ H _ E I h) (fun u s1 ⟨x, H1, I1, r1, q1⟩ => ?_) fun _ _ z => z)
  obtain ⟨z, q⟩ := q1
  refine Calls.spliced_nil ⟨z, ?_⟩
  have hf : H1 s1.heap.objs.size = none := I1.hok.fresh (Nat.le_refl _)
  refine ⟨.ref s1.heap.objs.size, upd H1 s1.heap.objs.size (.tup [x]), I1.laid (t' := s1.toks) (fun b u e => Heap.get?_push_of_some _ e) (Nat.le_refl _) ?_, rfl, q _ hf⟩
  exact ⟨z, [u], .cons r1 .nil, ⟨_, Heap.get?_push_size _ rfl, rfl, _, rfl⟩⟩
end
open PySem PySem.Spec PyProof.Rows
section
variable {X : Cx} {K : PySem.W.Frag}
theorem sorted_put {pins : List (Addr × Obj)} {σ : St} {H : Hp} {s : Shared} {vs : List Value} {out : Array Value} {ns' : List Int} {Q : VK} (I : Inv X pins σ H s) (hi : IntsAre out.toList ns') (hz : ns'.length ≤ sizeLine)
    (q : ∀ l, H l = none → Q (.ref l) (upd H l (.lst (vI ns')))) : EP X pins σ Q (.ref (s.heap.objs.size + 1)) { s with heap := sortedAll s.heap vs out } := by
  obtain ⟨e, he⟩ := sortedAll_at s.heap vs out
  refine ⟨.ref (s.heap.objs.size + 1), _, I.laid (t' := s.toks) (o := .lst (vI ns')) (fun b u => sortedAll_old) (Nat.le_succ _) ?_, rfl, q _ (I.hok.fresh (Nat.le_succ _))⟩
  refine ⟨by rw [vI_len]; exact hz, out.toList, e, vals_ints hi, ?_⟩
  rw [he]
theorem call_sortI (hK : X.K = K := by rfl) : CallR X (.builtin "sorted") (fun xs H Q => ∃ a ns, xs = [.ref a] ∧ SqL K H a (vI ns) ∧ ns.length < 64 ∧ ∀ l ns', ns'.Perm ns → ns'.Pairwise (· ≤ ·) → H l = none → Q (.ref l) (upd H l (.lst (vI ns')))) := by
  subst hK
  intro pins s σ H xs us Q I rv h
  obtain ⟨a, ns, rfl, hq, h64, q⟩ := h
  obtain ⟨u, rfl, ru⟩ := rv.one
  cases ru
  obtain ⟨its, r, pl, hl⟩ := I.list hq
  have hi : IntsAre its ns := intsAre_of r
  have hsz : sizeLine = 16777216 := sizeLine_eq
  refine sorted_ints pl.isList hi (by rw [hi.length]; exact h64) fun out ns' a1 a2 a3 => ?_
  exact sorted_put I a1 (by have := a2.length_eq; omega) fun l hl => q l ns' a2 a3 hl
def tSortR (K : PySem.W.Frag) (tl : TE) : TE := fun σ H Q => tl σ H fun x H1 => ∃ a ns, x = .ref a ∧ SqL K H1 a (vI ns) ∧ ns.length < 64 ∧ ∀ l ns', ns'.Perm ns → ns'.Pairwise (· ≥ ·) → H1 l = none → Q (.ref l) (upd H1 l (.lst (vI ns')))
end
open PySem PySem.Spec PyProof.Rows
namespace SetW
theorem sl_nx : Slot "set_iterator" "__next__" "set_iterator.__next__" := .of (owner := "set_iterator") (n := "__next__") (by rw [typeLookup_type, builtinLookup_eq_fast]; kernel_rfl) (by decide +kernel) (by decide +kernel) (by decide +kernel) (by first | exact .inl (by decide +kernel) | exact .inr (by decide +kernel)) (by rw [isSubtype_type]; kernel_rfl)
theorem sl_it : Slot "set_iterator" "__iter__" "set_iterator.__iter__" := .of (owner := "set_iterator") (n := "__iter__") (by rw [typeLookup_type, builtinLookup_eq_fast]; kernel_rfl) (by decide +kernel) (by decide +kernel) (by decide +kernel) (by first | exact .inl (by decide +kernel) | exact .inr (by decide +kernel)) (by rw [isSubtype_type]; kernel_rfl)
theorem en_nx : entryFor table "set_iterator.__next__" = some Builtin.«set_iterator.__next__» := entryFor_of_fast (by kernel_rfl)
theorem en_it : entryFor table "set_iterator.__iter__" = some Builtin.«dict_keyiterator.__iter__» := entryFor_alias (id' := "dict_keyiterator.__iter__") (by kernel_rfl) rfl (by decide +kernel) (by kernel_rfl)
theorem en_si : entryFor table "set.__iter__" = some Builtin.«frozenset.__iter__» := entryFor_alias (id' := "frozenset.__iter__") (by kernel_rfl) rfl (by decide +kernel) (by kernel_rfl)
theorem ar_nx (a : Value) : argsOk "set_iterator.__next__" ⟨[a], []⟩ := by unfold argsOk; kernel_rfl
theorem ar_it (a : Value) : argsOk "set_iterator.__iter__" ⟨[a], []⟩ := by unfold argsOk; kernel_rfl
theorem le_set : typeLookup (.type "set") "__len__" = pure (some (.builtin "set.__len__")) := by rw [typeLookup_type, builtinLookup_eq_fast]; kernel_rfl
end SetW
open PySem PySem.Spec PyProof.Rows
namespace SetW
theorem pick_go {α : Type} (next : Nat → Nat) : ∀ (fuel k : Nat) (left : List α) (out : Array α), left.length ≤ fuel → (pickOrder.go next fuel k left out).toList.Perm (out.toList ++ left)
  | 0, k, left, out, h => by
    have : left = [] := List.length_eq_zero_iff.mp (by omega)
    subst this
    simp [pickOrder.go]
  | fuel + 1, k, left, out, h => by
    unfold pickOrder.go
    by_cases e : left = []
    · subst e
      simp
    · have l0 : 0 < left.length := List.length_pos_iff.mpr e
      have l1 : next k % left.length < left.length := Nat.mod_lt _ l0
      rw [List.getElem?_eq_getElem l1]
      dsimp only
      refine (pick_go next fuel (k + 1) _ _ (by rw [List.length_eraseIdx, if_pos l1]; omega)).trans ?_
      rw [Array.toList_push, List.append_assoc]
      refine List.Perm.append_left _ ?_
      rw [List.eraseIdx_eq_take_drop_succ]
      have e2 : left = left.take (next k % left.length) ++ left[next k % left.length] :: left.drop (next k % left.length + 1) := by
        rw [List.getElem_cons_drop, List.take_append_drop]
      exact (List.perm_middle (a := left[next k % left.length]) (l₁ := left.take (next k % left.length)) (l₂ := left.drop (next k % left.length + 1))).symm.trans (.of_eq e2.symm)
theorem pick_perm {α : Type} (next : Nat → Nat) (xs : Array α) : (pickOrder next xs).toList.Perm xs.toList := by
  have := pick_go next xs.size 0 xs.toList #[] (by simp)
  simpa [pickOrder] using this
def Rise (xs : Array Nat) : Prop := ∀ i k, i < k → k < xs.size → xs.getD i 0 < xs.getD k 0
theorem below_go (xs : Array Nat) (j : Nat) (hR : Rise xs) : ∀ (fuel lo hi : Nat), lo ≤ hi → hi ≤ xs.size → hi - lo ≤ fuel → (∀ i, i < lo → xs.getD i 0 < j) → (∀ i, hi ≤ i → i < xs.size → j ≤ xs.getD i 0) →
    SetTable.below.go xs j fuel lo hi ≤ xs.size ∧ (∀ i, i < SetTable.below.go xs j fuel lo hi → xs.getD i 0 < j) ∧ (∀ i, SetTable.below.go xs j fuel lo hi ≤ i → i < xs.size → j ≤ xs.getD i 0)
  | 0, lo, hi, h1, h2, h3, h4, h5 => by
    have : lo = hi := by omega
    subst this
    unfold SetTable.below.go
    exact ⟨h2, h4, h5⟩
  | fuel + 1, lo, hi, h1, h2, h3, h4, h5 => by
    unfold SetTable.below.go
    by_cases c : lo < hi
    · rw [if_pos c]
      have hm : (lo + hi) / 2 < xs.size := by omega
      have e : xs.getD ((lo + hi) / 2) j = xs.getD ((lo + hi) / 2) 0 := by simp [Array.getD, hm]
      dsimp only
      by_cases c2 : xs.getD ((lo + hi) / 2) j < j
      · rw [if_pos c2]
        refine below_go xs j hR fuel _ hi (by omega) h2 (by omega) (fun i hi' => ?_) h5
        rw [e] at c2
        by_cases c3 : i = (lo + hi) / 2
        · rw [c3]; exact c2
        · have := hR i ((lo + hi) / 2) (by omega) hm
          omega
      · rw [if_neg c2]
        refine below_go xs j hR fuel lo _ (by omega) (by omega) (by omega) h4 (fun i hi' hs => ?_)
        rw [e] at c2
        by_cases c3 : i = (lo + hi) / 2
        · rw [c3]; omega
        · have := hR ((lo + hi) / 2) i (by omega) hs
          omega
    · rw [if_neg c]
      have : lo = hi := by omega
      subst this
      exact ⟨h2, h4, h5⟩
theorem below_is {xs : Array Nat} (hR : Rise xs) (j : Nat) : SetTable.below xs j ≤ xs.size ∧ (∀ i, i < SetTable.below xs j → xs.getD i 0 < j) ∧ (∀ i, SetTable.below xs j ≤ i → i < xs.size → j ≤ xs.getD i 0) :=
  below_go xs j hR xs.size 0 xs.size (Nat.zero_le _) (Nat.le_refl _) (by omega) (fun i h => by omega) (fun i h1 h2 => by omega)
theorem below_zero {xs : Array Nat} (hR : Rise xs) : SetTable.below xs 0 = 0 := by
  obtain ⟨h1, h2, h3⟩ := below_is hR 0
  by_cases c : SetTable.below xs 0 = 0
  · exact c
  · have := h2 0 (by omega); omega
theorem below_next {xs : Array Nat} (hR : Rise xs) {i : Nat} (hi : i < xs.size) : SetTable.below xs (xs.getD i 0 + 1) = i + 1 := by
  obtain ⟨h1, h2, h3⟩ := below_is hR (xs.getD i 0 + 1)
  rcases Nat.lt_trichotomy (SetTable.below xs (xs.getD i 0 + 1)) (i + 1) with c | c | c
  · have := h3 i (by omega) hi; omega
  · exact c
  · have a := h2 (i + 1) c
    have := hR i (i + 1) (by omega) (by omega)
    omega
structure Wk (w : World) (o : Obj) (es : Array (Int × Value)) (ep : Nat) (t : SetTable) : Prop where
  ex : o.ExactSet
  d : o.data = .set es ep t
  f : t.fits es.size = true
  ok : w.params.followText "set-order" = true ∨ es.size = 0 ∨ (t.led = true ∧ (t.plain = true → Rise t.place))
theorem Wk.rise {w : World} {o : Obj} {es : Array (Int × Value)} {ep : Nat} {t : SetTable} (W : Wk w o es ep t) (hb : w.params.followText "set-order" = false) (hp : t.plain = true ∨ es.size ≤ 1) : Rise t.place := by
  have hf : t.place.size = es.size := by
    have := W.f
    unfold SetTable.fits at this
    simp at this
    exact this.1
  rcases W.ok with e | e | ⟨_, e⟩
  · rw [hb] at e; cases e
  · intro i k h1 h2; omega
  · rcases hp with hp | hp
    · exact e hp
    · intro i k h1 h2; omega
def Md (w : World) (a : Addr) (es : Array (Int × Value)) (ep : Nat) (t : SetTable) (h : Heap) (T : Addr) (xl : List (Int × Value)) (i : Nat) (f : Value) : Prop :=
  (∃ slot : Nat, f = .int slot 0 ∧ ((w.params.followText "set-order" = true ∧ xl = (pickOrder (w.params.setOrder a ep) es).toList) ∨ (w.params.followText "set-order" = false ∧ (t.plain = true ∨ es.size ≤ 1) ∧ xl = es.toList ∧ SetTable.below t.place slot = i))) ∨
  (∃ pm : List Nat, f = .ref T ∧ h.get? T = some (seqObj "tuple" (pm.map fun k : Nat => rawInt (k : Int)).toArray 0) ∧ pm.Perm (List.range es.size) ∧ xl = pm.map fun k => es.toList.getD k (0, .none))
theorem Md.perm {w : World} {a T : Addr} {es : Array (Int × Value)} {ep i : Nat} {t : SetTable} {h : Heap} {xl : List (Int × Value)} {f : Value} (m : Md w a es ep t h T xl i f) : xl.Perm es.toList := by
  rcases m with ⟨_, _, ⟨_, e⟩ | ⟨_, _, e, _⟩⟩ | ⟨pm, _, _, hp, e⟩
  · rw [e]; exact pick_perm _ _
  · rw [e]
  · rw [e]
    refine (hp.map _).trans (.of_eq ?_)
    refine List.ext_getElem? fun k => ?_
    rw [List.getElem?_map]
    by_cases c : k < es.size
    · rw [List.getElem?_range c]
      simp [List.getD, c]
    · rw [List.getElem?_eq_none (by simp; omega), List.getElem?_eq_none (by simp; omega)]
      rfl
theorem Md.len {w : World} {a T : Addr} {es : Array (Int × Value)} {ep i : Nat} {t : SetTable} {h : Heap} {xl : List (Int × Value)} {f : Value} (m : Md w a es ep t h T xl i f) : xl.length = es.size := by
  rw [m.perm.length_eq, Array.length_toList]
def StI (w : World) (I a T : Addr) (o : Obj) (es : Array (Int × Value)) (ep : Nat) (t : SetTable) (xl : List (Int × Value)) (i : Nat) (h : Heap) : Prop :=
  ∃ f oi, h.get? I = some oi ∧ oi.cls = .type "set_iterator" ∧ oi.data = .fields #[f, .int i 0, .ref a, .int es.size 0, .int ep 0] ∧ Md w a es ep t h T xl i f ∧ h.get? a = some o
section
variable {prog : Program} {w : World} {A : Around} {E : Value → Shared → Prop} {s : Shared} {a T : Addr} {o : Obj} {es : Array (Int × Value)} {ep : Nat} {t : SetTable} {xl : List (Int × Value)}
theorem StI.typeIs {I : Addr} {i : Nat} (x : StI w I a T o es ep t xl i s.heap) : s.TypeIs (.ref I) "set_iterator" := let ⟨_, oi, ho, hc, _⟩ := x; ⟨oi, ho, hc⟩
theorem typ (W : Wk w o es ep t) (ho : s.heap.get? a = some o) : s.TypeIs (.ref a) "set" := ⟨o, ho, W.ex.1⟩
theorem st_byText {Q : Bool → Shared → Prop} (h : Q (w.params.followText "set-order") s) : wpAny (model prog w) A setsByText Q E s := by
  unfold setsByText
  exact wpAny_bind (wpAny_askSetting (wpAny_pure h))
theorem st_drawn (W : Wk w o es ep t) (ho : s.heap.get? a = some o) {Q : Bool → Shared → Prop} (h : Q (!w.params.followText "set-order" && (!t.plain && decide (es.size > 1))) s) : wpAny (model prog w) A (setDrawn a) Q E s := by
  unfold setDrawn
  exact wpAny_bind (wpAny_setState_of ho W.d W.f (wpAny_bind (st_byText (wpAny_pure h))))
theorem st_epoch (W : Wk w o es ep t) (ho : s.heap.get? a = some o) {Q : Nat → Shared → Prop} (h : Q ep s) : wpAny (model prog w) A (setEpoch a) Q E s := by
  unfold setEpoch
  exact wpAny_bind (wpAny_setState_of ho W.d W.f (wpAny_pure h))
theorem st_ents (W : Wk w o es ep t) (ho : s.heap.get? a = some o) {Q : Array (Int × Value) → Shared → Prop} (h : Q es s) : wpAny (model prog w) A (setEntries a) Q E s := by
  unfold setEntries
  exact wpAny_bind (wpAny_setState_of ho W.d W.f (wpAny_pure h))
theorem st_choose {M : Model} {n : Nat} (hn : 0 < n) {Q : Nat → Shared → Prop} (h : ∀ i d, i < n → Q i { s with drawn := d }) : wpAny M A (choose .order n) Q E s := fun Γ p _ => by
  show Sem.wp M Γ (.choose .order n .pure) _ _ p s
  rw [Sem.wp_choose]
  exact ⟨by omega, h _ _ (Nat.mod_lt _ hn)⟩
theorem st_order {α : Type} {M : Model} : ∀ (n : Nat) (l : List α) {s : Shared} {Q : List α → Shared → Prop}, l.length ≤ n → (∀ l' d, l'.Perm l → Q l' { s with drawn := d }) → wpAny M A (drawOrder n l) Q E s
  | 0, l, s, Q, hl, h => by
    have : l = [] := List.length_eq_zero_iff.mp (by omega)
    subst this
    unfold drawOrder
    exact wpAny_pure (h [] s.drawn (.refl _))
  | n + 1, [], s, Q, hl, h => by
    unfold drawOrder
    exact wpAny_pure (h [] s.drawn (.refl _))
  | n + 1, x :: l, s, Q, hl, h => by
    unfold drawOrder
    refine wpAny_bind (st_choose (by simp) fun i d hi => ?_)
    rw [List.getElem?_eq_getElem hi]
    dsimp only
    refine wpAny_bind (st_order n ((x :: l).eraseIdx i) (by rw [List.length_eraseIdx, if_pos hi]; omega) fun l' d' hp => wpAny_pure (h _ d' ?_))
    refine (hp.cons _).trans ?_
    rw [List.eraseIdx_eq_take_drop_succ]
    have e2 : (x :: l) = (x :: l).take i ++ (x :: l)[i] :: (x :: l).drop (i + 1) := by rw [List.getElem_cons_drop, List.take_append_drop]
    exact (List.perm_middle (a := (x :: l)[i]) (l₁ := (x :: l).take i) (l₂ := (x :: l).drop (i + 1))).symm.trans (.of_eq e2.symm)
theorem it_set (W : Wk w o es ep t) (ho : s.heap.get? a = some o) (hz : es.size ≤ sizeLine) {Q : Value → Shared → Prop}
    (hQ : ∀ (h' : Heap) d I T xl, I ≠ a → T ≠ I → s.heap.objs.size ≤ I → (T = a ∨ s.heap.objs.size ≤ T) → (∀ b o, s.heap.get? b = some o → h'.get? b = some o) → StI w I a T o es ep t xl 0 h' → Q (.ref I) { s with heap := h', drawn := d }) : wpAny (model prog w) A (pyIter (.ref a)) Q E s := by
  have hT := typ W ho
  have ha : a < s.heap.objs.size := Heap.lt_size ho
  refine wpAny_pyIter_slot hT F.slot_set_iter (wpAny_call_entry F.slot_set_iter hT en_si ?_ (F.args_set_iter_1 _))
  unfold Builtin.«frozenset.__iter__»
  refine wpAny_bind (m := Builtin.Frozenset.slot0 "__iter__" ⟨[.ref a], []⟩) (wpAny_of_eq (a := a) rfl ?_)
  refine wpAny_bind (wpAny_bind (st_ents W ho (wpAny_pure ?_)))
  refine wpAny_bind (st_drawn W ho ?_)
  dsimp only
  by_cases c : (!w.params.followText "set-order" && (!t.plain && decide (es.size > 1))) = true
  · rw [if_pos c]
    refine wpAny_bind (st_order es.size (List.range es.size) (by simp) fun pm d hp => ?_)
    have hl : pm.length = es.size := by rw [hp.length_eq, List.length_range]
    unfold newTuple
    refine wpAny_bind (wpAny_newObj_type ?_ (by show (List.map _ pm).toArray.size ≤ _ + 1; rw [List.size_toArray, List.length_map, hl]; have := sizeLine_eq; omega))
    have k1 : ∀ b ob, s.heap.get? b = some ob → (s.heap.push { cls := .type "tuple", data := .seq (pm.map fun k : Nat => rawInt (k : Int)).toArray }).get? b = some ob := fun b ob e => Heap.get?_push_of_some _ e
    refine wpAny_bind (st_epoch W (k1 _ _ ho) (wpAny_bind (wpAny_newObj_type (wpAny_pure ⟨_, rfl, "set_iterator", _, ⟨_, Heap.get?_push_size _ rfl, rfl⟩, sl_nx.lookup, ?_⟩))))
    refine hQ _ d _ s.heap.objs.size (pm.map fun k => es.toList.getD k (0, .none)) ?_ ?_ ?_ (.inr (Nat.le_refl _)) (fun b ob e => Heap.get?_push_of_some _ (k1 _ _ e)) ?_
    · show (s.heap.push _).objs.size ≠ a
      rw [Heap.size_push]; exact Nat.ne_of_gt (Nat.lt_succ_of_lt ha)
    · show s.heap.objs.size ≠ (s.heap.push _).objs.size
      rw [Heap.size_push]; exact Nat.ne_of_lt (Nat.lt_succ_self _)
    · show s.heap.objs.size ≤ (s.heap.push _).objs.size
      rw [Heap.size_push]; exact Nat.le_succ _
    · exact ⟨.ref s.heap.objs.size, _, Heap.get?_push_size _ rfl, rfl, rfl, .inr ⟨pm, rfl, Heap.get?_push_of_some _ (Heap.get?_push_size _ rfl), hp, rfl⟩, Heap.get?_push_of_some _ (k1 _ _ ho)⟩
  · rw [if_neg c]
    refine wpAny_bind (wpAny_pure (wpAny_bind (st_epoch W ho (wpAny_bind (wpAny_newObj_type (wpAny_pure ⟨_, rfl, "set_iterator", _, ⟨_, Heap.get?_push_size _ rfl, rfl⟩, sl_nx.lookup, ?_⟩))))))
    have k : ∀ b ob, s.heap.get? b = some ob → (s.heap.push { cls := .type "set_iterator", data := .fields [rawInt 0, rawInt 0, .ref a, rawInt es.size, rawInt ep].toArray }).get? b = some ob := fun b ob e => Heap.get?_push_of_some _ e
    refine hQ _ s.drawn s.heap.objs.size a (if w.params.followText "set-order" = true then (pickOrder (w.params.setOrder a ep) es).toList else es.toList) (Nat.ne_of_gt ha) (Nat.ne_of_lt ha) (Nat.le_refl _) (.inl rfl) k ?_
    refine ⟨rawInt 0, _, Heap.get?_push_size _ rfl, rfl, rfl, .inl ⟨0, rfl, ?_⟩, k _ _ ho⟩
    by_cases hb : w.params.followText "set-order" = true
    · exact .inl ⟨hb, by rw [if_pos hb]⟩
    · have hb' : w.params.followText "set-order" = false := by simpa using hb
      rw [hb'] at c
      have hpl : t.plain = true ∨ es.size ≤ 1 := by
        by_cases z : t.plain = true
        · exact .inl z
        · have z' : t.plain = false := by simpa using z
          rw [z'] at c
          simp at c
          exact .inr c
      exact .inr ⟨hb', hpl, by rw [if_neg hb], below_zero (W.rise hb' hpl)⟩
theorem st_next (W : Wk w o es ep t) (ho : s.heap.get? a = some o) {slot i : Nat}
    (hm : (w.params.followText "set-order" = true ∧ xl = (pickOrder (w.params.setOrder a ep) es).toList) ∨ (w.params.followText "set-order" = false ∧ (t.plain = true ∨ es.size ≤ 1) ∧ xl = es.toList ∧ SetTable.below t.place slot = i)) {Q : Option (Value × Nat) → Shared → Prop}
    (h : ∀ next, (i < es.size → (w.params.followText "set-order" = true ∧ xl = (pickOrder (w.params.setOrder a ep) es).toList) ∨ (w.params.followText "set-order" = false ∧ (t.plain = true ∨ es.size ≤ 1) ∧ xl = es.toList ∧ SetTable.below t.place next = i + 1)) →
      Q ((xl[i]?).map fun e => (e.2, next)) s) : wpAny (model prog w) A (setNext a slot i ep) Q E s := by
  unfold setNext
  refine wpAny_bind (wpAny_setState_of ho W.d W.f (wpAny_bind (st_byText ?_)))
  dsimp only
  rcases hm with ⟨hb, hx⟩ | ⟨hb, hp, hx, hs⟩
  · rw [hb, if_pos rfl, if_neg (by simp)]
    unfold setWalk
    refine wpAny_bind (wpAny_bind (wpAny_setState_of ho W.d W.f (wpAny_bind (st_byText ?_))))
    rw [hb, if_pos rfl]
    refine wpAny_bind (wpAny_askSetting (wpAny_pure (wpAny_pure ?_)))
    have := h slot fun _ => .inl ⟨hb, hx⟩
    rw [hx, Array.getElem?_toList] at this
    exact this
  · rw [hb, if_neg (by decide)]
    have hR := W.rise hb hp
    have hf : t.place.size = es.size := by
      have := W.f
      unfold SetTable.fits at this
      simp at this
      exact this.1
    have nd : (!t.plain && decide (es.size > 1)) = false := by
      rcases hp with e | e
      · rw [e]; simp
      · rw [decide_eq_false (by omega)]; simp
    have nl : (!t.led && !es.isEmpty) = false := by
      rcases W.ok with e | e | ⟨e, _⟩
      · rw [hb] at e; cases e
      · simp [Array.isEmpty, e]
      · rw [e]; simp
    split
    · rename_i hd
      have hd' : (!t.plain && decide (es.size > 1)) = true := hd
      rw [nd] at hd'
      cases hd'
    · refine wpAny_bind ?_
      show wpAny _ _ (if (!t.led && !es.isEmpty) = true then unsupported "set:maker-not-led" else pure ()) _ _ _
      rw [nl, if_neg (by decide)]
      refine wpAny_pure (wpAny_pure ?_)
      rw [hs]
      by_cases hi : i < es.size
      · have := h (t.place[i]'(by omega) + 1) fun _ => .inr ⟨hb, hp, hx, by
          have := below_next hR (i := i) (by omega)
          rwa [show t.place.getD i 0 = t.place[i]'(by omega) by simp [Array.getD, show i < t.place.size by omega]] at this⟩
        rw [hx, Array.getElem?_toList, Array.getElem?_eq_getElem hi] at this
        rw [Array.getElem?_eq_getElem hi, Array.getElem?_eq_getElem (show i < t.place.size by omega)]
        exact this
      · have := h 0 fun z => absurd z hi
        rw [hx, Array.getElem?_toList, Array.getElem?_eq_none (by omega)] at this
        rw [Array.getElem?_eq_none (by omega)]
        exact this
theorem nx_item (W : Wk w o es ep t) {I : Addr} {i : Nat} {x : Int × Value} {Q : Option Value → Shared → Prop} (hne : a ≠ I) (hnT : T ≠ I) (st : StI w I a T o es ep t xl i s.heap) (hx : xl[i]? = some x)
    (hQ : ∀ h', StI w I a T o es ep t xl (i + 1) h' → (∀ b o, b ≠ I → s.heap.get? b = some o → h'.get? b = some o) → Q (some x.2) { s with heap := h' }) : wpAny (model prog w) A (pyNext (.ref I)) Q E s := by
  have hT := st.typeIs
  obtain ⟨f, oi, hoi, hci, hdi, hm, ho⟩ := st
  have hi : i < es.size := by rw [← hm.len]; exact (List.getElem?_eq_some_iff.mp hx).1
  unfold pyNext
  refine wpAny_bind (wpAny_attempt (wpAny_callSpecial?_slot (name := Str.ofString "__next__") hT sl_nx (wpAny_call_entry sl_nx hT en_nx ?_ (ar_nx _))))
  unfold Builtin.«set_iterator.__next__»
  refine wpAny_bind (m := slotArgs "__next__" 0 ⟨[.ref I], []⟩) (wpAny_of_eq (a := (Value.ref I, [])) rfl ?_)
  refine wpAny_bind (wpAny_fieldsOf hoi hdi ?_)
  dsimp only
  refine wpAny_bind (st_ents W ho ?_)
  rw [if_neg (by simp)]
  rcases hm with ⟨slot, rfl, hm⟩ | ⟨pm, rfl, hT2, hp, hxl⟩
  · simp only [Int.toNat_natCast]
    refine wpAny_bind (st_next W ho hm fun next hn => ?_)
    rw [hx]
    dsimp only [Option.map]
    refine wpAny_bind (wpAny_setField hoi hdi (by simp) ?_)
    have ho1 := Heap.get?_update_self (Obj.mapFields (·.setIfInBounds 0 (rawInt (next : Int)))) hoi (Obj.isFreed_of_fields (Obj.data_mapFields hdi _))
    have hd1 := Obj.data_mapFields hdi (·.setIfInBounds 0 (rawInt (next : Int)))
    refine wpAny_bind (wpAny_setField ho1 hd1 (by simp) (wpAny_pure ⟨_, rfl, wpAny_pure (hQ _ ⟨.int next 0, _, Heap.get?_update_self _ ho1 (Obj.isFreed_of_fields (Obj.data_mapFields hd1 _)), ?_, ?_, .inl ⟨next, rfl, hn hi⟩, ?_⟩ fun b o' hb e => ?_)⟩))
    · exact (Obj.cls_mapFields ..).trans ((Obj.cls_mapFields ..).trans hci)
    · rw [Obj.data_mapFields hd1]; simp [rawInt]
    · exact (Heap.get?_update_other _ _ (Ne.symm hne)).trans ((Heap.get?_update_other _ _ (Ne.symm hne)).trans ho)
    · exact (Heap.get?_update_other _ _ (Ne.symm hb)).trans ((Heap.get?_update_other _ _ (Ne.symm hb)).trans e)
  · have hpi : i < pm.length := by rw [hp.length_eq, List.length_range]; exact hi
    have hk : pm[i] < es.size := by
      have := hp.mem_iff.mp (List.getElem_mem hpi)
      simpa using this
    have e1 : es[pm[i]]? = some x := by
      rw [hxl, List.getElem?_map, List.getElem?_eq_getElem hpi] at hx
      have := Option.some.inj hx
      rw [Array.getElem?_eq_getElem hk]
      simp [List.getD, hk] at this
      rw [this]
    simp only [Int.toNat_natCast]
    refine wpAny_bind (wpAny_seqItems hT2 rfl ?_)
    dsimp only
    rw [show ((pm.map fun k : Nat => rawInt (k : Int)).toArray)[i]? = some (.int (pm[i] : Int) 0) by simp [hpi, rawInt]]
    dsimp only
    unfold setNextDrawn
    refine wpAny_bind (wpAny_bind (wpAny_setState_of ho W.d W.f ?_))
    dsimp only
    rw [if_neg (by simp)]
    simp only [Int.toNat_natCast]
    rw [e1]
    refine wpAny_pure (wpAny_bind (wpAny_setField hoi hdi (by simp) (wpAny_pure ⟨_, rfl, wpAny_pure (hQ _ ⟨.ref T, _, Heap.get?_update_self _ hoi (Obj.isFreed_of_fields (Obj.data_mapFields hdi _)), ?_, ?_, .inr ⟨pm, rfl, ?_, hp, hxl⟩, ?_⟩ fun b o' hb e => ?_)⟩)))
    · exact (Obj.cls_mapFields ..).trans hci
    · rw [Obj.data_mapFields hdi]; simp [rawInt]
    · exact (Heap.get?_update_other _ _ (Ne.symm hnT)).trans hT2
    · exact (Heap.get?_update_other _ _ (Ne.symm hne)).trans ho
    · exact (Heap.get?_update_other _ _ (Ne.symm hb)).trans e
theorem stops (hh : A.handled = none) {Q : Option Value → Shared → Prop} (hQ : ∀ h', (∀ b o, s.heap.get? b = some o → h'.get? b = some o) → Q none { s with heap := h' }) :
    wpAny (model prog w) A.in1 (do raiseNew (← newExc (.type "StopIteration") []) : Sem Fin) (fun fin s' => ∃ v, fin = Fin.done (Flow.ret v) ∧ wpAny (model prog w) A (pure (some v)) Q E s')
      (fun e s' => wpAny (model prog w) A (do if ← isInstance e (.type "StopIteration") then pure none else throw e) Q E s') s := by
  refine wpAny_bind ?_
  simp only [newExc, newTuple]
  refine wpAny_bind (wpAny_newObj_type (wpAny_bind (m := firstArgMember _ _) (wpAny_of_eq (a := Value.none) (by first | rfl | (simp only [firstArgMember]; rfl)) (wpAny_newObj_type ?_ (by size_fits)))) (by size_fits))
  simp only [raiseNew]
  refine wpAny_bind (wpAny_handled ?_)
  rw [show A.in1.handled = none from hh]
  refine wpAny_bind (wpAny_pure (wpAny_throw ?_))
  refine wpAny_bind (wpAny_isInstance (T := "StopIteration") (b := true) ⟨_, Heap.get?_push_size _ rfl, rfl⟩ isSubtype_stop (wpAny_pure (hQ _ fun b o' e => ?_)))
  exact Heap.get?_push_of_some _ (Heap.get?_push_of_some _ e)
theorem nx_end (W : Wk w o es ep t) {I : Addr} {Q : Option Value → Shared → Prop} (hh : A.handled = none) (st : StI w I a T o es ep t xl es.size s.heap)
    (hQ : ∀ h', (∀ b o, b ≠ I → s.heap.get? b = some o → h'.get? b = some o) → Q none { s with heap := h' }) : wpAny (model prog w) A (pyNext (.ref I)) Q E s := by
  have hT := st.typeIs
  obtain ⟨f, oi, hoi, hci, hdi, hm, ho⟩ := st
  have hx : xl[es.size]? = none := List.getElem?_eq_none (by rw [hm.len]; exact Nat.le_refl _)
  unfold pyNext
  refine wpAny_bind (wpAny_attempt (wpAny_callSpecial?_slot (name := Str.ofString "__next__") hT sl_nx (wpAny_call_entry sl_nx hT en_nx ?_ (ar_nx _))))
  unfold Builtin.«set_iterator.__next__»
  refine wpAny_bind (m := slotArgs "__next__" 0 ⟨[.ref I], []⟩) (wpAny_of_eq (a := (Value.ref I, [])) rfl ?_)
  refine wpAny_bind (wpAny_fieldsOf hoi hdi ?_)
  dsimp only
  refine wpAny_bind (st_ents W ho ?_)
  rw [if_neg (by simp)]
  rcases hm with ⟨slot, rfl, hm⟩ | ⟨pm, rfl, hT2, hp, hxl⟩
  · simp only [Int.toNat_natCast]
    refine wpAny_bind (st_next W ho hm fun next hn => ?_)
    rw [hx]
    dsimp only [Option.map]
    refine wpAny_bind (wpAny_setField hoi hdi (by simp) (stops hh fun h' k => hQ h' fun b o' hb e => k _ _ ?_))
    exact (Heap.get?_update_other _ _ (Ne.symm hb)).trans e
  · simp only [Int.toNat_natCast]
    refine wpAny_bind (wpAny_seqItems hT2 rfl ?_)
    dsimp only
    rw [show ((pm.map fun k : Nat => rawInt (k : Int)).toArray)[es.size]? = none by
      rw [List.getElem?_toArray]
      exact List.getElem?_eq_none (by rw [List.length_map, hp.length_eq, List.length_range]; exact Nat.le_refl _)]
    dsimp only
    refine wpAny_bind (wpAny_setField hoi hdi (by simp) ?_)
    have ho1 := Heap.get?_update_self (Obj.mapFields (·.setIfInBounds 0 (rawInt 0))) hoi (Obj.isFreed_of_fields (Obj.data_mapFields hdi _))
    have hd1 := Obj.data_mapFields hdi (·.setIfInBounds 0 (rawInt 0))
    refine wpAny_bind (wpAny_setField ho1 hd1 (by simp) (stops hh fun h' k => hQ h' fun b o' hb e => k _ _ ?_))
    exact (Heap.get?_update_other _ _ (Ne.symm hb)).trans ((Heap.get?_update_other _ _ (Ne.symm hb)).trans e)
theorem it_self {I : Addr} {i : Nat} {Q : Value → Shared → Prop} (st : StI w I a T o es ep t xl i s.heap) (h : Q (.ref I) s) : wpAny (model prog w) A (pyIter (.ref I)) Q E s := by
  have hT := st.typeIs
  refine wpAny_pyIter_slot hT sl_it (wpAny_call_entry sl_it hT en_it ?_ (ar_it _))
  show wpAny _ _ (ret (.ref I)) _ _ s
  exact wpAny_pure ⟨_, rfl, "set_iterator", _, hT, sl_nx.lookup, h⟩
theorem walks (W : Wk w o es ep t) (hh : A.handled = none) {I : Addr} (hne : a ≠ I) (hnT : T ≠ I) : Walks prog w A I [I, a, T] [I] es.size (fun i v => ∃ x, xl[i]? = some x ∧ v = x.2) (StI w I a T o es ep t xl) where
  sub := fun b hb => by rw [List.mem_singleton.mp hb]; exact List.mem_cons_self
  frame := fun i h h' ⟨f, oi, h1, h2, h3, hm, h4⟩ hk => ⟨f, oi, hk I (by simp) _ h1, h2, h3, by
    rcases hm with m | ⟨pm, m1, m2, m3⟩
    · exact .inl m
    · exact .inr ⟨pm, m1, hk T (by simp) _ m2, m3⟩, hk a (by simp) _ h4⟩
  item := fun i s Q E hi st hQ => by
    obtain ⟨x, hx⟩ : ∃ x, xl[i]? = some x := ⟨_, List.getElem?_eq_getElem (by
      obtain ⟨_, _, _, _, _, hm, _⟩ := id st
      rw [hm.len]; exact hi)⟩
    exact nx_item W hne hnT st hx fun h' st' hk => hQ _ h' s.toks ⟨x, hx, rfl⟩ st' fun b o hb e => hk b o (fun z => hb (by simp [z])) e
  done := fun s Q E st hQ => nx_end W hh st fun h' hk => hQ h' s.toks fun b o hb e => hk b o (fun z => hb (by simp [z])) e
  self := fun i s Q E st hQ => it_self st hQ
end
end SetW
open PySem PySem.Spec PyProof.Rows
namespace SetW
section
variable {prog : Program} {w : World} {A : Around} {E : Value → Shared → Prop} {s : Shared} {a : Addr} {o : Obj} {es : Array (Int × Value)} {ep : Nat} {t : SetTable}
theorem sub_ss : isSubtype (.type "set") (.type "set") = pure true := by rw [isSubtype_type]; kernel_rfl
theorem col_set (W : Wk w o es ep t) (ho : s.heap.get? a = some o) (hh : A.handled = none) (hn : es.size ≤ sizeLine) {Q : List Value → Shared → Prop}
    (hQ : ∀ (xl : List (Int × Value)) s', xl.Perm es.toList → (∀ b o, s.heap.get? b = some o → s'.heap.get? b = some o) → s'.gens = s.gens → s'.os = s.os → s.heap.objs.size ≤ s'.heap.objs.size → Q (xl.map (·.2)) s') : wpAny (model prog w) A (collect (.ref a)) Q E s := by
  have ha : a < s.heap.objs.size := Heap.lt_size ho
  unfold collect
  refine wpAny_bind (wpAny_runValue (codeAny_builtin F.entry_proto_collect ?_))
  rw [Around.under_plainId F.plain_proto_collect _]
  show wpAny _ A.in1 (newList [] >>= fun l => again (.builtin "list.__iadd__" ⟨[l, .ref a], []⟩)) _ _ s
  refine wpAny_bind (wpAny_newObj_type (wpAny_pure ⟨plainId_quiet F.plain_list_iadd _, codeAny_builtin F.entry_list_iadd ?_⟩))
  rw [Around.under_plainId F.plain_list_iadd _]
  obtain ⟨h1, eh1⟩ : ∃ h1, h1 = s.heap.push { cls := .type "list", data := .seq ([] : List Value).toArray } := ⟨_, rfl⟩
  have hS1 : h1.get? s.heap.objs.size = some { cls := .type "list", data := .seq ([] : List Value).toArray } := by rw [eh1]; exact Heap.get?_push_size _ rfl
  have k1 : ∀ b o, s.heap.get? b = some o → h1.get? b = some o := fun b o e => by rw [eh1]; exact Heap.get?_push_of_some _ e
  have z1 : h1.objs.size = s.heap.objs.size + 1 := by rw [eh1, Heap.size_push]
  show wpAny _ A.in1 (Builtin.List.listExtendWith (.ref s.heap.objs.size) (.ref a) (.ref s.heap.objs.size)) _ _ { s with heap := s.heap.push { cls := .type "list", data := .seq ([] : List Value).toArray } }
  rw [← eh1]
  unfold Builtin.List.listExtendWith
  have ho1 := k1 _ _ ho
  refine wpAny_bind (wpAny_typeOf (typ (s := { s with heap := h1 }) W ho1) ?_)
  have e1 : Builtin.List.listSameRef (.ref s.heap.objs.size) (.ref a) = false := by
    have : s.heap.objs.size ≠ a := Nat.ne_of_gt ha
    simp [Builtin.List.listSameRef, this]
  rw [if_neg (by rw [e1]; decide)]
  refine wpAny_bind (it_set (s := { s with heap := h1 }) W ho1 hn ?_)
  intro h2 d I T xl nIa nTI sI sT k2 st2
  have hxp : xl.Perm es.toList := by
    obtain ⟨_, _, _, _, _, hm, _⟩ := st2
    exact hm.perm
  have sI' : s.heap.objs.size < I := Nat.lt_of_lt_of_le (by rw [z1]; exact Nat.lt_succ_self _) sI
  show wpAny _ A.in1 _ _ _ { s with heap := h2, drawn := d }
  refine wpAny_bind (wpAny_holding ?_)
  unfold Builtin.List.listLengthHint
  have ho2 := k2 _ _ ho1
  refine wpAny_bind (wpAny_specialOf (typ (s := { s with heap := h2, drawn := d }) W ho2) le_set ?_)
  generalize hid : ("set.__len__" : String) = ln0
  wp_delta
  rw [show splitId ln0 = some ("set", "__len__") by subst hid; decide +kernel]
  subst hid
  refine wpAny_bind (wpAny_isInstance (b := true) (typ (s := { s with heap := h2, drawn := d }) W ho2) sub_ss ?_)
  rw [if_neg (by decide)]
  split
  case isFalse hn1 => exact absurd (by decide +kernel) hn1
  refine wpAny_bind (wpAny_typeOf (typ (s := { s with heap := h2, drawn := d }) W ho2) (wpAny_pure ?_))
  rw [if_pos (by decide +kernel)]
  refine wpAny_bind (wpAny_rule (wpAny_bind ?_))
  have hS2 := k2 _ _ hS1
  show wpAny _ A.in1 (updateSeq s.heap.objs.size (·.push .none) >>= fun _ => updateSeq s.heap.objs.size (·.pop)) _ _ _
  refine wpAny_bind (wpAny_updateSeq hS2 rfl ?_)
  have hS3 := Heap.get?_update_self (Obj.mapSeq (·.push Value.none)) hS2 rfl
  refine wpAny_updateSeq hS3 rfl ?_
  have hS4 := Heap.get?_update_self (Obj.mapSeq (·.pop)) hS3 rfl
  obtain ⟨h4, eh4⟩ : ∃ h4, h4 = (h2.update s.heap.objs.size (Obj.mapSeq (·.push Value.none))).update s.heap.objs.size (Obj.mapSeq (·.pop)) := ⟨_, rfl⟩
  have k4 : ∀ b o, b ≠ s.heap.objs.size → h2.get? b = some o → h4.get? b = some o := fun b o hb e => by rw [eh4]; exact (Heap.get?_update_other _ _ (Ne.symm hb)).trans ((Heap.get?_update_other _ _ (Ne.symm hb)).trans e)
  have nT : T ≠ s.heap.objs.size := by
    rcases sT with e | e
    · rw [e]; exact Nat.ne_of_lt ha
    · exact Nat.ne_of_gt (Nat.lt_of_lt_of_le (by rw [z1]; exact Nat.lt_succ_self _) e)
  have WK := walks (prog := prog) (T := T) (xl := xl) (A := A.in1) W hh nIa.symm nTI
  have st4 : StI w I a T o es ep t xl 0 h4 := WK.frame 0 h2 h4 st2 fun b hb ob e => k4 b ob (by
    simp only [List.mem_cons, List.not_mem_nil, or_false] at hb
    rcases hb with e | e | e
    · rw [e]; exact Nat.ne_of_gt sI'
    · rw [e]; exact Nat.ne_of_lt ha
    · rw [e]; exact nT) e
  show wpAny _ A.in1 (again (.builtin "list.extend.loop" ⟨[.ref s.heap.objs.size, .ref I, .ref s.heap.objs.size], []⟩)) _ _ { s with heap := (h2.update s.heap.objs.size (Obj.mapSeq (·.push Value.none))).update s.heap.objs.size (Obj.mapSeq (·.pop)), drawn := d }
  rw [← eh4]
  rw [← eh4] at hS4
  refine wpAny_pure ⟨plainId_quiet F.plain_extend_loop _, codeAny_extend_loopS (WK.toS) hn s.heap.objs.size ?_ _ es.size 0 _ _ _ rfl (Nat.zero_le _) st4 hS4 (ItemsOf.nil _) fun s' acc' c' hm hS' hacc => ?_⟩
  · simp only [List.mem_cons, List.not_mem_nil, or_false, not_or]
    exact ⟨Nat.ne_of_lt sI', Nat.ne_of_gt ha, nT.symm⟩
  show wpAny _ A (load s.heap.objs.size >>= _) _ _ s'
  refine wpAny_bind (wpAny_load hS' (wpAny_pure ?_))
  have xlen : xl.length = es.size := by rw [hxp.length_eq, Array.length_toList]
  have ea : acc'.toList = xl.map (·.2) := by
    refine List.ext_getElem? fun i => ?_
    rw [List.getElem?_map, Array.getElem?_toList]
    by_cases hi : i < es.size
    · have hi2 : i < acc'.size := by rw [hacc.1]; exact hi
      obtain ⟨x, g1, g2⟩ := hacc.2 i acc'[i] (Array.getElem?_eq_getElem hi2)
      rw [g1, Array.getElem?_eq_getElem hi2, g2]
      rfl
    · rw [Array.getElem?_eq_none (by rw [hacc.1]; omega), List.getElem?_eq_none (by rw [xlen]; omega)]
      rfl
  rw [ea]
  refine hQ xl s' hxp (fun b ob e => hm.heap b ob ?_ (k4 _ _ (Nat.ne_of_lt (Heap.lt_size e)) (k2 _ _ (k1 _ _ e)))) hm.gens hm.os (Nat.le_of_lt (Heap.lt_size hS'))
  have := Heap.lt_size e
  simp only [List.mem_cons, List.not_mem_nil, or_false, not_or]
  exact ⟨Nat.ne_of_lt this, Nat.ne_of_lt (Nat.lt_trans this sI')⟩
theorem sorted_set (W : Wk w o es ep t) (ho : s.heap.get? a = some o) (hh : A.handled = none) (h64 : es.size < 64) {key : Int × Value → Int} (hI : ∀ e ∈ es.toList, ∃ tk, e.2 = .int (key e) tk) {Q : Value → Shared → Prop}
    (hQ : ∀ (h' : Heap) d (tk l e : Nat) (out : Array Value) (ns' : List Int), (∀ b o, s.heap.get? b = some o → h'.get? b = some o) → s.heap.objs.size ≤ l → h'.get? l = some (seqObj "list" out e) → IntsAre out.toList ns' → ns'.Perm (es.toList.map key) → ns'.Pairwise (· ≤ ·) →
      Q (.ref l) { s with heap := h', drawn := d, toks := tk }) : wpAny (model prog w) A (call (.builtin "sorted") [.ref a]) Q E s := by
  refine Calls.call_function_entry kind_sorted plain_sorted entry_sorted (args_sorted1 _) ?_
  unfold Builtin.«sorted»
  refine wpAny_bind (m := checkCount "sorted" 1 1 _) (wpAny_pure (wpAny_bind (col_set (A := A.in1) W ho hh (by rw [sizeLine_eq]; omega) fun xl s' hxp k hg hos hz => ?_)))
  obtain ⟨h', g', d', tk', os'⟩ := s'
  dsimp only at k hg hos hz
  subst hg hos
  have xlen : xl.length = es.size := by rw [hxp.length_eq, Array.length_toList]
  have hI2 : ∀ l : List (Int × Value), (∀ e ∈ l, ∃ tk, e.2 = .int (key e) tk) → IntsAre (l.map (·.2)) (l.map key) := by
    intro l
    induction l with
    | nil => intro _; exact .nil
    | cons e l ih =>
      intro h
      obtain ⟨tk, hk⟩ := h e List.mem_cons_self
      rw [List.map_cons, List.map_cons, hk]
      exact .cons _ _ (ih fun x hx => h x (List.mem_cons_of_mem _ hx))
  have hIx := hI2 xl fun e he => hI e (hxp.mem_iff.mp he)
  have hoL : (h'.push (seqObj "list" (xl.map (·.2)).toArray 0)).get? h'.objs.size = some (seqObj "list" (xl.map (·.2)).toArray 0) := Heap.get?_push_size _ rfl
  refine wpAny_bind (wpAny_newList (hsz := by rw [List.length_map, xlen, sizeLine_eq]; omega) ?_)
  show wpAny _ _ _ _ _ { s with heap := h'.push (seqObj "list" (xl.map (·.2)).toArray 0), drawn := d', toks := tk' }
  refine wpAny_bind (wpAny_holding (wpAny_call_entry slot_list_sort ⟨_, hoL, rfl⟩ entry_list_sort (list_sort_tree hoL hIx (by rw [List.length_map, xlen]; exact h64) fun out ns' a1 a2 a3 => ⟨_, rfl, wpAny_pure ⟨_, rfl, ?_⟩⟩) (args_list_sort _)))
  obtain ⟨e, he⟩ := sortedHeap_at (out := out) hoL
  refine hQ _ d' tk' h'.objs.size e out ns' (fun b ob eb => ?_) ?_ he a1 (a2.trans (hxp.map _)) a3
  · have lb := Heap.lt_size (k _ _ eb)
    rw [sortedHeap_old (Nat.ne_of_lt lb) (by rw [size_push']; exact Nat.lt_succ_of_lt lb)]
    exact Heap.get?_push_of_some _ (k _ _ eb)
  · exact hz
end
end SetW
open PySem PySem.Spec PyProof.Rows
namespace SetW
theorem rise_iff {xs : Array Nat} : Rise xs ↔ xs.toList.Pairwise (· < ·) := by
  rw [List.pairwise_iff_getElem]
  constructor
  · intro h i j hi hj hij
    have := h i j hij (by simpa using hj)
    have hi' : i < xs.size := by simpa using hi
    have hj' : j < xs.size := by simpa using hj
    simpa [Array.getD, hi', hj'] using this
  · intro h i k hik hk
    have := h i k (by simp; omega) (by simpa using hk) hik
    have hi' : i < xs.size := by omega
    simpa [Array.getD, hi', hk] using this
theorem rise_put {xs : Array Nat} {j : Nat} (hR : Rise xs) (hn : xs[SetTable.below xs j]? ≠ some j) : Rise (SetTable.insertAt xs (SetTable.below xs j) j) := by
  obtain ⟨h1, h2, h3⟩ := below_is hR j
  have hP := rise_iff.mp hR
  rw [rise_iff]
  generalize SetTable.below xs j = p at h1 h2 h3 hn
  have e : (SetTable.insertAt xs p j).toList = xs.toList.take p ++ j :: xs.toList.drop p := by
    unfold SetTable.insertAt
    simp [Array.toList_extract, List.take_of_length_le]
  rw [e]
  have g : ∀ i, i < xs.size → xs.getD i 0 = xs.toList.getD i 0 := fun i hi => by simp [Array.getD, List.getD, hi]
  have lo : ∀ y ∈ xs.toList.take p, y < j := fun y hy => by
    obtain ⟨i, hi, rfl⟩ := List.mem_take_iff_getElem.mp hy
    have hi' : i < p ∧ i < xs.size := by simpa using (Nat.lt_min.mp hi)
    have := h2 i hi'.1
    simpa [Array.getD, hi'.2] using this
  have hi : ∀ y ∈ xs.toList.drop p, j < y := fun y hy => by
    obtain ⟨i, hi, rfl⟩ := List.mem_drop_iff_getElem.mp hy
    have hi' : i + p < xs.size := by simpa using hi
    have a := h3 (i + p) (by omega) hi'
    have b : xs.getD (i + p) 0 = xs[i + p] := by simp [Array.getD, hi']
    rw [b] at a
    have ne : xs[i + p] ≠ j := fun z => by
      by_cases c : i = 0
      · subst c
        apply hn
        rw [Array.getElem?_eq_getElem (by omega)]
        simp at z
        rw [z]
      · have c1 := h3 p (Nat.le_refl _) (by omega)
        have c2 := hR p (i + p) (by omega) hi'
        rw [b, z] at c2
        omega
    have : (xs.toList)[i + p]'(by simpa using hi') = xs[i + p] := by simp
    simp only [Nat.add_comm] at *
    omega
  rw [List.pairwise_append]
  refine ⟨hP.sublist (List.take_sublist _ _), ?_, fun a ha b hb => ?_⟩
  · rw [List.pairwise_cons]
    exact ⟨hi, hP.sublist (List.drop_sublist _ _)⟩
  · rcases List.mem_cons.mp hb with e | hb
    · rw [e]; exact lo a ha
    · exact Nat.lt_trans (lo a ha) (hi b hb)
theorem probe_free (t : SetTable) (g : Nat → Int) (h : Int) : ∀ (fuel : Nat) (p : SetTable.Probe) (j : Nat) (dm : Option Nat), (∀ d, p.dummy = some d → t.slot d = .dummy) → SetTable.probe.go t g h fuel p = some (.empty j dm) → t.slot j = .empty ∧ ∀ d, dm = some d → t.slot d = .dummy
  | 0, p, j, dm, hd, e => by simp [SetTable.probe.go] at e
  | fuel + 1, p, j, dm, hd, e => by
    have adv : ∀ q : SetTable.Probe, (t.advance q).dummy = q.dummy := fun q => by
      unfold SetTable.advance
      split <;> rfl
    unfold SetTable.probe.go at e
    split at e
    · rename_i hs
      injection e with e
      injection e with e1 e2
      subst e1 e2
      exact ⟨hs, hd⟩
    · rename_i hs
      refine probe_free t g h fuel _ j dm (fun d hd' => ?_) e
      rw [adv] at hd'
      have : p.j = d := by simpa using hd'
      rw [← this]; exact hs
    · split at e
      · cases e
      · exact probe_free t g h fuel _ j dm (fun d hd' => hd d (by rwa [adv] at hd')) e
theorem free_slot {t : SetTable} {h : Int} {j : Nat} {b : Bool} (e : t.freeSlot h = some (j, b)) : t.place[SetTable.below t.place j]? ≠ some j := by
  have nl : t.slot j = .empty ∨ t.slot j = .dummy := by
    unfold SetTable.freeSlot at e
    split at e
    · rename_i j' dm hp
      unfold SetTable.probe at hp
      obtain ⟨a, b'⟩ := probe_free t _ h _ _ j' dm (fun d hd => by simp [SetTable.probeStart] at hd) hp
      injection e with e
      injection e with e1 e2
      cases dm with
      | none => exact .inl (by rw [← e1]; exact a)
      | some d => exact .inr (by rw [← e1]; exact b' d rfl)
    · cases e
  intro z
  unfold SetTable.slot at nl
  dsimp only at nl
  rw [if_pos (by rw [z]; simp)] at nl
  rcases nl with nl | nl <;> cases nl
def TOk (t t' : SetTable) : Prop := t'.led = t.led ∧ ((t.plain = true → Rise t.place) → t'.plain = true → Rise t'.place)
theorem stand_ok (t : SetTable) (n : Nat) : TOk t (t.standIn n) := ⟨rfl, fun _ h => by cases h⟩
theorem or_ok {t t' : SetTable} (h : TOk t t') (n : Nat) : TOk t (t'.orStandIn n) := by
  unfold SetTable.orStandIn
  by_cases c : t'.fits n = true
  · rw [if_pos c]; exact h
  · rw [if_neg c]; exact ⟨h.1, fun _ z => by cases z⟩
theorem lay_ok (t : SetTable) (es : Array (Int × Value)) (h : Int) (x : Value) : TOk t (layNew t es h x).2.1 := by
  unfold layNew
  split
  · rename_i slot wd e
    exact or_ok (t := t) (t' := (t.put slot).1) ⟨rfl, fun hr hp => rise_put (hr hp) (free_slot e)⟩ _
  · exact stand_ok _ _
theorem laid_ok {mask finger moves : Nat} {led plain : Bool} {hs : Array Int} {t' : SetTable} {order : Array Nat} (e : SetTable.laid mask finger moves led plain hs = some (t', order)) : t'.led = led ∧ t'.plain = plain ∧ Rise t'.place := by
  unfold SetTable.laid at e
  cases ho : SetTable.layClean mask hs with
  | none => rw [ho] at e; cases e
  | some owner =>
    rw [ho] at e
    have e' : some (_, _) = some (t', order) := e
    injection e' with e'
    injection e' with e1 e2
    subst e1
    refine ⟨rfl, rfl, ?_⟩
    rw [rise_iff]
    dsimp only
    refine List.Pairwise.map (R := fun a b : Nat × Nat => a.1 < b.1) _ (fun a b h => h) ?_
    refine List.Pairwise.filterMap (R := (· < ·)) _ (fun a a' haa b hb b' hb' => ?_) List.pairwise_lt_range
    cases h1 : owner.getD a none with
    | none => rw [h1] at hb; cases hb
    | some u =>
      cases h2 : owner.getD a' none with
      | none => rw [h2] at hb'; cases hb'
      | some u' =>
        rw [h1] at hb; rw [h2] at hb'
        cases hb; cases hb'
        exact haa
theorem relay_ok (t : SetTable) (es : Array (Int × Value)) (n : Nat) : TOk t (relayAll t es n).2.1 := by
  unfold relayAll
  split
  · rename_i t' order e
    unfold SetTable.relaid at e
    obtain ⟨a, b, c⟩ := laid_ok e
    dsimp only
    split
    · exact ⟨a, fun _ _ => c⟩
    · exact stand_ok _ _
  · exact stand_ok _ _
section
variable {prog : Program} {w : World} {A : Around} {E : Value → Shared → Prop} {s : Shared} {a : Addr}
def ky (e : Int × Value) : Int := match e.2 with | .int i _ => i | _ => 0
structure IS (w : World) (o : Obj) (es : Array (Int × Value)) (ep : Nat) (t : SetTable) : Prop where
  ex : o.ExactSet
  d : o.data = .set es ep t
  f : t.fits es.size = true
  ok : w.params.followText "set-order" = true ∨ (t.led = true ∧ (t.plain = true → Rise t.place))
  el : ∀ e ∈ es.toList, (∃ k tk, e = (hashInt k, .int k tk))
  nd : (es.toList.map ky).Nodup
theorem IS.elems {o : Obj} {es : Array (Int × Value)} {ep : Nat} {t : SetTable} (h : IS w o es ep t) : ElemsOf (intKind prog w) es.toList := fun e he => by
  obtain ⟨k, tk, rfl⟩ := h.el e he
  exact ⟨⟨k, intKind_is _ _ _ _, rfl⟩, rfl⟩
theorem IS.wk {o : Obj} {es : Array (Int × Value)} {ep : Nat} {t : SetTable} (h : IS w o es ep t) : Wk w o es ep t := ⟨h.ex, h.d, h.f, h.ok.elim .inl fun z => .inr (.inr z)⟩
theorem gv_ok {gv : Bool} (g : Sem Unit) (hg : g = match gv with | true => rule "set.scan.the-table-gave-way" | false => pure ()) {Q : Unit → Shared → Prop} (h : Q () s) : wpAny (model prog w) A g Q E s := by
  subst hg
  cases gv
  · exact wpAny_pure h
  · exact wpAny_rule h
theorem put_get {o : Obj} {es es' : Array (Int × Value)} {ep : Nat} {t t' : SetTable} (ho : s.heap.get? a = some o) (hd : o.data = .set es ep t) : (s.heap.update a (Obj.putSet es' t')).get? a = some { o with data := .set es' (ep + 1) t' } := by
  have := Heap.get?_update_self (Obj.putSet es' t') ho (by rw [putSet_of es' t' hd]; rfl)
  rw [putSet_of es' t' hd] at this
  exact this
theorem IS.to {o : Obj} {es es1 : Array (Int × Value)} {ep : Nat} {t t1 : SetTable} {v : Int} {tk : Tok} (h : IS w o es ep t) (hv : v ∉ es.toList.map ky) (hp : es1.toList.Perm (es.push (hashInt v, .int v tk)).toList) (hf : t1.fits es1.size = true) (hto : TOk t t1) (ep' : Nat) :
    IS w { o with data := .set es1 ep' t1 } es1 ep' t1 := by
  rw [Array.toList_push] at hp
  refine ⟨h.ex, rfl, hf, h.ok.imp id fun z => ⟨by rw [hto.1]; exact z.1, hto.2 z.2⟩, fun e he => ?_, ?_⟩
  · rcases List.mem_append.mp (hp.mem_iff.mp he) with he | he
    · exact h.el e he
    · rw [List.mem_singleton.mp he]; exact ⟨v, tk, rfl⟩
  · refine (hp.map ky).nodup_iff.mpr ?_
    rw [List.map_append, List.nodup_append]
    refine ⟨h.nd, by simp, fun x hx y hy e => ?_⟩
    have : y = v := by simpa [ky] using hy
    rw [e, this] at hx
    exact hv hx
theorem add_st {o : Obj} {es : Array (Int × Value)} {ep : Nat} {t : SetTable} (h : IS w o es ep t) (ho : s.heap.get? a = some o) {v : Int} {tk : Tok} (hb : es.size + 1 < scanBound) {Q : Bool → Shared → Prop}
    (hQ : ∀ h' o' es' ep' t' b, Heap.SameBut a s.heap h' → h'.get? a = some o' → IS w o' es' ep' t' → (∀ z, z ∈ es'.toList.map ky ↔ z ∈ es.toList.map ky ∨ z = v) → es'.size ≤ es.size + 1 → Q b { s with heap := h' }) :
    wpAny (model prog w) A (setAddHashed a (.int v tk) (hashInt v)) Q E s := by
  have hel : ElemsOf (intKind prog w) es.toList := h.elems
  have hkey : (intKind prog w).is v (.int v tk) = true := intKind_is _ _ _ _
  unfold setAddHashed setAddHashedIn
  refine wpAny_holding (wpAny_bind (wpAny_setState_of ho h.d h.f ?_))
  dsimp only
  rw [byScan_of (knd := intKind prog w) rfl (Nat.lt_of_succ_lt hb) hel, if_pos rfl]
  unfold setAddByScan
  refine wpAny_bind (wpAny_bind (wpAny_rule (wpAny_bind (wpAny_setScan_of (knd := intKind prog w) hkey ho h.d h.f hel ?_))))
  have mem : ∀ e ∈ es.toList, ((intKind prog w).is v e.2 = true ↔ ky e = v) := fun e he => by
    obtain ⟨k, tk', rfl⟩ := h.el e he
    show Value.isInt v (.int k tk') = true ↔ k = v
    constructor
    · intro z
      obtain ⟨_, q⟩ := Value.isInt_shape z
      cases q
      rfl
    · intro z
      rw [← z]
      exact intKind_is prog w k tk'
  cases hr : List.findIdx? (fun e => (intKind prog w).is v e.2) es.toList with
  | some j =>
    dsimp only
    obtain ⟨hj, hpj, _⟩ := List.findIdx?_eq_some_iff_getElem.mp hr
    refine wpAny_pure (wpAny_pure ?_)
    have hv : v ∈ es.toList.map ky := List.mem_map.mpr ⟨_, List.getElem_mem hj, (mem _ (List.getElem_mem hj)).mp hpj⟩
    have := hQ s.heap o es ep t false (Heap.SameBut.refl a s.heap) ho h (fun z => ⟨.inl, fun q => q.elim id fun e => e ▸ hv⟩) (Nat.le_succ _)
    exact this
  | none =>
    dsimp only
    have hv : v ∉ es.toList.map ky := fun q => by
      obtain ⟨e, he, hk⟩ := List.mem_map.mp q
      have := List.findIdx?_eq_none_iff.mp hr e he
      rw [(mem e he).mpr hk] at this
      cases this
    have hperm := layNew_perm t es (hashInt v) (.int v tk)
    have hfits := layNew_fits t es (hashInt v) (.int v tk)
    have hto := lay_ok t es (hashInt v) (.int v tk)
    generalize layNew t es (hashInt v) (.int v tk) = Ly at hperm hfits hto ⊢
    obtain ⟨es1, t1, wd, gv⟩ := Ly
    dsimp only at hperm hfits hto ⊢
    refine wpAny_bind (gv_ok (gv := gv) _ rfl ?_)
    have mm : ∀ z, z ∈ es1.toList.map ky ↔ z ∈ es.toList.map ky ∨ z = v := fun z => by
      rw [(hperm.map ky).mem_iff, Array.toList_push, List.map_append, List.mem_append]
      simp [ky]
    have sz : es1.size = es.size + 1 := by rw [← Array.length_toList, hperm.length_eq, Array.toList_push, List.length_append, Array.length_toList]; rfl
    have hb1 : es1.size < scanBound := by rw [sz]; exact hb
    have g1 := put_get (es' := es1) (t' := t1) ho h.d
    have I1 := h.to hv hperm hfits hto (ep + 1)
    have b1 := Heap.SameBut.update s.heap a (Obj.putSet es1 t1)
    split
    all_goals
      refine wpAny_bind (wpAny_of_eq (a := true) rfl ?_)
      simp only [↓reduceIte]
      refine wpAny_bind (wpAny_storeSet_of ho h.d ?_ (fits_of_scanBound hb1))
      split
      · have rp := relayAll_perm t1 es1 (SetTable.grown es1.size)
        have rf := relayAll_fits t1 es1 (SetTable.grown es1.size)
        have rt := relay_ok t1 es1 (SetTable.grown es1.size)
        generalize relayAll t1 es1 (SetTable.grown es1.size) = Rl at rp rf rt ⊢
        obtain ⟨es2, t2, gv2⟩ := Rl
        dsimp only at rp rf rt ⊢
        have sz2 : es2.size = es1.size := by rw [← Array.length_toList, rp.length_eq, Array.length_toList]
        refine wpAny_bind (gv_ok (gv := gv2) _ rfl (wpAny_bind (wpAny_storeSet_of g1 rfl (wpAny_pure (wpAny_pure ?_)) (fits_of_scanBound (by rw [sz2]; exact hb1)))))
        refine hQ _ _ es2 (ep + 1 + 1) t2 true (b1.trans (Heap.SameBut.update _ a _)) (put_get (s := { s with heap := s.heap.update a (Obj.putSet es1 t1) }) g1 rfl) ?_ (fun z => by rw [(rp.map ky).mem_iff]; exact mm z) (by rw [sz2, sz]; exact Nat.le_refl _)
        exact ⟨I1.ex, rfl, rf, I1.ok.imp id fun z => ⟨by rw [rt.1]; exact z.1, rt.2 z.2⟩, fun e he => I1.el e (rp.mem_iff.mp he), (rp.map ky).nodup_iff.mpr I1.nd⟩
      · exact wpAny_pure (wpAny_pure (hQ _ _ es1 (ep + 1) t1 true b1 g1 I1 mm (by rw [sz]; exact Nat.le_refl _)))
end
end SetW
open PySem PySem.Spec PyProof.Rows
namespace SetW
section
variable {prog : Program} {w : World} {A : Around} {E : Value → Shared → Prop} {s : Shared}
theorem IS.fresh : IS w { cls := .type "set", dict := none, data := .set #[] 0 (.fresh 0 0 (!w.params.followText "set-order")) } #[] 0 (.fresh 0 0 (!w.params.followText "set-order")) := by
  refine ⟨⟨rfl, rfl, rfl⟩, rfl, rfl, ?_, fun e he => by simp at he, by simp⟩
  by_cases h : w.params.followText "set-order" = true
  · exact .inl h
  · refine .inr ⟨by simpa [SetTable.fresh] using h, fun _ i k h1 h2 => ?_⟩
    simp [SetTable.fresh] at h2
theorem loop_st {I : Addr} {fp wr : List Addr} {G : Array GenState → Array GenState → Prop} {n : Nat} {P : Nat → Value → Prop} {St : Nat → Shared → Prop} {R : Result → Shared → Prop} (W : WalksS prog w A.in1 I fp wr G n P St) (S : Addr) (hSf : S ∉ fp)
    (val : Nat → Int) (hval : ∀ i v, P i v → ∃ tk, v = .int (val i) tk) (hb : n + 1 < scanBound) : ∀ (k i : Nat) (s : Shared) (o : Obj) (es : Array (Int × Value)) (ep : Nat) (t : SetTable), n - i = k → i ≤ n → St i s → s.heap.get? S = some o → IS w o es ep t → es.size ≤ i →
      (∀ z, z ∈ es.toList.map ky ↔ ∃ j, j < i ∧ val j = z) →
      (∀ s' o' es' ep' t', Moved (S :: wr) G s s' → s'.heap.get? S = some o' → IS w o' es' ep' t' → es'.size ≤ n → (∀ z, z ∈ es'.toList.map ky ↔ ∃ j, j < n ∧ val j = z) → R (.ok (.ret .none)) s') →
      codeAny (model prog w) A (.builtin "set.update.loop" ⟨[.ref S, .ref I], []⟩) R s := by
  have hSw : S ∉ wr := fun h => hSf (W.sub _ h)
  have hsub : ∀ b ∈ wr, b ∈ S :: wr := fun b hb => List.mem_cons_of_mem _ hb
  intro k
  induction k with
  | zero =>
    intro i s o es ep t hk hi hst ho hS hz hm hR
    obtain rfl : i = n := by omega
    refine codeAny_builtin PyProof.Rows.F.entry_set_update_loop ?_
    rw [Around.under_plainId PyProof.Rows.F.plain_set_update_loop _]
    show wpAny _ A.in1 (pyNext (.ref I) >>= _) _ _ s
    refine wpAny_bind (W.done s _ _ hst fun s' mv => ?_)
    show wpAny _ A.in1 (ret Value.none) _ _ s'
    exact wpAny_pure (hR s' o es ep t (mv.mono hsub) (mv.heap S _ hSw ho) hS hz hm)
  | succ k ih =>
    intro i s o es ep t hk hi hst ho hS hz hm hR
    have hlt : i < n := by omega
    refine codeAny_builtin PyProof.Rows.F.entry_set_update_loop ?_
    rw [Around.under_plainId PyProof.Rows.F.plain_set_update_loop _]
    show wpAny _ A.in1 (pyNext (.ref I) >>= _) _ _ s
    refine wpAny_bind (W.item i s _ _ hlt hst fun v s' hP hst' mv => ?_)
    obtain ⟨tk, rfl⟩ := hval i v hP
    show wpAny _ A.in1 (holding [Value.int (val i) tk] (setAdd S (.int (val i) tk)) >>= _) _ _ s'
    refine wpAny_bind (wpAny_holding ?_)
    unfold setAdd
    refine wpAny_holding (wpAny_bind ((intKind prog w).pyHash (k := val i) (intKind_is _ _ _ _) ?_))
    refine add_st (s := { s' with toks := s'.toks + 1 }) hS (mv.heap S _ hSw ho) (by omega) fun h' o' es' ep' t' b sb ho' hS' hm' hz' => ?_
    refine wpAny_pure ⟨plainId_quiet PyProof.Rows.F.plain_set_update_loop _, ih (i + 1) _ o' es' ep' t' (by omega) hlt (W.frame _ s' _ _ hst' (Nat.le_succ _) fun b hb ob e => ?_) ho' hS' (by omega) (fun z => ?_) fun s'' o2 es2 ep2 t2 mv2 ho2 hS2 hz2 hm2 => ?_⟩
    · rw [sb.2 b (fun h : b = S => hSf (by rw [← h]; exact hb))]; exact e
    · rw [hm' z, hm z]
      constructor
      · rintro (⟨j, hj, e⟩ | e)
        · exact ⟨j, by omega, e⟩
        · exact ⟨i, by omega, e.symm⟩
      · rintro ⟨j, hj, e⟩
        by_cases c : j = i
        · exact .inr (by rw [← e, c])
        · exact .inl ⟨j, by omega, e⟩
    · refine hR s'' o2 es2 ep2 t2 (Moved.trans W.gtrans ((mv.mono hsub).then_heap (Nat.le_succ _) fun b ob hb e => ?_) mv2) ho2 hS2 hz2 hm2
      rw [sb.2 b (fun h : b = S => hb (by rw [h]; exact List.mem_cons_self))]; exact e
end
end SetW
open PySem PySem.Spec PyProof.Rows
namespace SetW
section
variable {prog : Program} {w : World} {A : Around} {E : Value → Shared → Prop} {s : Shared}
def frs (w : World) : Obj := { cls := .type "set", dict := none, data := .set #[] 0 (.fresh 0 0 (!w.params.followText "set-order")) }
theorem new_st (v : Value) {Q₁ : Value → Shared → Prop} (h : Q₁ (.ref s.heap.objs.size) { s with heap := s.heap.push (frs w) }) : codeAny (model prog w) A (.call (.builtin "set.__new__") ⟨[.type "set", v], []⟩) (wants Q₁ E) s := by
  refine codeAny_of_tree ?_
  show wpAny _ A.in1 (do checkBuiltinCall "set.__new__" ⟨[.type "set", v], []⟩; again (.builtin "set.__new__" ⟨[.type "set", v], []⟩)) _ _ s
  refine wpAny_bind (wpAny_of_eq (PySem.F.newCall_set_1 v) (wpAny_pure ⟨plainId_quiet PySem.F.plain_set_new _, codeAny_builtin PySem.F.entry_set_new ?_⟩))
  rw [Around.under_plainId PySem.F.plain_set_new _]
  unfold Builtin.«set.__new__» Builtin.Frozenset.newClass
  have hsub := sub_set_self
  obtain ⟨hp, g, d, tk, os⟩ := s
  dsimp only
  wp_walk
  refine wpAny_askSetting (wpAny_pure ?_)
  dsimp only
  simp only [newObj]
  exact wpAny_bind (wpAny_alloc (wpAny_pure (wpAny_pure h)))
set_option maxHeartbeats 4000000 in
theorem make_st {l : Addr} {items : Array Value} {ns : List Int} {Q : Value → Shared → Prop} (hh : A.handled = none) (hl : s.heap.IsList l items) (hi : IntsAre items.toList ns) (hb : items.size + 1 < scanBound)
    (h : ∀ (h' : Heap) (tk : Nat) o es ep t, h'.get? s.heap.objs.size = some o → IS w o es ep t → es.size ≤ items.size → (∀ z, z ∈ es.toList.map ky ↔ ∃ j, j < items.size ∧ ns.getD j 0 = z) →
      (∀ b o, s.heap.get? b = some o → h'.get? b = some o) → Q (.ref s.heap.objs.size) { s with heap := h', toks := tk }) : wpAny (model prog w) A (call (.type "set") [.ref l]) Q E s := by
  obtain ⟨c, tl, hmro⟩ := PySem.F.called_set.mro
  have hmade := PySem.F.called_set.made
  have hsub := PySem.F.called_set.sub
  refine wpAny_call (codeAny_of_tree ?_)
  show wpAny _ _ (callAny (.type "set") _) _ _ _
  refine wpAny_pure ⟨Code.quiet_builtin _ (by decide +kernel), codeAny_builtin PySem.F.entry_type_call ?_⟩
  rw [Around.under_plain (weight_type_call_type "set" [.ref l] []) rfl]
  have h1 := PySem.F.called_set.notType
  have h2 := PySem.F.called_set.canCreate
  have hct := PySem.F.typeCall_set_1 (.ref l)
  repeat (any_goals (first | assumption | wp_step))
  refine codeAny_mono (new_st (.ref l) (E := E) (Q₁ := fun obj s₁ => obj = .ref s.heap.objs.size ∧ s₁ = { s with heap := s.heap.push (frs w) }) ⟨rfl, rfl⟩) fun r s₁ hr => ?_
  cases r with
  | error e => exact hr
  | ok fl =>
    cases fl with
    | ret obj =>
      obtain ⟨rfl, rfl⟩ := hr
      have hS : (s.heap.push (frs w)).get? s.heap.objs.size = some (frs w) := Heap.get?_push_size _ rfl
      have hT : Shared.TypeIs { s with heap := s.heap.push (frs w) } (.ref s.heap.objs.size) "set" := ⟨_, hS, rfl⟩
      have hli := PySem.F.called_set.init.lookup
      have hbi := PySem.F.called_set.init.bind (.ref s.heap.objs.size)
      repeat (any_goals (first | assumption | wp_step))
      refine codeAny_mono (codeAny_call_builtin (R := wants (fun r s₂ => r = .none ∧ ∃ h' tk o es ep t, s₂ = { s with heap := h', toks := tk } ∧ h'.get? s.heap.objs.size = some o ∧ IS w o es ep t ∧ es.size ≤ items.size ∧ (∀ z, z ∈ es.toList.map ky ↔ ∃ j, j < items.size ∧ ns.getD j 0 = z) ∧
          (∀ b o, s.heap.get? b = some o → h'.get? b = some o)) E) PySem.F.called_set.init.plain PySem.F.entry_set_init (check_set_init_1 hT ?_)) fun r₂ s₂ hr₂ => ?_
      · obtain ⟨ol, hol, hcl, nl, hdl⟩ := hl
        obtain ⟨ocls, odict, odata, oslots⟩ := ol
        simp only at hcl hdl
        subst hcl hdl
        have hlS : l < s.heap.objs.size := Heap.lt_size hol
        obtain ⟨h1, eh1⟩ : ∃ h1, h1 = s.heap.push (frs w) := ⟨_, rfl⟩
        have z1 : h1.objs.size = s.heap.objs.size + 1 := by rw [eh1, Heap.size_push]
        have k1 : ∀ b ob, s.heap.get? b = some ob → h1.get? b = some ob := fun b ob e => by rw [eh1]; exact Heap.get?_push_of_some _ e
        rw [← eh1] at hS hT ⊢
        have hol' := k1 _ _ hol
        have hl1 : h1.IsList l items := ⟨_, hol', rfl, nl, rfl⟩
        have hsls := PySem.F.sub_list_set
        have hslf := PySem.F.sub_list_frozenset
        have hne : (Value.type "list" == Value.type "dict") = false := by decide
        have hS' : h1.get? s.heap.objs.size = some { cls := .type "set", dict := none, data := .set #[] 0 (.fresh 0 0 (!w.params.followText "set-order")) } := hS
        unfold Builtin.«set.__init__» noKeywords Builtin.Frozenset.updateFrom
        generalize hPI : pyIter = PI
        wp_walk
        subst hPI
        refine wpAny_pyIter_list hl1 ?_
        obtain ⟨h2, eh2⟩ : ∃ h2, h2 = h1.push { cls := .type "list_iterator", data := .fields #[.ref l, .int 0 0] } := ⟨_, rfl⟩
        show wpAny _ _ _ _ _ { s with heap := h1.push { cls := .type "list_iterator", data := .fields #[.ref l, .int 0 0] } }
        rw [← eh2]
        have k2 : ∀ b ob, h1.get? b = some ob → h2.get? b = some ob := fun b ob e => by rw [eh2]; exact Heap.get?_push_of_some _ e
        have hit2 : h2.IsListIter h1.objs.size l 0 := by rw [eh2]; exact ⟨_, Heap.get?_push_size _ rfl, rfl, rfl⟩
        have hl2 : h2.IsList l items := ⟨_, k2 _ _ hol', rfl, nl, rfl⟩
        refine wpAny_bind (wpAny_runValue ?_)
        have hh3 : A.in1.in1.in1.handled = none := by simp [hh]
        have hneI : l ≠ h1.objs.size := by rw [z1]; exact Nat.ne_of_lt (Nat.lt_succ_of_lt hlS)
        have hSf : s.heap.objs.size ∉ [h1.objs.size, l] := by
          simp only [List.mem_cons, List.not_mem_nil, or_false, not_or]
          exact ⟨by rw [z1]; exact Nat.ne_of_lt (Nat.lt_succ_self _), Nat.ne_of_gt hlS⟩
        have hval : ∀ (i : Nat) (v : Value), items[i]? = some v → ∃ tk, v = .int ((fun i => ns.getD i 0) i) tk := fun i v hv => IntsAre.int_at hi i v (by rw [Array.getElem?_toList]; exact hv)
        refine loop_st ((Walks.list hh3 h1.objs.size l hneI items).toS) s.heap.objs.size hSf (fun i => ns.getD i 0) hval hb (items.size - 0) 0 _ _ #[] 0 _ (by omega) (Nat.zero_le _) ⟨hit2, hl2⟩ (k2 _ _ hS') IS.fresh (Nat.zero_le _) (fun z => by simp) fun s' o es ep t mv ho hI hz hm => ?_
        obtain ⟨h', g', d', tk', os'⟩ := s'
        have eg : g' = s.gens := mv.gens
        have ed : d' = s.drawn := mv.drawn
        have eo : os' = s.os := mv.os
        subst eg ed eo
        show wpAny _ _ _ _ _ _
        refine wpAny_pure ?_
        show wpAny _ _ (ret Value.none) _ _ _
        refine wpAny_pure ⟨rfl, h', tk', o, es, ep, t, rfl, ho, hI, hz, hm, fun b ob e => ?_⟩
        have lb := Heap.lt_size e
        refine mv.heap b ob ?_ (k2 _ _ (k1 _ _ e))
        simp only [List.mem_cons, List.not_mem_nil, or_false, not_or]
        exact ⟨Nat.ne_of_lt lb, by rw [z1]; exact Nat.ne_of_lt (Nat.lt_succ_of_lt lb)⟩
      · cases r₂ with
        | error e => exact hr₂
        | ok fl₂ =>
          cases fl₂ with
          | ret r =>
            obtain ⟨rfl, h', tk, o, es, ep, t, rfl, a1, a2, a3, a4, a5⟩ := hr₂
            repeat (any_goals (first | assumption | wp_step))
            exact h _ _ o es ep t a1 a2 a3 a4 a5
          | _ => exact hr₂.elim
    | _ => exact hr.elim
end
end SetW
open PySem PySem.Spec PyProof.Rows
section
variable {X : Cx} {K : PySem.W.Frag} {p1 p2 pos1 pos2 : Pos} {e : Expr} {te : TE}
theorem Inv.drew {X : Cx} {pins : List (Addr × Obj)} {σ : St} {H : Hp} {s : Shared} {d : Drawn} (I : Inv X pins σ H s) : Inv X pins σ H { s with drawn := d } := ⟨I.ok, I.os, I.bare, I.base, I.loc, I.cell, I.free, I.freeC, I.pin, I.hok, I.len⟩
def tSortSet (K : PySem.W.Frag) (te : TE) : TE := fun σ H Q => te σ H fun x H1 => ∃ a ns, x = .ref a ∧ SqL K H1 a (vI ns) ∧ ns.length ≤ 4000 ∧ (∀ ds : List Int, ds.Nodup → (∀ z ∈ ds, z ∈ ns) → ds.length < 64) ∧
  ∀ l ns', (∀ z, z ∈ ns' ↔ z ∈ ns) → ns'.Pairwise (· < ·) → H1 l = none → Q (.ref l) (upd H1 l (.lst (vI ns')))
theorem lt_of_nodup : ∀ {l : List Int}, l.Pairwise (· ≤ ·) → l.Nodup → l.Pairwise (· < ·) := fun h n => (h.and n).imp fun {a b} ⟨h1, h2⟩ => by omega
theorem pe_sortSet (hg1 : Gl X "sorted") (hm1 : X.mg "sorted" = none) (hg2 : Gl X "set") (hm2 : X.mg "set" = none) (he : PE X e te) (hK : X.K = K := by rfl) (hc : X.calm = true := by rfl)
    (hs2 : starEach [e] X.env = (false, eval e X.env) :: starEach [] X.env := by rfl)
    (hs1 : starEach [.Call (.Name "set" p2) [e] [] pos2] X.env = (false, eval (.Call (.Name "set" p2) [e] [] pos2) X.env) :: starEach [] X.env := by rfl)
    (hq1 : (backTo pos1 (starEach [] X.env)).any (·.1) = false := by rfl) (hq2 : (backTo pos2 (starEach [] X.env)).any (·.1) = false := by rfl) :
    PE X (.Call (.Name "sorted" p1) [.Call (.Name "set" p2) [e] [] pos2] [] pos1) (tSortSet K te) := by
  subst hK
  intro pins s σ H Q I h
  have hsz : sizeLine = 16777216 := sizeLine_eq
  refine wpAny_Call_Name_kw (ld_blt I hg1 hm1 bt_sorted ?_ (by decide) (by decide))
  refine PyProof.Rows.callWith_builtin1 ?_ hs1 hq1
  rw [hs1]
  show wpAny _ _ (spliced ((false, eval (.Call (.Name "set" p2) [e] [] pos2) X.env) :: backTo pos1 (starEach [] X.env))) _ _ s
  refine Calls.spliced_cons ?_
  refine wpAny_Call_Name_kw (ld_blt I hg2 hm2 bt_set ?_ (by decide) (by decide))
  refine PyProof.Rows.callWith_type1 ?_ hs2 hq2
  rw [hs2]
  show wpAny _ _ (spliced ((false, eval e X.env) :: backTo pos2 (starEach [] X.env))) _ _ s
  refine Calls.spliced_cons (thn (he pins s σ H _ I h) fun u s1 ⟨x, H1, I1, r1, a, ns, ex, hq, h4, h64, q⟩ => ?_)
  subst ex
  cases r1
  refine Calls.spliced_nil ?_
  obtain ⟨its, r, pl, hz⟩ := I1.list hq
  have hi : IntsAre its ns := intsAre_of r
  have hlen : its.length = ns.length := hi.length
  refine SetW.make_st (items := its.toArray) (I.ok.hd hc) pl.isList hi (by rw [List.size_toArray, hlen]; show _ + 1 < 4096; omega) fun h' tk o es ep t go gi gz gm gk => ?_
  refine Calls.spliced_nil ?_
  have mem : ∀ z, z ∈ es.toList.map SetW.ky ↔ z ∈ ns := fun z => by
    rw [gm z, List.size_toArray, hlen]
    constructor
    · rintro ⟨j, hj, e⟩
      rw [← e, List.getD_eq_getElem?_getD, List.getElem?_eq_getElem hj]
      exact List.getElem_mem hj
    · intro hz
      obtain ⟨j, hj, e⟩ := List.getElem_of_mem hz
      exact ⟨j, hj, by rw [List.getD_eq_getElem?_getD, List.getElem?_eq_getElem hj]; exact e⟩
  have e64 : es.size < 64 := by
    have := h64 _ gi.nd fun z hz => (mem z).mp hz
    rwa [List.length_map, Array.length_toList] at this
  refine SetW.sorted_set (s := { s1 with heap := h', toks := tk }) (key := SetW.ky) gi.wk go (I.ok.hd hc) e64 (fun e he => ?_) fun h2 d tk2 l ep2 out ns' k2 hl2 hg2 hi2 hp2 hr2 => ?_
  · obtain ⟨k, tk', rfl⟩ := gi.el e he
    exact ⟨tk', rfl⟩
  · have hns : ns'.Nodup := hp2.nodup_iff.mpr gi.nd
    have hl1 : s1.heap.objs.size ≤ l := Nat.le_of_lt (Nat.lt_of_lt_of_le (Heap.lt_size go) hl2)
    refine ⟨.ref l, _, (I1.laid (t' := tk2) (h' := h2) (a := l) (o := .lst (vI ns')) (fun b u e => k2 _ _ (gk _ _ e)) hl1 ?_).drew, rfl, q l ns' (fun z => by rw [hp2.mem_iff]; exact mem z) (lt_of_nodup hr2 hns) (I1.hok.fresh hl1)⟩
    have : ns'.length < 64 := by rw [hp2.length_eq, List.length_map, Array.length_toList]; exact e64
    refine ⟨by rw [vI_len]; omega, out.toList, ep2, vals_ints hi2, ?_⟩
    rw [hg2]
end
open PySem PySem.Spec PyProof.Rows
section
variable {X : Cx}
def isNum (z : Int) : Value → Bool
  | .int a _ => a == z
  | _ => false
theorem vals_int {ks : List Int} {us : List Value} (r : Vals (vI ks) us) {j : Nat} {u : Value} (h : us[j]? = some u) : ∃ k t, ks[j]? = some k ∧ u = .int k t := by
  have hj := (List.getElem?_eq_some_iff.mp h).1
  have l := r.length
  rw [vI_len] at l
  have hk : j < ks.length := by omega
  obtain ⟨u', e, q⟩ := r.get (i := j) (x := .int ks[j]) (vI_get (List.getElem?_eq_getElem hk))
  rw [h] at e
  cases e
  obtain ⟨t, rfl⟩ := q
  exact ⟨ks[j], t, List.getElem?_eq_getElem hk, rfl⟩
theorem vI_erase (ks : List Int) (j : Nat) : (vI ks).eraseIdx j = vI (ks.eraseIdx j) := by
  unfold vI
  induction ks generalizing j with
  | nil => rfl
  | cons a ks ih =>
    cases j with
    | zero => rfl
    | succ j => exact congrArg (_ :: ·) (ih j)
def rRemove : V → List V → Hp → VK → Prop := fun x vs H Q => ∃ l ks z j, x = .ref l ∧ vs = [.int z] ∧ H l = some (.lst (vI ks)) ∧ ks[j]? = some z ∧ (∀ i, i < j → ks[i]? ≠ some z) ∧ ks.length ≤ 1000 ∧ Q .non (upd H l (.lst (vI (ks.eraseIdx j))))
theorem mt_remove : MtM X "list.remove" rRemove := by
  intro pins s σ H x vs v us Q I rx rv h
  obtain ⟨l, ks, z, j, rfl, rfl, hH, hj, hno, hz, q⟩ := h
  cases rx
  obtain ⟨u, rfl, ru⟩ := rv.one
  obtain ⟨t, rfl⟩ := ru
  obtain ⟨zz, its, n, r, hl, e⟩ := I.lstM hH
  have hsz : sizeLine = 16777216 := sizeLine_eq
  have lr := r.length
  rw [vI_len] at lr
  have jl : j < its.length := by have := (List.getElem?_eq_some_iff.mp hj).1; omega
  have ja : j < its.toArray.size := by rw [List.size_toArray]; exact jl
  have hit : isNum z its.toArray[j] = true := by
    obtain ⟨k', t', e1, e2⟩ := vals_int r (List.getElem?_eq_getElem jl)
    rw [hj] at e1
    cases e1
    rw [List.getElem_toArray, e2]
    exact beq_self_eq_true z
  have hn : ∀ m (hm : m < its.toArray.size), m < j → isNum z its.toArray[m] = false := fun m hm hmj => by
    have ml : m < its.length := by rw [List.size_toArray] at hm; exact hm
    obtain ⟨k', t', e1, e2⟩ := vals_int r (List.getElem?_eq_getElem ml)
    have := hno m hmj
    rw [List.getElem_toArray, e2]
    show (k' == z) = false
    rw [beq_eq_false_iff_ne]
    intro ez
    rw [ez] at e1
    exact this e1
  have he : ∀ y, y ∈ its.toArray → MeetsSeq.EqGives y (.int z t) (isNum z y) := fun y hy => by
    have hy : y ∈ its := by simpa using hy
    obtain ⟨m, hm, em⟩ := List.getElem_of_mem hy
    obtain ⟨k', t', e1, e2⟩ := vals_int r (List.getElem?_eq_getElem hm)
    rw [← em, e2]
    exact MeetsSeq.EqGives.int k' z t' t
  refine call_meets F.slot_list_remove ⟨_, e, rfl⟩ F.entry_list_remove (F.args_list_remove_2 _ _)
    (MeetsSeq.list_remove l its.toArray n (.int z t) (isNum z) he j ja hit hn (by rw [List.size_toArray]; omega)) ⟨e, ?_⟩
  refine ⟨.non, _, I.lset (its' := its.eraseIdx j) (ys := (vI ks).eraseIdx j) hH e ?_ (r.eraseIdx j) ?_, rfl, ?_⟩
  · show its.toArray.eraseIdxIfInBounds j = (its.eraseIdx j).toArray
    rw [List.eraseIdxIfInBounds_toArray]
  · have := len_erase (vI ks) j
    rw [vI_len] at this
    omega
  · rw [vI_erase]; exact q
end
open PySem PySem.Spec PyProof.Rows
section
variable {κ : Type} [DecidableEq κ]
def valV (kvs : List (κ × V)) (k : κ) : Option V := (kvs.find? fun kv => decide (kv.1 = k)).map (·.2)
def putK (kvs : List (κ × V)) (k : κ) (v : V) : List (κ × V) :=
  if (kvs.any fun kv => decide (kv.1 = k)) = true then kvs.map (fun kv => if kv.1 = k then (kv.1, v) else kv) else kvs ++ [(k, v)]
def dropK (kvs : List (κ × V)) (k : κ) : List (κ × V) := kvs.filter fun kv => decide (kv.1 ≠ k)
theorem valV_pos {p : κ × V} {r : List (κ × V)} {k : κ} (e : p.1 = k) : valV (p :: r) k = some p.2 := by simp [valV, List.find?_cons, e]
theorem valV_neg {p : κ × V} {r : List (κ × V)} {k : κ} (e : ¬ p.1 = k) : valV (p :: r) k = valV r k := by simp [valV, List.find?_cons, e]
theorem valV_any (k : κ) : ∀ kvs : List (κ × V), (kvs.any fun kv => decide (kv.1 = k)) = (valV kvs k).isSome
  | [] => rfl
  | p :: r => by
    rw [List.any_cons]
    by_cases e : p.1 = k
    · simp only [valV_pos e, decide_eq_true e, Bool.true_or, Option.isSome_some]
    · rw [valV_neg e, decide_eq_false e, Bool.false_or]; exact valV_any k r
theorem valV_map (k j : κ) (y : V) : ∀ kvs : List (κ × V), valV (kvs.map fun kv => if kv.1 = k then (kv.1, y) else kv) j = (valV kvs j).map fun x => if j = k then y else x
  | [] => rfl
  | p :: r => by
    have ih := valV_map k j y r
    rw [List.map_cons]
    by_cases h : p.1 = k
    · rw [if_pos h]
      by_cases e : p.1 = j
      · rw [valV_pos (p := (p.1, y)) e, valV_pos e, Option.map_some, if_pos (e.symm.trans h)]
      · rw [valV_neg (p := (p.1, y)) e, valV_neg e, ih]
    · rw [if_neg h]
      by_cases e : p.1 = j
      · rw [valV_pos (p := p) e, valV_pos e, Option.map_some, if_neg (fun z => h (e.trans z))]
      · rw [valV_neg (p := p) e, valV_neg e, ih]
theorem valV_snoc (k j : κ) (y : V) : ∀ kvs : List (κ × V), valV kvs k = none → valV (kvs ++ [(k, y)]) j = if j = k then some y else valV kvs j
  | [], _ => by
    by_cases e : k = j
    · rw [if_pos e.symm]; exact valV_pos (p := (k, y)) e
    · rw [if_neg (fun z => e z.symm)]; exact valV_neg (p := (k, y)) e
  | p :: r, hn => by
    rw [List.cons_append]
    have hk : ¬ p.1 = k := fun z => by rw [valV_pos z] at hn; cases hn
    rw [valV_neg hk] at hn
    have ih := valV_snoc k j y r hn
    by_cases e : p.1 = j
    · rw [valV_pos e, valV_pos e, if_neg (fun z => hk (e.trans z))]
    · rw [valV_neg e, valV_neg e, ih]
theorem valV_put (kvs : List (κ × V)) (k j : κ) (y : V) : valV (putK kvs k y) j = if j = k then some y else valV kvs j := by
  unfold putK
  by_cases a : (kvs.any fun kv => decide (kv.1 = k)) = true
  · rw [if_pos a, valV_map]
    rw [valV_any] at a
    by_cases e : j = k
    · obtain ⟨x, hx⟩ := Option.isSome_iff_exists.mp a
      rw [if_pos e, e, hx, Option.map_some, if_pos rfl]
    · rw [if_neg e]
      cases valV kvs j with
      | none => rfl
      | some x => rw [Option.map_some, if_neg e]
  · rw [if_neg a]
    refine valV_snoc k j y kvs ?_
    rw [valV_any] at a
    cases q : valV kvs k with
    | none => rfl
    | some x => rw [q] at a; exact (a rfl).elim
theorem length_putK (kvs : List (κ × V)) (k : κ) (v : V) : (putK kvs k v).length ≤ kvs.length + 1 := by
  unfold putK
  split
  · rw [List.length_map]; omega
  · rw [List.length_append, List.length_cons, List.length_nil]; omega
theorem RelO.isSome_eq {o : Option V} {u : Option Value} (r : RelO o u) : o.isSome = u.isSome := by
  cases o with
  | none => cases u with
    | none => rfl
    | some _ => exact (show False from r).elim
  | some _ => cases u with
    | none => exact (show False from r).elim
    | some _ => rfl
theorem KV.val {kvs : List (κ × V)} {vs : List (κ × Value)} (r : KV kvs vs) (k : κ) : RelO (valV kvs k) (valueAt vs k) := by
  unfold KV at r
  induction r with
  | nil => exact True.intro
  | @cons p q ps qs h t ih =>
    obtain ⟨h1, h2⟩ := h
    by_cases e : p.1 = k
    · have e' : q.1 = k := h1.symm.trans e
      have b : valueAt (q :: qs) k = some q.2 := by simp [valueAt, List.find?_cons, e']
      rw [valV_pos e, b]; exact h2
    · have e' : ¬ q.1 = k := fun z => e (h1.trans z)
      have b : valueAt (q :: qs) k = valueAt qs k := by simp [valueAt, List.find?_cons, e']
      rw [valV_neg e, b]; exact ih
theorem KV.any {kvs : List (κ × V)} {vs : List (κ × Value)} (r : KV kvs vs) (k : κ) : (kvs.any fun kv => decide (kv.1 = k)) = vs.any fun kv => decide (kv.1 = k) := by
  unfold KV at r
  induction r with
  | nil => rfl
  | cons h t ih => rw [List.any_cons, List.any_cons, ih, h.1]
theorem KV.repl {kvs : List (κ × V)} {vs : List (κ × Value)} (r : KV kvs vs) (k : κ) {y : V} {u : Value} (ry : RelV y u) :
    KV (kvs.map fun kv => if kv.1 = k then (kv.1, y) else kv) (vs.map fun kv => if kv.1 = k then (kv.1, u) else kv) := by
  unfold KV at r ⊢
  induction r with
  | nil => exact .nil
  | @cons p q ps qs h t ih =>
    rw [List.map_cons, List.map_cons]
    refine .cons ?_ ih
    obtain ⟨h1, h2⟩ := h
    by_cases e : p.1 = k
    · rw [if_pos e, if_pos (h1.symm.trans e)]; exact ⟨h1, ry⟩
    · rw [if_neg e, if_neg (fun z => e (h1.trans z))]; exact ⟨h1, h2⟩
theorem KV.put {kvs : List (κ × V)} {vs : List (κ × Value)} (r : KV kvs vs) (k : κ) {y : V} {u : Value} (ry : RelV y u) : KV (putK kvs k y) (stored vs k u) := by
  unfold putK stored
  rw [r.any k]
  by_cases e : (vs.any fun kv => decide (kv.1 = k)) = true
  · rw [if_pos e, if_pos e]; exact r.repl k ry
  · rw [if_neg e, if_neg e]; exact Paired.snoc r ⟨rfl, ry⟩
theorem KV.length {kvs : List (κ × V)} {vs : List (κ × Value)} (r : KV kvs vs) : kvs.length = vs.length := Paired.length r
end
theorem kV_is {P : Program} {w : World} {k : Key} {u : Value} (r : RelV (kV k) u) : (mixKind P w).is k u = true := by
  cases k with
  | inl i => obtain ⟨t, e⟩ := (show ∃ t, u = Value.int i t from r); subst e; exact mixKind_int P w i t
  | inr x => obtain ⟨t, e⟩ := (show ∃ t, u = Value.str x t from r); subst e; exact mixKind_str P w x t
theorem items_are {P : Program} {w : World} : ∀ {ks : List Key} {us : List Value}, Vals (ks.map kV) us → ItemsAre (mixKind P w) ks us
  | [], _, r => by rw [List.map_nil] at r; cases r; exact .nil
  | k :: ks, _, r => by
    rw [List.map_cons] at r
    cases r with
    | cons h t => exact .cons (kV_is h) (items_are t)
abbrev KT (H : Hp) : List (List Key × V) → List (List Key × Addr × Value) → Prop := Paired fun p q => p.1 = q.1 ∧ H q.2.1 = some (.tup (p.1.map kV)) ∧ RelV p.2 q.2.2
theorem KT.val {H : Hp} {kvs : List (List Key × V)} {xs : List (List Key × Addr × Value)} (r : KT H kvs xs) (k : List Key) : RelO (valV kvs k) ((atKey xs k).map (·.2)) := by
  induction r with
  | nil => exact True.intro
  | @cons p q ps qs h t ih =>
    obtain ⟨h1, _, h2⟩ := h
    by_cases e : p.1 = k
    · have e' : q.1 = k := h1.symm.trans e
      have b : atKey (q :: qs) k = some q.2 := by simp [atKey, List.find?_cons, e']
      rw [valV_pos e, b]; exact h2
    · have e' : ¬ q.1 = k := fun z => e (h1.trans z)
      have b : atKey (q :: qs) k = atKey qs k := by simp [atKey, List.find?_cons, e']
      rw [valV_neg e, b]; exact ih
theorem KT.repl {H : Hp} {kvs : List (List Key × V)} {xs : List (List Key × Addr × Value)} (r : KT H kvs xs) (k : List Key) {y : V} {u : Value} (ry : RelV y u) :
    KT H (kvs.map fun kv => if kv.1 = k then (kv.1, y) else kv) (xs.map (putAt k u)) := by
  induction r with
  | nil => exact .nil
  | @cons p q ps qs h t ih =>
    rw [List.map_cons, List.map_cons]
    refine .cons ?_ ih
    obtain ⟨h1, h2, h3⟩ := h
    unfold putAt
    by_cases e : p.1 = k
    · rw [if_pos e, if_pos (h1.symm.trans e)]; exact ⟨h1, h2, ry⟩
    · rw [if_neg e, if_neg (fun z => e (h1.trans z))]; exact ⟨h1, h2, h3⟩
theorem KT.put {H : Hp} {kvs : List (List Key × V)} {xs : List (List Key × Addr × Value)} (r : KT H kvs xs) (k : List Key) {b : Addr} {y : V} {u : Value} (hb : H b = some (.tup (k.map kV))) (ry : RelV y u) :
    KT H (putK kvs k y) (storedH xs k b u) := by
  have e : (kvs.any fun kv => decide (kv.1 = k)) = (atKey xs k).isSome := by
    rw [valV_any, (r.val k).isSome_eq, Option.isSome_map]
  unfold putK storedH
  rw [e]
  by_cases q : (atKey xs k).isSome = true
  · rw [if_pos q, if_pos q]; exact r.repl k ry
  · rw [if_neg q, if_neg q]; exact Paired.snoc r ⟨rfl, hb, ry⟩
theorem KT.keeps {H H' : Hp} {kvs : List (List Key × V)} {xs : List (List Key × Addr × Value)} (r : KT H kvs xs) (ht : ∀ b ys, H b = some (.tup ys) → H' b = some (.tup ys)) : KT H' kvs xs :=
  Paired.mapP r fun _ _ z => ⟨z.1, ht _ _ z.2.1, z.2.2⟩
section
variable {P : Program} {w : World} {H : Hp} {h : Heap} {a : Addr}
theorem rd_of {u : HO} (ok : HOk P w H h) (e : Rd H a u) : ObjOk P w H h a u := e.ok ok
theorem dk_rd {kvs : List (Key × V)} (ok : HOk P w H h) (e : Rd H a (.dK kvs)) : kvs.length ≤ sizeLine ∧ (a == sysModules) = false ∧ ∃ vs, KV kvs vs ∧ h.DictOf (mixKind P w) a vs :=
  show ObjOk P w H h a (.dK kvs) from rd_of ok e
theorem dk_of {kvs : List (Key × V)} (ok : HOk P w H h) (e : H a = some (.dK kvs)) : kvs.length ≤ sizeLine ∧ (a == sysModules) = false ∧ ∃ vs, KV kvs vs ∧ h.DictOf (mixKind P w) a vs := dk_rd ok (.inl e)
theorem key_of {ks : List Key} (ok : HOk P w H h) (e : H a = some (.tup (ks.map kV))) : (tupleKind (mixKind P w)).is h ks a := by
  obtain ⟨_, its, r, o, h1, h2, n, h3⟩ := (show ObjOk P w H h a (.tup (ks.map kV)) from ok a _ e)
  exact ⟨o, its.toArray, n, h1, h2, h3, by simpa using items_are r⟩
theorem dt_rd {kvs : List (List Key × V)} (ok : HOk P w H h) (e : Rd H a (.dT kvs)) : kvs.length ≤ sizeLine ∧ (a == sysModules) = false ∧
    ∃ xs, KT H kvs xs ∧ h.DictOfH (tupleKind (mixKind P w)) a xs := by
  obtain ⟨z, y, xs, r, o, es, ep, h1, h2, h3, h4, h5⟩ := (show ObjOk P w H h a (.dT kvs) from rd_of ok e)
  refine ⟨z, y, xs, r, o, es, ep, h1, h2, h3, h4, fun x hx => ?_, h5⟩
  have all : ∀ {l : List (List Key × V)} {m : List (List Key × Addr × Value)}, KT H l m → ∀ x ∈ m, (tupleKind (mixKind P w)).is h x.1 x.2.1 := by
    intro l m q
    induction q with
    | nil => intro x hx; exact nomatch hx
    | @cons p q ps qs hq t ih =>
      intro x hx
      rcases List.mem_cons.mp hx with e | hx
      · subst e
        exact key_of ok (by rw [← hq.1]; exact hq.2.1)
      · exact ih x hx
  exact all r x hx
theorem dt_of {kvs : List (List Key × V)} (ok : HOk P w H h) (e : H a = some (.dT kvs)) : kvs.length ≤ sizeLine ∧ (a == sysModules) = false ∧
    ∃ xs, KT H kvs xs ∧ h.DictOfH (tupleKind (mixKind P w)) a xs := dt_rd ok (.inl e)
end
def DGet (H : Hp) (a : Addr) (y : V) (r : Option V) : Prop :=
  (∃ kvs k, Rd H a (.dK kvs) ∧ y = kV k ∧ r = valV kvs k) ∨ ∃ kvs k b, Rd H a (.dT kvs) ∧ y = .ref b ∧ H b = some (.tup (k.map kV)) ∧ r = valV kvs k
def DPut (H : Hp) (a : Addr) (y v : V) (H' : Hp) : Prop :=
  (∃ kvs k, H a = some (.dK kvs) ∧ y = kV k ∧ kvs.length < sizeLine ∧ H' = upd H a (.dK (putK kvs k v))) ∨
  ∃ kvs k b, H a = some (.dT kvs) ∧ y = .ref b ∧ H b = some (.tup (k.map kV)) ∧ kvs.length < sizeLine ∧ H' = upd H a (.dT (putK kvs k v))
theorem DGet.k {H : Hp} {a : Addr} {kvs : List (Key × V)} {k : Key} (e : H a = some (.dK kvs)) : DGet H a (kV k) (valV kvs k) := .inl ⟨kvs, k, .inl e, rfl, rfl⟩
theorem DPut.k {H : Hp} {a : Addr} {kvs : List (Key × V)} {k : Key} {v : V} (e : H a = some (.dK kvs)) (hl : kvs.length < sizeLine) : DPut H a (kV k) v (upd H a (.dK (putK kvs k v))) := .inl ⟨kvs, k, e, rfl, hl, rfl⟩
section
variable {X : Cx} {pins : List (Addr × Obj)} {σ : St} {H : Hp} {s : Shared} {a : Addr} {y v : V} {u r : Value} {o : Option V} {A : Around} {E : Value → Shared → Prop}
theorem Inv.big (I : Inv X pins σ H s) : sysModules < s.heap.objs.size := by
  have h : mainGlobals < s.heap.objs.size := (I.mod.glob.keeps I.bk).lt
  exact Nat.lt_trans (by decide) h
theorem d_in {Q : Value → Shared → Prop} (hu : A.units + 1 < cLine) (I : Inv X pins σ H s) (g : DGet H a y o) (ry : RelV y u) (h : ∀ s', Inv X pins σ H s' → Q (.bool o.isSome) s') :
    wpAny (model X.prog X.w) A (compareOp .In u (.ref a)) Q E s := by
  rcases g with ⟨kvs, k, e, ey, l⟩ | ⟨kvs, k, b, e, ey, eb, l⟩
  · subst ey
    obtain ⟨z, hd, vs, rel, dd⟩ := dk_rd I.hok e
    refine wpAny_in_of (kV_is ry) hd dd.mapOf ?_
    rw [← (rel.val k).isSome_eq, ← l]
    exact h _ (I.tok _)
  · subst ey
    cases (show u = Value.ref b from ry)
    obtain ⟨z, hd, xs, rel, dd⟩ := dt_rd I.hok e
    refine wpAny_in_heap (tupleKind_room_in1 hu) (key_of I.hok eb) hd dd ?_
    have q := (rel.val k).isSome_eq
    rw [Option.isSome_map] at q
    rw [← q, ← l]
    exact h _ (I.tok _)
theorem d_write {h' : Heap} {t' : Nat} {ob : HO} (I : Inv X pins σ H s) (mu : Mut (H a)) (hs : Heap.SameBut a s.heap h') (he : ∃ q, h'.get? a = some q) (new : ObjOk X.prog X.w (upd H a ob) h' a ob) :
    Inv X pins σ (upd H a ob) { s with heap := h', toks := t' } :=
  I.write (x := a) (e := a) mu (.inl rfl) (fun b q hb z => (hs.2 b hb).trans z) he new
theorem dk_new {P : Program} {w : World} {H' : Hp} {h' : Heap} {kvs : List (Key × V)} {vs : List (Key × Value)} (z : kvs.length ≤ sizeLine) (hd : (a == sysModules) = false) (rel : KV kvs vs) (dd : h'.DictOf (mixKind P w) a vs) :
    ObjOk P w H' h' a (.dK kvs) := ⟨z, hd, vs, rel, dd⟩
theorem d_setItem {H' : Hp} {Q : Unit → Shared → Prop} (hu : A.units + 1 < cLine) (I : Inv X pins σ H s) (g : DPut H a y v H') (ry : RelV y u) (rv : RelV v r) (h : ∀ s', Inv X pins σ H' s' → Q () s') :
    wpAny (model X.prog X.w) A (setItem (.ref a) u r) Q E s := by
  rcases g with ⟨kvs, k, e, ey, l, eH⟩ | ⟨kvs, k, b, e, ey, eb, l, eH⟩
  · subst ey eH
    obtain ⟨z, hd, vs, rel, dd⟩ := dk_of I.hok e
    have hz : vs.length ≤ sizeLine := by rw [← rel.length]; exact z
    have hl : (putK kvs k v).length ≤ sizeLine := by have := length_putK kvs k v; omega
    refine wpAny_setItem_pairs (hsz := hz) (kV_is ry) dd fun h' dd' hs => h _ ?_
    have he : ∃ q, h'.get? a = some q := let ⟨q, _, _, hq, _⟩ := dd'; ⟨q, hq⟩
    exact d_write I (by rw [e]; exact True.intro) hs he (dk_new hl hd (rel.put k rv) dd')
  · subst ey eH
    cases (show u = Value.ref b from ry)
    obtain ⟨z, hd, xs, rel, dd⟩ := dt_of I.hok e
    have hz : xs.length ≤ sizeLine := by rw [← Paired.length rel]; exact z
    have hl : (putK kvs k v).length ≤ sizeLine := by have := length_putK kvs k v; omega
    refine wpAny_setItem_heap (hsz := hz) (tupleKind_room_in1 hu) (key_of I.hok eb) dd fun h' dd' hs => h _ ?_
    obtain ⟨q, es, ep, hq, h2, h3, h4, _, h5⟩ := dd'
    refine d_write I (by rw [e]; exact True.intro) hs ⟨q, hq⟩ ⟨hl, hd, _, (rel.put k eb rv).keeps fun c ys ec => ?_, q, es, ep, hq, h2, h3, h4, h5⟩
    rw [upd_ne (ne_of ec e (fun z => nomatch z))]
    exact ec
end
section
variable {X : Cx} {pins : List (Addr × Obj)} {σ : St} {H : Hp} {s : Shared} {a : Addr} {kvs : List (Key × V)} {k : Key} {u : Value} {A : Around} {E : Value → Shared → Prop}
end
def NoSl (i : Expr) : Prop := ∀ ov iv, subscripted i false ov iv = operate [ov, iv] (getItem ov iv)
def tDGet (td ty : TE) : TE := fun σ H Q => td σ H fun x H1 => ty σ H1 fun y H2 => ∃ a v, x = .ref a ∧ DGet H2 a y (some v) ∧ Q v H2
def tDIn (ty td : TE) : TE := fun σ H Q => ty σ H fun y H1 => td σ H1 fun x H2 => ∃ a o, x = .ref a ∧ DGet H2 a y o ∧ Q (.bl o.isSome) H2
def tDNotIn (ty td : TE) : TE := fun σ H Q => ty σ H fun y H1 => td σ H1 fun x H2 => ∃ a o, x = .ref a ∧ DGet H2 a y o ∧ Q (.bl (!o.isSome)) H2
def sDPut (td ty tv : TE) : TS := fun D σ H => tv σ H fun v H1 => td σ H1 fun x H2 => ty σ H2 fun y H3 => ∃ a H4, x = .ref a ∧ DPut H3 a y v H4 ∧ D.nx σ H4
def sDAug (td ty tv : TE) (rd : V → V → Hp → VK → Prop) : TS := fun D σ H => td σ H fun x H1 => ty σ H1 fun y H2 => ∃ a v, x = .ref a ∧ DGet H2 a y (some v) ∧
  tv σ H2 fun y2 H3 => rd v y2 H3 fun z H4 => ∃ H5, DPut H4 a y z H5 ∧ D.nx σ H5
def sDDel (td ty : TE) : TS := fun D σ H => td σ H fun x H1 => ty σ H1 fun y H2 => ∃ a kvs k, x = .ref a ∧ H2 a = some (.dK kvs) ∧ y = kV k ∧ (valV kvs k).isSome = true ∧ D.nx σ (upd H2 a (.dK (dropK kvs k)))
section
variable {X : Cx} {o i e value : Expr} {pos pos' tpos : Pos} {td ty tv : TE}
theorem pc_din (hu : X.A.units + 1 < cLine) (hi : PE X i ty) (ho : PE X o td) : PC X .In i o (tDIn ty td) := by
  intro pins s σ H Q I h
  refine thn (hi pins s σ H _ I h) fun iv s1 ⟨y, H1, I1, ry, q1⟩ => thn (ho pins s1 σ H1 _ I1 q1) fun u s2 ⟨x, H2, I2, rx, a, ov, ex, g, q2⟩ => ?_
  subst ex
  obtain rfl : u = Value.ref a := rx
  exact d_in hu I2 g ry fun s3 I3 => ⟨.bl ov.isSome, H2, I3, rfl, q2⟩
theorem ps_dput (hu : X.A.units + 1 < cLine) (ho : PE X o td) (hi : PE X i ty) (hv : PE X value tv) (hs : swapsWith value (some (.Subscript o i pos')) pos.line X.env = pure false) :
    PS X (.Assign [.Subscript o i pos'] value pos) (sDPut td ty tv) := by
  intro pins s σ H D I h
  refine wpAny_Assign_Subscript (thn (hv pins s σ H _ I h) fun r s1 ⟨v, H1, I1, rv, q1⟩ => thn (ho pins s1 σ H1 _ I1 q1) fun u s2 ⟨x, H2, I2, rx, q2⟩ => thn (hi pins s2 σ H2 _ I2 q2) fun iv s3 ⟨y, H3, I3, ry, a, H4, ex, g, q3⟩ => ?_) hs
  subst ex
  obtain rfl : u = Value.ref a := rx
  exact d_setItem hu I3 g ry rv fun s4 I4 => ⟨σ, H4, I4, q3⟩
end
theorem dk_empty {P : Program} {w : World} {H : Hp} (h : Heap) (hb : sysModules < h.objs.size) : ObjOk P w H (h.push { cls := .type "dict", data := .dict #[] }) h.objs.size (.dK []) :=
  ⟨Nat.zero_le _, beq_eq_false_iff_ne.mpr (Ne.symm (Nat.ne_of_lt hb)), [], .nil, Heap.DictOf.new h⟩
def tDNewK : TE := fun _ H Q => ∀ p, H p = none → Q (.ref p) (upd H p (.dK []))
def tDNewT : TE := fun _ H Q => ∀ p, H p = none → Q (.ref p) (upd H p (.dT []))
section
variable {X : Cx} {pos : Pos}
theorem pe_dnewK : PE X (.Dict [] [] pos) tDNewK := fun pins s σ H Q I h =>
  wpAny_Dict_empty ⟨.ref s.heap.objs.size, _, I.laid (a := s.heap.objs.size) (o := .dK []) (t' := s.toks) (fun _ _ q => Heap.get?_push_of_some _ q) (Nat.le_refl _) (dk_empty s.heap I.big), rfl, h _ (I.hok.fresh (Nat.le_refl _))⟩
end
def tPairs : List (TE × TE) → St → Hp → (List (V × V) → Hp → Prop) → Prop
  | [], _, H, Q => Q [] H
  | (tk, tv) :: r, σ, H, Q => tk σ H fun x H1 => tv σ H1 fun y H2 => tPairs r σ H2 fun ps H3 => Q ((x, y) :: ps) H3
abbrev VV : List (V × V) → List (Value × Value) → Prop := Paired fun p q => RelV p.1 q.1 ∧ RelV p.2 q.2
def PPs (X : Cx) (pos : Pos) (keys : List (Option Expr)) (values : List Expr) (trs : List (TE × TE)) : Prop :=
  ∀ (pins : List (Addr × Obj)) (s : Shared) (σ : St) (H : Hp) (Q : List (V × V) → Hp → Prop), Inv X pins σ H s → tPairs trs σ H Q →
    wpAny (model X.prog X.w) X.A (evalPairs (pairTrees keys values X.env pos)) (fun vs s' => ∃ ps H', Inv X pins σ H' s' ∧ VV ps vs ∧ Q ps H') X.xe s
def mergeK (kvs more : List (Key × V)) : List (Key × V) := more.foldl (fun acc kv => putK acc kv.1 kv.2) kvs
def tDisp (trs : List (TE × TE)) : TE := fun σ H Q => ∀ p, H p = none → tPairs trs σ (upd H p (.dK [])) fun ps H2 => H2 p = some (.dK []) ∧ ∃ kvs : List (Key × V), ps = kvs.map (fun kv => (kV kv.1, kv.2)) ∧ kvs.length ≤ 15 ∧ Q (.ref p) (upd H2 p (.dK (mergeK [] kvs)))
structure M1 (X : Cx) (o : Expr) (m : Str) (apos : Pos) (e : Expr) (cpos : Pos) : Prop where
  base : attributeBase o m X.env (eval o X.env) = eval o X.env
  few : ((backTo cpos (starEach [e] X.env)).all (fun x => !x.1) && (backToKw cpos (keywordEach [] X.env)).all (fun x => x.1.isSome)
    && decide (([e] : List Expr).length + ([] : List Keyword).length + (if ([] : List Keyword).isEmpty then 0 else 1) < 30)) = true
  line : (apos.endLine == cpos.line) = true
  trees : backTo cpos (starEach [e] X.env) = [(false, eval e X.env)]
structure M2 (X : Cx) (o : Expr) (m : Str) (apos : Pos) (e f : Expr) (cpos : Pos) : Prop where
  base : attributeBase o m X.env (eval o X.env) = eval o X.env
  few : ((backTo cpos (starEach [e, f] X.env)).all (fun x => !x.1) && (backToKw cpos (keywordEach [] X.env)).all (fun x => x.1.isSome)
    && decide (([e, f] : List Expr).length + ([] : List Keyword).length + (if ([] : List Keyword).isEmpty then 0 else 1) < 30)) = true
  line : (apos.endLine == cpos.line) = true
  trees : backTo cpos (starEach [e, f] X.env) = [(false, eval e X.env), (false, eval f X.env)]
def IsD (H : Hp) (a : Addr) : Prop := (∃ kvs, Rd H a (.dK kvs)) ∨ ∃ kvs, Rd H a (.dT kvs)
section
variable {X : Cx} {pins : List (Addr × Obj)} {σ : St} {H : Hp} {s : Shared} {a : Addr} {y d : V} {u r : Value} {o : Option V} {A : Around} {E : Value → Shared → Prop}
end
def tDGet1 (td ty : TE) : TE := fun σ H Q => td σ H fun x H1 => ∃ a, x = .ref a ∧ IsD H1 a ∧ ty σ H1 fun y H2 => ∃ o, DGet H2 a y o ∧ Q (o.getD .non) H2
def tDGet2 (td ty tx : TE) : TE := fun σ H Q => td σ H fun x H1 => ∃ a, x = .ref a ∧ IsD H1 a ∧ ty σ H1 fun y H2 => tx σ H2 fun z H3 => ∃ o, DGet H3 a y o ∧ Q (o.getD z) H3
def tDPop1 (td ty : TE) : TE := fun σ H Q => td σ H fun x H1 => ∃ a, x = .ref a ∧ IsD H1 a ∧ ty σ H1 fun y H2 => ∃ kvs k v, H2 a = some (.dK kvs) ∧ y = kV k ∧ valV kvs k = some v ∧ Q v (upd H2 a (.dK (dropK kvs k)))
def tDPop2 (td ty tx : TE) : TE := fun σ H Q => td σ H fun x H1 => ∃ a, x = .ref a ∧ IsD H1 a ∧ ty σ H1 fun y H2 => tx σ H2 fun z H3 => ∃ kvs k, H3 a = some (.dK kvs) ∧ y = kV k ∧
  (∀ v, valV kvs k = some v → Q v (upd H3 a (.dK (dropK kvs k)))) ∧ (valV kvs k = none → Q z H3)
section
variable {X : Cx} {o e f : Expr} {apos cpos : Pos} {td ty tx : TE}
end
section
variable {X : Cx} {pins : List (Addr × Obj)} {σ : St} {H : Hp} {s : Shared} {a : Addr} {kvs : List (Key × V)} {A : Around} {E : Value → Shared → Prop}
end
section
variable {X : Cx} {pins : List (Addr × Obj)} {σ : St} {H : Hp} {s : Shared} {a : Addr} {y : V} {u : Value} {A : Around} {E : Value → Shared → Prop}
end
open PySem PySem.Spec PyProof.Rows
section
variable {X : Cx}
end
section
variable {κ : Type} [DecidableEq κ]
end
open PySem PySem.Spec PyProof.Rows
inductive CmpV (K : PySem.W.Frag) (H : Hp) : V → V → Bool → Prop
  | tup {a b : Addr} {xs ys : List V} : SqT K H a xs → SqT K H b ys → xs.all flatV = true → ys.all flatV = true → CmpV K H (.ref a) (.ref b) (eqL xs ys)
  | lst {a b : Addr} {xs ys : List V} : SqL K H a xs → SqL K H b ys → xs.all flatV = true → ys.all flatV = true → CmpV K H (.ref a) (.ref b) (eqL xs ys)
  | flat {x y : V} : flatV x = true → flatV y = true → CmpV K H x y (eqV x y)
section
variable {X : Cx} {K : PySem.W.Frag} {pins : List (Addr × Obj)} {σ : St} {H : Hp} {s : Shared}
def rInC (K : PySem.W.Frag) (no : Bool) : R2 := fun x y H Q => ∃ (q : Addr) (xs : List V), y = .ref q ∧ SqL K H q xs ∧
  (((∀ (i : Nat) (z : V), xs[i]? = some z → ∃ b, CmpV K H z x b) ∧ (∃ (i : Nat) (z : V), xs[i]? = some z ∧ CmpV K H z x true) ∧ Q (.bl (!no)) H) ∨ ((∀ (i : Nat) (z : V), xs[i]? = some z → CmpV K H z x false) ∧ Q (.bl no) H))
def rIdxC (K : PySem.W.Frag) : V → List V → Hp → VK → Prop := fun x vs H Q => ∃ (l : Addr) (xs : List V) (v : V) (j : Nat), x = .ref l ∧ vs = [v] ∧ H l = some (.lst xs) ∧ j < xs.length ∧ xs.length ≤ 1000 ∧
  (∀ (i : Nat) (z : V), xs[i]? = some z → ∃ b, CmpV K H z v b ∧ (i < j → b = false) ∧ (i = j → b = true)) ∧ Q (.int (j : Int)) H
end
open PySem PySem.Spec PyProof.Rows
section
variable {X : Cx} {t : XK → TS} {pos : Pos}
def tTryN (K : PySem.W.Frag) (Ch : Addr) (t : XK → TS) (ts : TS) : TS := fun D σ H => t (fun c _ H' => ∃ C, c = .ref C ∧ Sub K C Ch ∧ ∀ ea, H' ea = none → ts D σ (upd H' ea (exH C ea))) D σ H
end
open PySem PySem.Spec PyProof.Rows
section
variable {X : Cx} {K : PySem.W.Frag}
def rNeT (K : PySem.W.Frag) : R2 := fun x y H Q => ∃ p q xs, x = .ref p ∧ y = .ref q ∧ SqT K H p xs ∧ SqT K H q xs ∧ (∀ x ∈ xs, flatV x = true) ∧ Q (.bl false) H
end
open PySem PySem.Spec PyProof.Rows
section
variable {X : Cx} {K : PySem.W.Frag}
def rEqTS (K : PySem.W.Frag) : R2 := fun x y H Q => ∃ (p q : Addr) (xs ys : List V), x = .ref p ∧ y = .ref q ∧ SqT K H p xs ∧ SqT K H q ys ∧ xs.length = ys.length ∧ (∀ (i : Nat) (x y : V), xs[i]? = some x → ys[i]? = some y → SamV K H 50 x y) ∧ Q (.bl true) H
theorem op_eqTS (hu : X.A.units + 100 < cLine) (hK : X.K = K := by rfl) : OpR X (compareOp .Eq) (rEqTS K) := by
  subst hK
  intro pins s σ H x y v u Q I rx ry h
  obtain ⟨p, q, xs, ys, rfl, rfl, hx, hy, hl, hf, k⟩ := h
  cases rx
  cases ry
  obtain ⟨its, r, pl, hz⟩ := I.tuple hx
  obtain ⟨its2, r2, pl2, hz2⟩ := I.tuple hy
  have l1 := r.length
  have l2 := r2.length
  refine SeqAt.RcAt.tuples (e := fun _ => true) pl pl2 (by omega) (fun j h1 h2 => ?_) _ _ _ _ ?_
  · obtain ⟨x, ex, qx⟩ := vals_get r h1
    obtain ⟨y, ey, qy⟩ := vals_get r2 h2
    exact eqAt_sam (n := 50) I (hf j x y ex ey) qx qy (by show X.A.units + 1 + 50 < cLine; omega)
  refine ⟨.bl true, H, I, ?_, k⟩
  show Value.bool _ = Value.bool _
  have : its.length = its2.length := by omega
  simp [this]
end
open PySem PySem.Spec PyProof.Rows
section
variable {X : Cx} {K : PySem.W.Frag}
def rNeTS (K : PySem.W.Frag) : R2 := fun x y H Q => ∃ (p q : Addr) (xs ys : List V), x = .ref p ∧ y = .ref q ∧ SqT K H p xs ∧ SqT K H q ys ∧ xs.length = ys.length ∧ (∀ (i : Nat) (x y : V), xs[i]? = some x → ys[i]? = some y → SamV K H 50 x y) ∧ Q (.bl false) H
end
end L2
namespace Mine
open L2
def Sg (c : Nat) : Prop := c = 35 ∨ c = 46
structure Cl (cl : List (List Nat)) (m n : Nat) : Prop where
  hn : cl.length = n
  hm : ∀ t ∈ cl, t.length = m
  sg : ∀ t ∈ cl, ∀ c ∈ t, Sg c
  m1 : 1 ≤ m
  m40 : m ≤ 40
  n1 : 1 ≤ n
  n40 : n ≤ 40
def flip (c : Nat) : Nat := if c = 35 then 46 else 35
def back (cl : List (List Nat)) : List (List Nat) := cl.map fun t => t.reverse.map flip
def col (cl : List (List Nat)) (e : Nat) : List Nat := cl.map fun t => t.getD e 0
def quart (cl : List (List Nat)) (m : Nat) : List (List Nat) := (List.range m).map fun e => (col cl e).map flip
def sgn (cl : List (List Nat)) (m n : Nat) (x y : Int) : Nat := (cl.getD (y % (n : Int)).toNat []).getD (x % (m : Int)).toNat 0
def Rs (ks : List Int) : Prop := (∀ (i : Nat) (a b : Int), ks[i]? = some a → ks[i + 1]? = some b → a < b) ∧ ∀ k ∈ ks, 0 ≤ k ∧ k < 40
theorem rs_nil : Rs [] := ⟨fun i a b h => by simp at h, fun k h => by cases h⟩
theorem rs_add {ks : List Int} {z : Int} (h : Rs ks) (hz : ∀ k ∈ ks, k < z) (h0 : 0 ≤ z) (h1 : z < 40) : Rs (ks ++ [z]) := by
  refine ⟨fun i a b ha hb => ?_, fun k hk => ?_⟩
  · by_cases hi : i + 1 < ks.length
    · rw [List.getElem?_append_left (by omega)] at ha
      rw [List.getElem?_append_left hi] at hb
      exact h.1 i a b ha hb
    · by_cases hi2 : i < ks.length
      · rw [List.getElem?_append_left hi2] at ha
        rw [List.getElem?_append_right (by omega)] at hb
        have e : i + 1 - ks.length = 0 := by omega
        rw [e] at hb
        have : b = z := by simpa using hb.symm
        rw [this]
        exact hz a (List.mem_of_getElem? ha)
      · rw [List.getElem?_append_right (by omega)] at hb
        have : ([z] : List Int)[i + 1 - ks.length]? = none := by
          apply List.getElem?_eq_none
          simp
          omega
        rw [this] at hb
        cases hb
  · rcases List.mem_append.mp hk with h2 | h2
    · exact h.2 k h2
    · rw [List.mem_singleton.mp h2]; exact ⟨h0, h1⟩
structure Ft (th : List Int) (tss : List (List Int)) (tr : List Int) : Prop where
  m1 : 1 ≤ th.length
  m40 : th.length ≤ 40
  t1 : 1 ≤ tss.length
  t40 : tss.length ≤ 40
  n1 : 1 ≤ tr.length
  n40 : tr.length ≤ 40
  hth : ∀ v ∈ th, 0 ≤ v ∧ v < 40
  hti : ∀ ks ∈ tss, Rs ks
  htr : ∀ v ∈ tr, 0 ≤ v ∧ v < tss.length
def shd (th ks : List Int) : List Nat := th.map fun s => if s ∈ ks then 35 else 46
def wv (th : List Int) (tss : List (List Int)) (tr : List Int) : List (List Nat) := tr.map fun v => shd th (tss.getD v.toNat [])
theorem shd_len (th ks : List Int) : (shd th ks).length = th.length := by unfold shd; rw [List.length_map]
theorem get_tie {tss : List (List Int)} {v : Int} (h : 0 ≤ v ∧ v < tss.length) : tss[v.toNat]? = some (tss.getD v.toNat []) := by
  have : v.toNat < tss.length := by omega
  rw [List.getD_eq_getElem?_getD, List.getElem?_eq_getElem this]
  rfl
section
variable {α β : Type} [DecidableEq α] [DecidableEq β]
def unl (l : List α) : List α := l.foldl (fun f x => if x ∈ f then f else f ++ [x]) []
def ix (l : List α) (x : α) : Nat := @List.idxOf α instBEqOfDecidableEq x l
def num (l : List α) : List Nat := l.map fun x => ix (unl l) x
end
def bw (bs : List Nat) (F : Nat) (ws : List Nat) : List Nat := bs.flatMap fun b => ws.map fun x => b * F + x
def fil (pr one other : List (List Nat)) : List (List Nat) := pr.flatMap fun u => (one.zip other).map fun q => u.flatMap fun c => if c = 35 then q.1 else q.2
section
variable {pr one other : List (List Nat)} {m n w h : Nat} (C : Cl pr m n) (C1 : Cl one w h) (C2 : Cl other w h)
include C C1 C2
end
def cols (cl : List (List Nat)) (m : Nat) : List (List Nat) := (List.range m).map (col cl)
def ends2 (one other : List (List Nat)) (w : Nat) : List (List Nat × List Nat) := (List.range w).map fun e => (col one e, col other e)
def nts (l : List Nat) : List Int := l.map fun (z : Nat) => (z : Int)
section
variable {pr one other : List (List Nat)} {m n w h : Nat} (C : Cl pr m n) (C1 : Cl one w h) (C2 : Cl other w h)
def thN (pr one other : List (List Nat)) (m w : Nat) : List Nat := bw (num (cols pr m)) (unl (ends2 one other w)).length (num (ends2 one other w))
def trN (pr one other : List (List Nat)) : List Nat := bw (num pr) (unl (one.zip other)).length (num (one.zip other))
include C C1 C2
end
end Mine
set_option maxHeartbeats 4000000
namespace Mine
open PySem L2
def top (i : Nat) : Stmt := PySem.Challenge.pw_heddle_k16_whole_loom.main.body.getD i (.Pass ⟨0, 0, 0, 0⟩)
abbrev s_check_setting : Stmt := top 9
theorem sc_check_setting : FnScope ["threading", "ties", "shaft", "tie"] ["threading", "ties"] (defScope s_check_setting) := ⟨rfl, rfl, rfl, by decide +kernel, rfl, by decide +kernel, by decide +kernel⟩
abbrev s_check_count : Stmt := top 10
theorem sc_check_count : FnScope ["count"] ["count"] (defScope s_check_count) := ⟨rfl, rfl, rfl, by decide +kernel, rfl, by decide +kernel, by decide +kernel⟩
abbrev s_check_shaft : Stmt := top 11
theorem sc_check_shaft : FnScope ["shaft"] ["shaft"] (defScope s_check_shaft) := ⟨rfl, rfl, rfl, by decide +kernel, rfl, by decide +kernel, by decide +kernel⟩
abbrev s_check_tie : Stmt := top 12
theorem sc_check_tie : FnScope ["tie", "k"] ["tie"] (defScope s_check_tie) := ⟨rfl, rfl, rfl, by decide +kernel, rfl, by decide +kernel, by decide +kernel⟩
abbrev s_check_treading : Stmt := top 13
abbrev s_shed_over : Stmt := top 14
theorem sc_shed_over : FnScope ["threading", "lifted"] ["threading", "lifted"] (defScope s_shed_over) := ⟨rfl, rfl, rfl, by decide +kernel, rfl, by decide +kernel, by decide +kernel⟩
abbrev s_unlike : Stmt := top 15
abbrev s_law_cell_at : Stmt := top 19
theorem sc_law_cell_at : FnScope ["script", "k"] ["script", "k"] (defScope s_law_cell_at) := ⟨rfl, rfl, rfl, by decide +kernel, rfl, by decide +kernel, by decide +kernel⟩
abbrev s_law_sums : Stmt := top 20
theorem sc_law_sums : FnScope ["script", "behind", "many", "sums", "k", "at"] ["script", "behind", "many"] (defScope s_law_sums) := ⟨rfl, rfl, rfl, by decide +kernel, rfl, by decide +kernel, by decide +kernel⟩
abbrev s_law_size : Stmt := top 21
theorem sc_law_size : FnScope ["cell", "small"] ["cell", "small"] (defScope s_law_size) := ⟨rfl, rfl, rfl, by decide +kernel, rfl, by decide +kernel, by decide +kernel⟩
abbrev s_law_threading : Stmt := top 22
theorem sc_law_threading : FnScope ["script", "ends", "high", "step", "sums"] ["script", "ends", "high"] (defScope s_law_threading) := ⟨rfl, rfl, rfl, by decide +kernel, rfl, by decide +kernel, by decide +kernel⟩
abbrev s_law_tie : Stmt := top 23
theorem sc_law_tie : FnScope ["number", "high", "tie", "shaft"] ["number", "high"] (defScope s_law_tie) := ⟨rfl, rfl, rfl, by decide +kernel, rfl, by decide +kernel, by decide +kernel⟩
abbrev s_law_ties : Stmt := top 24
theorem sc_law_ties : FnScope ["script", "treadles", "high", "sums", "start"] ["script", "treadles", "high"] (defScope s_law_ties) := ⟨rfl, rfl, rfl, by decide +kernel, rfl, by decide +kernel, by decide +kernel⟩
abbrev s_law_lifted : Stmt := top 25
theorem sc_law_lifted : FnScope ["ties", "down", "lifted", "k", "shaft"] ["ties", "down"] (defScope s_law_lifted) := ⟨rfl, rfl, rfl, by decide +kernel, rfl, by decide +kernel, by decide +kernel⟩
abbrev s_law_shed : Stmt := top 26
theorem sc_law_shed : FnScope ["threading", "lifted", "due", "shaft"] ["threading", "lifted"] (defScope s_law_shed) := ⟨rfl, rfl, rfl, by decide +kernel, rfl, by decide +kernel, by decide +kernel⟩
abbrev s_law_try : Stmt := top 27
theorem sc_law_try : FnScope ["made", "way", "at", "letter", "caught", "told", "e"] ["made", "way", "at", "letter"] (defScope s_law_try) := ⟨rfl, rfl, rfl, by decide +kernel, rfl, by decide +kernel, by decide +kernel⟩
abbrev s_law_cannot : Stmt := top 28
theorem sc_law_cannot : FnScope ["state", "way", "at", "known"] ["state", "way", "at"] (defScope s_law_cannot) := ⟨rfl, rfl, rfl, by decide +kernel, rfl, by decide +kernel, by decide +kernel⟩
abbrev s_law_moved_on : Stmt := top 29
theorem sc_law_moved_on : FnScope ["setting", "state", "way", "at", "letter", "past"] ["setting", "state", "way", "at", "letter"] (defScope s_law_moved_on) := ⟨rfl, rfl, rfl, by decide +kernel, rfl, by decide +kernel, by decide +kernel⟩
abbrev s_law_same : Stmt := top 30
theorem sc_law_same : FnScope ["told", "due"] ["told", "due"] (defScope s_law_same) := ⟨rfl, rfl, rfl, by decide +kernel, rfl, by decide +kernel, by decide +kernel⟩
abbrev s_law_list : Stmt := top 31
theorem sc_law_list : FnScope ["told", "due", "held", "one"] ["told", "due", "held"] (defScope s_law_list) := ⟨rfl, rfl, rfl, by decide +kernel, rfl, by decide +kernel, by decide +kernel⟩
abbrev s_law_answered : Stmt := top 32
theorem sc_law_answered : FnScope ["made", "setting", "state", "way", "told", "due"] ["made", "setting", "state", "way"] (defScope s_law_answered) := ⟨rfl, rfl, rfl, by decide +kernel, rfl, by decide +kernel, by decide +kernel⟩
abbrev s_law_treadle : Stmt := top 33
theorem sc_law_treadle : FnScope ["number", "treadles", "at", "far"] ["number", "treadles"] (defScope s_law_treadle) := ⟨rfl, rfl, rfl, by decide +kernel, rfl, by decide +kernel, by decide +kernel⟩
abbrev s_law_done : Stmt := top 34
theorem sc_law_done : FnScope ["made", "setting", "state", "cell", "words", "mixed", "letter", "at", "due", "told"] ["made", "setting", "state", "cell"] (defScope s_law_done) := ⟨rfl, rfl, rfl, by decide +kernel, rfl, by decide +kernel, by decide +kernel⟩
abbrev s_law : Stmt := top 35
theorem sc_law : FnScope ["script", "ends", "treadles", "high", "setting", "handed", "made", "states", "k", "cell", "at", "pair"] ["script"] (defScope s_law) := ⟨rfl, rfl, rfl, by decide +kernel, rfl, by decide +kernel, by decide +kernel⟩
abbrev s_Draft___init__ : Stmt := (clsBody (top 8)).getD 0 (.Pass ⟨0, 0, 0, 0⟩)
abbrev s_Loom___init__ : Stmt := (clsBody (top 17)).getD 0 (.Pass ⟨0, 0, 0, 0⟩)
theorem sc_Loom___init__ : FnScope ["self", "threading", "ties"] ["self", "threading", "ties"] (defScope s_Loom___init__) := ⟨rfl, rfl, rfl, by decide +kernel, rfl, by decide +kernel, by decide +kernel⟩
abbrev s_Loom_press : Stmt := (clsBody (top 17)).getD 1 (.Pass ⟨0, 0, 0, 0⟩)
theorem sc_Loom_press : FnScope ["self", "treadle"] ["self", "treadle"] (defScope s_Loom_press) := ⟨rfl, rfl, rfl, by decide +kernel, rfl, by decide +kernel, by decide +kernel⟩
abbrev s_Loom_lift : Stmt := (clsBody (top 17)).getD 2 (.Pass ⟨0, 0, 0, 0⟩)
theorem sc_Loom_lift : FnScope ["self", "treadle"] ["self", "treadle"] (defScope s_Loom_lift) := ⟨rfl, rfl, rfl, by decide +kernel, rfl, by decide +kernel, by decide +kernel⟩
abbrev s_Loom_throw : Stmt := (clsBody (top 17)).getD 3 (.Pass ⟨0, 0, 0, 0⟩)
theorem sc_Loom_throw : FnScope ["self", "colour"] ["self", "colour"] (defScope s_Loom_throw) := ⟨rfl, rfl, rfl, by decide +kernel, rfl, by decide +kernel, by decide +kernel⟩
abbrev s_Loom_unthrow : Stmt := (clsBody (top 17)).getD 4 (.Pass ⟨0, 0, 0, 0⟩)
theorem sc_Loom_unthrow : FnScope ["self", "pick"] ["self"] (defScope s_Loom_unthrow) := ⟨rfl, rfl, rfl, by decide +kernel, rfl, by decide +kernel, by decide +kernel⟩
abbrev s_Loom_undo : Stmt := (clsBody (top 17)).getD 5 (.Pass ⟨0, 0, 0, 0⟩)
theorem sc_Loom_undo : FnScope ["self", "deed"] ["self"] (defScope s_Loom_undo) := ⟨rfl, rfl, rfl, by decide +kernel, rfl, by decide +kernel, by decide +kernel⟩
abbrev s_Loom_deeds_done : Stmt := (clsBody (top 17)).getD 6 (.Pass ⟨0, 0, 0, 0⟩)
theorem sc_Loom_deeds_done : FnScope ["self"] ["self"] (defScope s_Loom_deeds_done) := ⟨rfl, rfl, rfl, by decide +kernel, rfl, by decide +kernel, by decide +kernel⟩
abbrev s_Loom_treadles_down : Stmt := (clsBody (top 17)).getD 7 (.Pass ⟨0, 0, 0, 0⟩)
theorem sc_Loom_treadles_down : FnScope ["self"] ["self"] (defScope s_Loom_treadles_down) := ⟨rfl, rfl, rfl, by decide +kernel, rfl, by decide +kernel, by decide +kernel⟩
abbrev s_Loom_shed : Stmt := (clsBody (top 17)).getD 8 (.Pass ⟨0, 0, 0, 0⟩)
theorem sc_Loom_shed : FnScope ["self"] ["self"] (defScope s_Loom_shed) := ⟨rfl, rfl, rfl, by decide +kernel, rfl, by decide +kernel, by decide +kernel⟩
abbrev s_Loom_cloth : Stmt := (clsBody (top 17)).getD 9 (.Pass ⟨0, 0, 0, 0⟩)
theorem sc_Loom_cloth : FnScope ["self"] ["self"] (defScope s_Loom_cloth) := ⟨rfl, rfl, rfl, by decide +kernel, rfl, by decide +kernel, by decide +kernel⟩
abbrev s_Loom_colours : Stmt := (clsBody (top 17)).getD 10 (.Pass ⟨0, 0, 0, 0⟩)
theorem sc_Loom_colours : FnScope ["self"] ["self"] (defScope s_Loom_colours) := ⟨rfl, rfl, rfl, by decide +kernel, rfl, by decide +kernel, by decide +kernel⟩
abbrev s_Loom_draft : Stmt := (clsBody (top 17)).getD 11 (.Pass ⟨0, 0, 0, 0⟩)
abbrev s_Loom_lifted_shafts : Stmt := (clsBody (top 17)).getD 12 (.Pass ⟨0, 0, 0, 0⟩)
theorem sc_Loom_lifted_shafts : FnScope ["self", "shafts", "treadle"] ["self"] (defScope s_Loom_lifted_shafts) := ⟨rfl, rfl, rfl, by decide +kernel, rfl, by decide +kernel, by decide +kernel⟩
set_option genInjectivity false in
structure Adr where
  e_Draft : Addr
  e_Loom : Addr
  f_Draft___init__ : Addr
  d_Draft___init__ : FuncData
  f_Loom___init__ : Addr
  d_Loom___init__ : FuncData
  f_Loom_press : Addr
  d_Loom_press : FuncData
  f_Loom_lift : Addr
  d_Loom_lift : FuncData
  f_Loom_throw : Addr
  d_Loom_throw : FuncData
  f_Loom_unthrow : Addr
  d_Loom_unthrow : FuncData
  f_Loom_undo : Addr
  d_Loom_undo : FuncData
  f_Loom_deeds_done : Addr
  d_Loom_deeds_done : FuncData
  f_Loom_treadles_down : Addr
  d_Loom_treadles_down : FuncData
  f_Loom_shed : Addr
  d_Loom_shed : FuncData
  f_Loom_cloth : Addr
  d_Loom_cloth : FuncData
  f_Loom_colours : Addr
  d_Loom_colours : FuncData
  f_Loom_draft : Addr
  d_Loom_draft : FuncData
  f_Loom_lifted_shafts : Addr
  d_Loom_lifted_shafts : FuncData
  f_check_setting : Addr
  d_check_setting : FuncData
  f_check_count : Addr
  d_check_count : FuncData
  f_check_shaft : Addr
  d_check_shaft : FuncData
  f_check_tie : Addr
  d_check_tie : FuncData
  f_check_treading : Addr
  d_check_treading : FuncData
  f_shed_over : Addr
  d_shed_over : FuncData
  f_unlike : Addr
  d_unlike : FuncData
  f_law_cell_at : Addr
  d_law_cell_at : FuncData
  f_law_sums : Addr
  d_law_sums : FuncData
  f_law_size : Addr
  d_law_size : FuncData
  f_law_threading : Addr
  d_law_threading : FuncData
  f_law_tie : Addr
  d_law_tie : FuncData
  f_law_ties : Addr
  d_law_ties : FuncData
  f_law_lifted : Addr
  d_law_lifted : FuncData
  f_law_shed : Addr
  d_law_shed : FuncData
  f_law_try : Addr
  d_law_try : FuncData
  f_law_cannot : Addr
  d_law_cannot : FuncData
  f_law_moved_on : Addr
  d_law_moved_on : FuncData
  f_law_same : Addr
  d_law_same : FuncData
  f_law_list : Addr
  d_law_list : FuncData
  f_law_answered : Addr
  d_law_answered : FuncData
  f_law_treadle : Addr
  d_law_treadle : FuncData
  f_law_done : Addr
  d_law_done : FuncData
  f_law : Addr
  d_law : FuncData
  e_WeaveError : Addr
  e_TooLarge : Addr
  e_NoDraft : Addr
  e_NoDeed : Addr
structure Txt (K : PySem.W.Frag) (mg : Str → Option Value) (t : Adr) : Prop where
  check_setting : Df K mg "check_setting" s_check_setting ["threading", "ties"] t.f_check_setting t.d_check_setting
  check_count : Df K mg "check_count" s_check_count ["count"] t.f_check_count t.d_check_count
  check_shaft : Df K mg "check_shaft" s_check_shaft ["shaft"] t.f_check_shaft t.d_check_shaft
  check_tie : Df K mg "check_tie" s_check_tie ["tie"] t.f_check_tie t.d_check_tie
  check_treading : Df K mg "check_treading" s_check_treading ["treading", "treadles"] t.f_check_treading t.d_check_treading
  shed_over : Df K mg "shed_over" s_shed_over ["threading", "lifted"] t.f_shed_over t.d_shed_over
  unlike : Df K mg "unlike" s_unlike ["things"] t.f_unlike t.d_unlike
  law_cell_at : Df K mg "_law_cell_at" s_law_cell_at ["script", "k"] t.f_law_cell_at t.d_law_cell_at
  law_sums : Df K mg "_law_sums" s_law_sums ["script", "behind", "many"] t.f_law_sums t.d_law_sums
  law_size : Df K mg "_law_size" s_law_size ["cell", "small"] t.f_law_size t.d_law_size
  law_threading : Df K mg "_law_threading" s_law_threading ["script", "ends", "high"] t.f_law_threading t.d_law_threading
  law_tie : Df K mg "_law_tie" s_law_tie ["number", "high"] t.f_law_tie t.d_law_tie
  law_ties : Df K mg "_law_ties" s_law_ties ["script", "treadles", "high"] t.f_law_ties t.d_law_ties
  law_lifted : Df K mg "_law_lifted" s_law_lifted ["ties", "down"] t.f_law_lifted t.d_law_lifted
  law_shed : Df K mg "_law_shed" s_law_shed ["threading", "lifted"] t.f_law_shed t.d_law_shed
  law_try : Df K mg "_law_try" s_law_try ["made", "way", "at", "letter"] t.f_law_try t.d_law_try
  law_cannot : Df K mg "_law_cannot" s_law_cannot ["state", "way", "at"] t.f_law_cannot t.d_law_cannot
  law_moved_on : Df K mg "_law_moved_on" s_law_moved_on ["setting", "state", "way", "at", "letter"] t.f_law_moved_on t.d_law_moved_on
  law_same : Df K mg "_law_same" s_law_same ["told", "due"] t.f_law_same t.d_law_same
  law_list : Df K mg "_law_list" s_law_list ["told", "due", "held"] t.f_law_list t.d_law_list
  law_answered : Df K mg "_law_answered" s_law_answered ["made", "setting", "state", "way"] t.f_law_answered t.d_law_answered
  law_treadle : Df K mg "_law_treadle" s_law_treadle ["number", "treadles"] t.f_law_treadle t.d_law_treadle
  law_done : Df K mg "_law_done" s_law_done ["made", "setting", "state", "cell"] t.f_law_done t.d_law_done
  law : Df K mg "law" s_law ["script"] t.f_law t.d_law
  b_ValueError : mg "ValueError" = none
  b_bool : mg "bool" = none
  b_int : mg "int" = none
  b_isinstance : mg "isinstance" = none
  b_len : mg "len" = none
  b_list : mg "list" = none
  b_range : mg "range" = none
  b_set : mg "set" = none
  b_sorted : mg "sorted" = none
  b_str : mg "str" = none
  b_tuple : mg "tuple" = none
  c_MOST_STRANDS : ∃ tk, mg "MOST_STRANDS" = some (.int 40 tk)
  c_MOST_SHAFTS : ∃ tk, mg "MOST_SHAFTS" = some (.int 40 tk)
  k_WeaveError : mg "WeaveError" = some (.ref t.e_WeaveError)
  x_WeaveError : Exn K t.e_WeaveError
  k_TooLarge : mg "TooLarge" = some (.ref t.e_TooLarge)
  x_TooLarge : Exn K t.e_TooLarge
  r_TooLarge_WeaveError : PySem.W.mroIn K t.e_TooLarge (.ref t.e_WeaveError) = some true
  r_TooLarge_TooLarge : PySem.W.mroIn K t.e_TooLarge (.ref t.e_TooLarge) = some true
  r_TooLarge_NoDraft : PySem.W.mroIn K t.e_TooLarge (.ref t.e_NoDraft) = some false
  r_TooLarge_NoDeed : PySem.W.mroIn K t.e_TooLarge (.ref t.e_NoDeed) = some false
  k_NoDraft : mg "NoDraft" = some (.ref t.e_NoDraft)
  x_NoDraft : Exn K t.e_NoDraft
  k_NoDeed : mg "NoDeed" = some (.ref t.e_NoDeed)
  x_NoDeed : Exn K t.e_NoDeed
  r_NoDeed_WeaveError : PySem.W.mroIn K t.e_NoDeed (.ref t.e_WeaveError) = some true
  r_NoDeed_TooLarge : PySem.W.mroIn K t.e_NoDeed (.ref t.e_TooLarge) = some false
  r_NoDeed_NoDraft : PySem.W.mroIn K t.e_NoDeed (.ref t.e_NoDraft) = some false
  r_NoDeed_NoDeed : PySem.W.mroIn K t.e_NoDeed (.ref t.e_NoDeed) = some true
  k_Draft : mg "Draft" = some (.ref t.e_Draft)
  o_Draft : Own K t.e_Draft t.f_Draft___init__
  na_Draft_threading : NoAttr K t.e_Draft "threading"
  na_Draft_ties : NoAttr K t.e_Draft "ties"
  na_Draft_treading : NoAttr K t.e_Draft "treading"
  k_Loom : mg "Loom" = some (.ref t.e_Loom)
  o_Loom : Own K t.e_Loom t.f_Loom___init__
  na_Loom_threading : NoAttr K t.e_Loom "threading"
  na_Loom_ties : NoAttr K t.e_Loom "ties"
  na_Loom_down : NoAttr K t.e_Loom "down"
  na_Loom_thrown : NoAttr K t.e_Loom "thrown"
  na_Loom_deeds : NoAttr K t.e_Loom "deeds"
  m_Draft___init__ : Mf K "__init__" "Draft.__init__" s_Draft___init__ ["self", "threading", "ties", "treading"] t.e_Draft t.f_Draft___init__ t.d_Draft___init__
  m_Loom___init__ : Mf K "__init__" "Loom.__init__" s_Loom___init__ ["self", "threading", "ties"] t.e_Loom t.f_Loom___init__ t.d_Loom___init__
  m_Loom_press : Mf K "press" "Loom.press" s_Loom_press ["self", "treadle"] t.e_Loom t.f_Loom_press t.d_Loom_press
  m_Loom_lift : Mf K "lift" "Loom.lift" s_Loom_lift ["self", "treadle"] t.e_Loom t.f_Loom_lift t.d_Loom_lift
  m_Loom_throw : Mf K "throw" "Loom.throw" s_Loom_throw ["self", "colour"] t.e_Loom t.f_Loom_throw t.d_Loom_throw
  m_Loom_unthrow : Mf K "unthrow" "Loom.unthrow" s_Loom_unthrow ["self"] t.e_Loom t.f_Loom_unthrow t.d_Loom_unthrow
  m_Loom_undo : Mf K "undo" "Loom.undo" s_Loom_undo ["self"] t.e_Loom t.f_Loom_undo t.d_Loom_undo
  m_Loom_deeds_done : Mf K "deeds_done" "Loom.deeds_done" s_Loom_deeds_done ["self"] t.e_Loom t.f_Loom_deeds_done t.d_Loom_deeds_done
  m_Loom_treadles_down : Mf K "treadles_down" "Loom.treadles_down" s_Loom_treadles_down ["self"] t.e_Loom t.f_Loom_treadles_down t.d_Loom_treadles_down
  m_Loom_shed : Mf K "shed" "Loom.shed" s_Loom_shed ["self"] t.e_Loom t.f_Loom_shed t.d_Loom_shed
  m_Loom_cloth : Mf K "cloth" "Loom.cloth" s_Loom_cloth ["self"] t.e_Loom t.f_Loom_cloth t.d_Loom_cloth
  m_Loom_colours : Mf K "colours" "Loom.colours" s_Loom_colours ["self"] t.e_Loom t.f_Loom_colours t.d_Loom_colours
  m_Loom_draft : Mf K "draft" "Loom.draft" s_Loom_draft ["self"] t.e_Loom t.f_Loom_draft t.d_Loom_draft
  m_Loom_lifted_shafts : Mf K "lifted_shafts" "Loom.lifted_shafts" s_Loom_lifted_shafts ["self"] t.e_Loom t.f_Loom_lifted_shafts t.d_Loom_lifted_shafts
theorem bl1 {fd : FuncData} {ps : List Str} (h : ∀ a0 : Value, bindArgs fd ⟨[a0], []⟩ = pure (ps.zip [a0])) (us : List Value) (hl : us.length = 1) : bindArgs fd ⟨us, []⟩ = pure (ps.zip us) := by
  rcases us with _ | ⟨a0, us⟩
  · cases hl
  rcases us with _ | ⟨b, us⟩
  · exact h a0
  · cases hl
theorem bl2 {fd : FuncData} {ps : List Str} (h : ∀ a0 a1 : Value, bindArgs fd ⟨[a0, a1], []⟩ = pure (ps.zip [a0, a1])) (us : List Value) (hl : us.length = 2) : bindArgs fd ⟨us, []⟩ = pure (ps.zip us) := by
  rcases us with _ | ⟨a0, us⟩
  · cases hl
  rcases us with _ | ⟨a1, us⟩
  · cases hl
  rcases us with _ | ⟨b, us⟩
  · exact h a0 a1
  · cases hl
theorem bl3 {fd : FuncData} {ps : List Str} (h : ∀ a0 a1 a2 : Value, bindArgs fd ⟨[a0, a1, a2], []⟩ = pure (ps.zip [a0, a1, a2])) (us : List Value) (hl : us.length = 3) : bindArgs fd ⟨us, []⟩ = pure (ps.zip us) := by
  rcases us with _ | ⟨a0, us⟩
  · cases hl
  rcases us with _ | ⟨a1, us⟩
  · cases hl
  rcases us with _ | ⟨a2, us⟩
  · cases hl
  rcases us with _ | ⟨b, us⟩
  · exact h a0 a1 a2
  · cases hl
theorem bl4 {fd : FuncData} {ps : List Str} (h : ∀ a0 a1 a2 a3 : Value, bindArgs fd ⟨[a0, a1, a2, a3], []⟩ = pure (ps.zip [a0, a1, a2, a3])) (us : List Value) (hl : us.length = 4) : bindArgs fd ⟨us, []⟩ = pure (ps.zip us) := by
  rcases us with _ | ⟨a0, us⟩
  · cases hl
  rcases us with _ | ⟨a1, us⟩
  · cases hl
  rcases us with _ | ⟨a2, us⟩
  · cases hl
  rcases us with _ | ⟨a3, us⟩
  · cases hl
  rcases us with _ | ⟨b, us⟩
  · exact h a0 a1 a2 a3
  · cases hl
theorem bl5 {fd : FuncData} {ps : List Str} (h : ∀ a0 a1 a2 a3 a4 : Value, bindArgs fd ⟨[a0, a1, a2, a3, a4], []⟩ = pure (ps.zip [a0, a1, a2, a3, a4])) (us : List Value) (hl : us.length = 5) : bindArgs fd ⟨us, []⟩ = pure (ps.zip us) := by
  rcases us with _ | ⟨a0, us⟩
  · cases hl
  rcases us with _ | ⟨a1, us⟩
  · cases hl
  rcases us with _ | ⟨a2, us⟩
  · cases hl
  rcases us with _ | ⟨a3, us⟩
  · cases hl
  rcases us with _ | ⟨a4, us⟩
  · cases hl
  rcases us with _ | ⟨b, us⟩
  · exact h a0 a1 a2 a3 a4
  · cases hl
section
variable {P : Program} {w : World} {K : PySem.W.Frag} {mg : Str → Option Value} {base : Heap} {t : Adr}
def sp_called (z : Str) : Sp := fun vs H Q _ => ∃ v, vs = [v] ∧ Q (.str z) H
end
section
variable {P : Program} {w : World} {K : PySem.W.Frag} {mg : Str → Option Value} {base : Heap} {t : Adr}
theorem z0 (i : Nat) : (0 + (i : Int)).toNat = i := by omega
theorem kit_same (K : PySem.W.Frag) (n : String) : PySem.W.kitOne K (.type n) (.type n) = some true := if_pos (beq_self_eq_true _)
theorem small40 {n : Nat} (h : n ≤ 40) : n ≤ sizeLine := Nat.le_trans h (by decide)
def sp_ccount : Sp := fun vs H Q _ => ∃ c : Nat, vs = [.int (c : Int)] ∧ 1 ≤ c ∧ c ≤ 40 ∧ Q .non H
theorem ok_check_count (T : Txt K mg t) : FnOk P w K mg base CX0 1 t.f_check_count t.d_check_count ["count"] sp_ccount := by
  refine T.check_count.F.ok sc_check_count (fun vs H Q E h => ?_) (fun cdv A outer s H vs Q E hr h => ?_)
  · obtain ⟨c, rfl, _⟩ := h
    rfl
  · obtain ⟨c, rfl, h1, h2, k⟩ := h
    refine ⟨_, (pss_one (ps_if (PW.pt (pw_or (pt_cmpR op_lt (pv 0) pe_int (nomark _)) (pw_or1 (pt_cmpR op_gt (pv 0) (pe_glob (v := .int 40) rfl T.c_MOST_STRANDS.choose_spec ⟨_, rfl⟩) (nomark _)))))
        (pss_one ps_never)
        pss_nil)), ?_⟩
    refine ⟨_, rfl, _, _, rfl, rfl, _, rfl, ?_⟩
    refine iteDn (by omega) ?_
    refine ⟨_, rfl, _, _, rfl, rfl, _, rfl, ?_⟩
    exact iteDn (by omega) k
def sp_cshaft : Sp := fun vs H Q _ => ∃ v : Int, vs = [.int v] ∧ 0 ≤ v ∧ v < 40 ∧ Q .non H
theorem ok_check_shaft (T : Txt K mg t) : FnOk P w K mg base CX0 1 t.f_check_shaft t.d_check_shaft ["shaft"] sp_cshaft := by
  refine T.check_shaft.F.ok sc_check_shaft (fun vs H Q E h => ?_) (fun cdv A outer s H vs Q E hr h => ?_)
  · obtain ⟨v, rfl, _⟩ := h
    rfl
  · obtain ⟨v, rfl, h1, h2, k⟩ := h
    refine ⟨_, (pss_one (ps_if (PW.pt (pw_or (pt_cmpR op_lt (pv 0) pe_int (nomark _)) (pw_or1 (pt_cmpR op_ge (pv 0) (pe_glob (v := .int 40) rfl T.c_MOST_SHAFTS.choose_spec ⟨_, rfl⟩) (nomark _)))))
        (pss_one ps_never)
        pss_nil)), ?_⟩
    refine ⟨_, rfl, _, _, rfl, rfl, _, rfl, ?_⟩
    refine iteDn (by omega) ?_
    refine ⟨_, rfl, _, _, rfl, rfl, _, rfl, ?_⟩
    exact iteDn (by omega) k
def sp_ctie : Sp := fun vs H Q _ => ∃ (a : Addr) (ks : List Int), vs = [.ref a] ∧ H a = some (.lst (vI ks)) ∧ Rs ks ∧ ks.length ≤ 1000 ∧ Q .non H
theorem ok_check_tie (T : Txt K mg t) : FnOk P w K mg base CX0 2 t.f_check_tie t.d_check_tie ["tie"] sp_ctie := by
  have G_check_shaft : FnOk P w K mg base CX0 1 t.f_check_shaft t.d_check_shaft _ _ := ok_check_shaft T
  refine T.check_tie.F.ok sc_check_tie (fun vs H Q E h => ?_) (fun cdv A outer s H vs Q E hr h => ?_)
  · obtain ⟨a, ks, rfl, _⟩ := h
    rfl
  · obtain ⟨a, ks, rfl, ha, R, hl, k⟩ := h
    refine ⟨_, (pss_one (ps_for PassesOwn.never rfl (pi_range1 rfl T.b_range (pa_cons (pe_callB (call_len_seqK (K := K)) rfl T.b_len bt_len (pa_cons (pv 0) pa_nil)) pa_nil)) (pg_name (i := 1) sc_check_tie.nd rfl (Or.inl rfl))
        (pss_cons (ps_expr (pe_call (G_check_shaft.mono (by decide)) hr rfl T.check_shaft.m T.check_shaft.F.kp T.check_shaft.b .nil pass0 (pa_cons (pe_ix (ix_listK (K := K)) (pv 0) (pv 1) (fun _ _ => rfl)) pa_nil)))
        (pss_one (ps_if (PW.pt (pw_and (pt_cmpR op_gt (pv 1) pe_int (nomark _)) (pw_and1 (pt_cmpR op_le (pe_ix (ix_listK (K := K)) (pv 0) (pv 1) (fun _ _ => rfl)) (pe_ix (ix_listK (K := K)) (pv 0) (pe_op op_sub (pv 1) pe_int) (fun _ _ => rfl)) (nomark _)))))
          (pss_one ps_never)
          pss_nil))))), ?_⟩
    refine ⟨_, rfl, _, _, rfl, .inl (SqL.of ha), _, rfl, (by omega), (by rw [vI_len]; omega), ?_⟩
    rw [Int.toNat_natCast, vI_len]
    refine for_range (lo := 0) (n := ks.length) (fun i σ H2 => ∃ v, σ = [some (.ref a), v] ∧ H2 = H) ⟨none, rfl, rfl⟩ ?_ ?_
    · rintro i σ H2 hi ⟨v, rfl, rfl⟩
      have e1 : atI (vI ks) (0 + (i : Int)) = some (.int ks[i]) := atI_of (by omega) (by rw [z0]; exact vI_get (List.getElem?_eq_getElem hi))
      have b := R.2 _ (List.getElem_mem hi)
      refine ⟨_, rfl, _, rfl, _, _, _, _, rfl, rfl, SqL.of ha, e1, _, rfl, b.1, b.2, ?_⟩
      refine ⟨_, rfl, _, _, rfl, rfl, _, rfl, ?_⟩
      by_cases h0 : i = 0
      · subst h0
        refine iteDn (by omega) ?_
        exact iteF ⟨_, rfl, rfl⟩
      · have hi1 : i - 1 < ks.length := by omega
        have e2 : atI (vI ks) (0 + (i : Int) - 1) = some (.int ks[i - 1]) := atI_of (by omega) (by rw [show (0 + (i : Int) - 1).toNat = i - 1 by omega]; exact vI_get (List.getElem?_eq_getElem hi1))
        have lt := R.1 (i - 1) ks[i - 1] ks[i] (List.getElem?_eq_getElem hi1) (by rw [show i - 1 + 1 = i by omega]; exact List.getElem?_eq_getElem hi)
        refine iteDp (by omega) ?_
        refine ⟨_, rfl, _, rfl, _, _, _, _, rfl, rfl, SqL.of ha, e1, _, rfl, _, rfl, _, _, rfl, rfl, _, _, _, _, rfl, rfl, SqL.of ha, e2, _, _, rfl, rfl, _, rfl, ?_⟩
        refine iteDn (by omega) ?_
        exact ⟨_, rfl, rfl⟩
    · rintro σ H2 ⟨v, rfl, rfl⟩
      exact k
structure NL (H : Hp) (y : Addr) (rs : List Addr) (tss : List (List Int)) : Prop where
  h : H y = some (.lst (rs.map V.ref))
  l : rs.length = tss.length
  r : ∀ (i : Nat) (a : Addr) (ks : List Int), rs[i]? = some a → tss[i]? = some ks → H a = some (.lst (vI ks))
theorem NL.same {H H' : Hp} {y : Addr} {rs : List Addr} {tss : List (List Int)} (N : NL H y rs tss) (s : Same H H') : NL H' y rs tss := ⟨s _ _ N.h, N.l, fun i a ks h1 h2 => s _ _ (N.r i a ks h1 h2)⟩
theorem NL.at {H : Hp} {y : Addr} {rs : List Addr} {tss : List (List Int)} (N : NL H y rs tss) {i : Nat} {a : V} (h : (rs.map V.ref)[i]? = some a) : ∃ r ks, a = .ref r ∧ rs[i]? = some r ∧ tss[i]? = some ks ∧ H r = some (.lst (vI ks)) := by
  rw [List.getElem?_map] at h
  cases e : rs[i]? with
  | none => rw [e] at h; cases h
  | some r =>
    rw [e] at h
    cases h
    have hi : i < tss.length := by rw [← N.l]; exact (List.getElem?_eq_some_iff.mp e).1
    exact ⟨r, tss[i], rfl, rfl, List.getElem?_eq_getElem hi, N.r i r _ e (List.getElem?_eq_getElem hi)⟩
theorem rs_short {ks : List Int} (R : Rs ks) : ks.length ≤ 1000 := by
  have step : ∀ (i : Nat) (a : Int), ks[i]? = some a → (i : Int) ≤ a := by
    intro i
    induction i with
    | zero => exact fun a h => (R.2 a (List.mem_of_getElem? h)).1
    | succ i ih =>
      intro a h
      have hi : i < ks.length := by have := (List.getElem?_eq_some_iff.mp h).1; omega
      have := ih ks[i] (List.getElem?_eq_getElem hi)
      have := R.1 i ks[i] a (List.getElem?_eq_getElem hi) h
      omega
  by_cases h : ks.length = 0
  · omega
  · have hi : ks.length - 1 < ks.length := by omega
    have h1 := step (ks.length - 1) _ (List.getElem?_eq_getElem hi)
    have h2 := R.2 _ (List.getElem_mem hi)
    omega
def sp_csetting : Sp := fun vs H Q _ => ∃ (x y : Addr) (rs : List Addr) (th : List Int) (tss : List (List Int)) (tr : List Int), vs = [.ref x, .ref y] ∧ H x = some (.lst (vI th)) ∧ NL H y rs tss ∧ Ft th tss tr ∧ Q .non H
theorem ok_check_setting (T : Txt K mg t) : FnOk P w K mg base CX0 3 t.f_check_setting t.d_check_setting ["threading", "ties"] sp_csetting := by
  have G_check_count : FnOk P w K mg base CX0 1 t.f_check_count t.d_check_count _ _ := ok_check_count T
  have G_check_shaft : FnOk P w K mg base CX0 1 t.f_check_shaft t.d_check_shaft _ _ := ok_check_shaft T
  have G_check_tie : FnOk P w K mg base CX0 2 t.f_check_tie t.d_check_tie _ _ := ok_check_tie T
  refine T.check_setting.F.ok sc_check_setting (fun vs H Q E h => ?_) (fun cdv A outer s H vs Q E hr h => ?_)
  · obtain ⟨x, y, rs, th, tss, tr, rfl, _⟩ := h
    rfl
  · obtain ⟨x, y, rs, th, tss, tr, rfl, hx, N, F, k⟩ := h
    refine ⟨_, (pss_cons (ps_expr (pe_call (G_check_count.mono (by decide)) hr rfl T.check_count.m T.check_count.F.kp T.check_count.b .nil pass0 (pa_cons (pe_callB (call_len_seqK (K := K)) rfl T.b_len bt_len (pa_cons (pv 0) pa_nil)) pa_nil)))
      (pss_cons (ps_expr (pe_call (G_check_count.mono (by decide)) hr rfl T.check_count.m T.check_count.F.kp T.check_count.b .nil pass0 (pa_cons (pe_callB (call_len_seqK (K := K)) rfl T.b_len bt_len (pa_cons (pv 1) pa_nil)) pa_nil)))
      (pss_cons (ps_for PassesOwn.never rfl (pi_listK (K := K) (pv 0)) (pg_name (i := 2) sc_check_setting.nd rfl (Or.inl rfl))
        (pss_one (ps_expr (pe_call (G_check_shaft.mono (by decide)) hr rfl T.check_shaft.m T.check_shaft.F.kp T.check_shaft.b .nil pass0 (pa_cons (pv 2) pa_nil)))))
      (pss_one (ps_for PassesOwn.never rfl (pi_listK (K := K) (pv 1)) (pg_name (i := 3) sc_check_setting.nd rfl (Or.inl rfl))
        (pss_one (ps_expr (pe_call (G_check_tie.mono (by decide)) hr rfl T.check_tie.m T.check_tie.F.kp T.check_tie.b .nil pass0 (pa_cons (pv 3) pa_nil))))))))), ?_⟩
    refine ⟨_, rfl, _, _, rfl, .inl (SqL.of hx), th.length, (by rw [vI_len] <;> rfl), F.m1, F.m40, ?_⟩
    refine ⟨_, rfl, _, _, rfl, .inl (SqL.of N.h), tss.length, (by rw [List.length_map, N.l] <;> rfl), F.t1, F.t40, ?_⟩
    refine ⟨_, rfl, _, rfl, ⟨_, SqL.of hx⟩, for_list (K := K) (a := x) (xs := vI th) (fun i σ H2 => ∃ v1 v2, σ = [some (.ref x), some (.ref y), v1, v2] ∧ H2 = H) ⟨none, none, rfl, rfl⟩ (fun i σ H2 _ ⟨_, _, _, e⟩ => e ▸ SqL.of hx) ?_ ?_⟩
    · rintro i xv σ H2 hxv ⟨v1, v2, rfl, rfl⟩
      obtain ⟨z, hz, rfl⟩ := vI_got hxv
      have b := F.hth z (List.mem_of_getElem? hz)
      exact ⟨_, rfl, z, rfl, b.1, b.2, _, _, rfl, rfl⟩
    · rintro σ H2 ⟨v1, v2, rfl, rfl⟩
      refine ⟨_, rfl, _, rfl, ⟨_, SqL.of N.h⟩, for_list (K := K) (a := y) (xs := rs.map V.ref) (fun i σ H3 => ∃ v1 v2, σ = [some (.ref x), some (.ref y), v1, v2] ∧ H3 = H2) ⟨v1, v2, rfl, rfl⟩ (fun i σ H3 _ ⟨_, _, _, e⟩ => e ▸ SqL.of N.h) ?_ ?_⟩
      · rintro i xv σ H3 hxv ⟨v1, v2, rfl, rfl⟩
        obtain ⟨r, ks, rfl, _, hks, hr'⟩ := N.at hxv
        have R := F.hti ks (List.mem_of_getElem? hks)
        exact ⟨_, rfl, r, ks, rfl, hr', R, rs_short R, _, _, rfl, rfl⟩
      · rintro σ H3 ⟨v1, v2, rfl, rfl⟩
        exact k
def sp_ctreading : Sp := fun vs H Q _ => ∃ (z : Addr) (th : List Int) (tss : List (List Int)) (tr : List Int), vs = [.ref z, .int (tss.length : Int)] ∧ H z = some (.lst (vI tr)) ∧ Ft th tss tr ∧ Q .non H
def SameB (r : Addr) (H H' : Hp) : Prop := ∀ b o, b ≠ r → H b = some o → H' b = some o
def df (a b c : Addr) : List (Str × V) := [("threading", .ref a), ("ties", .ref b), ("treading", .ref c)]
theorem NL.other {H H' : Hp} {r C dx y : Addr} {fs : List (Str × V)} {rs : List Addr} {tss : List (List Int)} (N : NL H y rs tss) (b : SameB r H H') (hr : H r = some (.ins C dx fs)) : NL H' y rs tss :=
  ⟨b _ _ (fun e => by have := N.h; rw [e, hr] at this; cases this) N.h, N.l, fun i a ks h1 h2 => b _ _ (fun e => by have := N.r i a ks h1 h2; rw [e, hr] at this; cases this) (N.r i a ks h1 h2)⟩
structure IsD (t : Adr) (H : Hp) (d dx a b c : Addr) (qs : List Addr) (th : List Int) (tss : List (List Int)) (tr : List Int) : Prop where
  o : H d = some (.ins t.e_Draft dx (df a b c))
  ha : H a = some (.lst (vI th))
  hb : NL H b qs tss
  hc : H c = some (.lst (vI tr))
def sp_dinit (t : Adr) : Sp := fun vs H Q _ => ∃ (r dx x y z : Addr) (rs : List Addr) (th : List Int) (tss : List (List Int)) (tr : List Int), vs = [.ref r, .ref x, .ref y, .ref z] ∧ H r = some (.ins t.e_Draft dx []) ∧ H x = some (.lst (vI th)) ∧ NL H y rs tss ∧ H z = some (.lst (vI tr)) ∧ Ft th tss tr ∧
  ∀ a b c qs H', SameB r H H' → H a = none → H b = none → H c = none → (∀ q ∈ qs, H q = none) → IsD t H' r dx a b c qs th tss tr → Q .non H'
theorem e35 : (V.str ⟨#[35]⟩ : V) = V.str "#" := congrArg V.str (by decide +kernel)
theorem e46 : (V.str ⟨#[46]⟩ : V) = V.str "." := congrArg V.str (by decide +kernel)
def sp_shed : Sp := fun vs H Q _ => ∃ (x l : Addr) (th ks : List Int), vs = [.ref x, .ref l] ∧ H x = some (.lst (vI th)) ∧ H l = some (.lst (vI ks)) ∧ th.length ≤ 40 ∧ ∀ H', Same H H' → Q (.str (tx (shd th ks))) H'
theorem ok_shed_over (T : Txt K mg t) : FnOk P w K mg base CX0 1 t.f_shed_over t.d_shed_over ["threading", "lifted"] sp_shed := by
  refine T.shed_over.F.ok sc_shed_over (fun vs H Q E h => ?_) (fun cdv A outer s H vs Q E hr h => ?_)
  · obtain ⟨x, l, th, ks, rfl, _⟩ := h
    rfl
  · obtain ⟨x, l, th, ks, rfl, hx, hl, h40, k⟩ := h
    refine ⟨_, (pss_one (ps_ret (pe_bmK (K := K) PySem.F.plainAttrs_str PySem.F.slot_str_join PySem.F.type_str_join (mt_joinK (K := K)) pe_str (pa_cons (pe_comp (CompOk.mk (caps := [1]) (Nc := ["shaft", "lifted"]) rfl (by decide +kernel) (by decide +kernel) (comp_fr (sc0 := defScope s_shed_over) rfl (by decide +kernel)) rfl rfl rfl (by decide +kernel) (fun k j h => match k, h with | 0, h => by obtain rfl := Option.some.inj h; exact ⟨_, rfl, rfl, rfl⟩ | _ + 1, h => by simp at h)) rfl (pi_listK (K := K) (pv 0)) (fun _ _ _ _ _ => .nil) (fun _ _ _ _ _ => (pe_ifExp (pt_cmpR (op_in_seqK (K := K)) (pv 0) (pv 1) rfl) pe_str pe_str))) pa_nil)))), ?_⟩
    refine ⟨rfl, _, rfl, _, rfl, ⟨_, SqL.of hx⟩, comp_list (K := K) (a := x) (xs := vI th) (fun i ys H2 => H2 = H ∧ ys = vS ((th.take i).map fun s => [if s ∈ ks then 35 else 46])) ⟨rfl, rfl⟩ ?_ ?_ ?_ ?_⟩
    · rintro i ys H2 hi ⟨rfl, rfl⟩
      refine ⟨SqL.of hx, ?_⟩
      rw [vS_len, List.length_map, List.length_take]
      omega
    · rw [vI_len]; exact small40 h40
    · rintro i xv ys H2 hi hxv ⟨rfl, rfl⟩
      obtain ⟨z, hz, rfl⟩ := vI_got hxv
      refine CTurn.no ?_
      have fin : ∀ d, d = (if z ∈ ks then 35 else 46) → CN (vI th).length (fun i ys H2' => H2' = H2 ∧ ys = vS ((th.take i).map fun s => [if s ∈ ks then 35 else 46])) i (vS ((th.take i).map fun s => [if s ∈ ks then 35 else 46]) ++ [.str (tx [d])]) H2 := fun d hd => by
        subst hd
        refine CN.of hi ⟨rfl, ?_⟩
        rw [vS_app, List.take_add_one, hz, List.map_append]
        rfl
      refine ⟨_, rfl, _, rfl, _, _, rfl, .inl (SqL.of hl), rfl, vI_flat _, _, rfl, ?_⟩
      show if (inV (.int z) (vI ks)) = true then _ else _
      rw [inV_vI]
      refine ite2D (fun h => ?_) (fun h => ?_)
      · have := fin 35 (by rw [if_pos h])
        rw [← tx_one, e35] at this
        exact this
      · have := fin 46 (by rw [if_neg h])
        rw [← tx_one, e46] at this
        exact this
    · rintro ys H2 p ⟨rfl, rfl⟩ hp
      rw [vI_len, List.take_length]
      refine ⟨_, _, ((th.map fun s => [if s ∈ ks then 35 else 46]).map tx), rfl, rfl, SqL.of (by rw [upd_same, vS_map]), ?_, ?_⟩
      · have e1 := sum1 (fun s : Int => if s ∈ ks then 35 else 46) th
        rw [e1, List.length_map, List.length_map]
        have : th.length * (Str.length "") = 0 := by rw [show Str.length "" = 0 from by decide +kernel]; omega
        omega
      · rw [show (("" : Str)) = tx [] from by decide +kernel, tx_join]
        have e2 := flat1 (fun s : Int => if s ∈ ks then 35 else 46) th
        rw [e2]
        exact k _ (.upd hp)
def lf (a b c e g : Addr) : List (Str × V) := [("threading", .ref a), ("ties", .ref b), ("down", .ref c), ("thrown", .ref e), ("deeds", .ref g)]
theorem lf_th (a b c e g : Addr) : (lf a b c e g).lookup ("threading" : Str) = some (V.ref a) := rfl
theorem lf_ti (a b c e g : Addr) : (lf a b c e g).lookup ("ties" : Str) = some (V.ref b) := rfl
theorem lf_dn (a b c e g : Addr) : (lf a b c e g).lookup ("down" : Str) = some (V.ref c) := rfl
theorem lf_tn (a b c e g : Addr) : (lf a b c e g).lookup ("thrown" : Str) = some (V.ref e) := rfl
theorem lf_ds (a b c e g : Addr) : (lf a b c e g).lookup ("deeds" : Str) = some (V.ref g) := rfl
structure IsM (t : Adr) (H : Hp) (m dx a b c e g : Addr) (qs : List Addr) (th : List Int) (tss : List (List Int)) (dn : List Int) (tn ds : List V) : Prop where
  o : H m = some (.ins t.e_Loom dx (lf a b c e g))
  ha : H a = some (.lst (vI th))
  hb : NL H b qs tss
  hc : H c = some (.lst (vI dn))
  he : H e = some (.lst tn)
  hg : H g = some (.lst ds)
theorem IsM.same {H H' : Hp} {m dx a b c e g : Addr} {qs : List Addr} {th : List Int} {tss : List (List Int)} {dn : List Int} {tn ds : List V} (D : IsM t H m dx a b c e g qs th tss dn tn ds) (s : Same H H') : IsM t H' m dx a b c e g qs th tss dn tn ds := ⟨s _ _ D.o, s _ _ D.ha, D.hb.same s, s _ _ D.hc, s _ _ D.he, s _ _ D.hg⟩
def sp_linit (t : Adr) : Sp := fun vs H Q _ => ∃ (r dx x y : Addr) (rs : List Addr) (th : List Int) (tss : List (List Int)) (tr : List Int), vs = [.ref r, .ref x, .ref y] ∧ H r = some (.ins t.e_Loom dx []) ∧ H x = some (.lst (vI th)) ∧ NL H y rs tss ∧ Ft th tss tr ∧
  (∀ a b c e g qs H', SameB r H H' → (∀ q ∈ g :: e :: c :: b :: a :: qs, H q = none) → (g :: e :: c :: b :: a :: qs).Nodup → IsM t H' r dx a b c e g qs th tss [] [] [] → Q .non H')
theorem put_new {H : Hp} {r dx C c : Addr} {n : Str} {fs : List (Str × V)} {xs : List V} (hr : H r = some (.ins C dx fs)) (nc : H c = none) : (∀ b o, b ≠ r → H b = some o → (upd (upd H c (.lst xs)) r (.ins C dx (putF n (.ref c) fs))) b = some o) ∧ (upd (upd H c (.lst xs)) r (.ins C dx (putF n (.ref c) fs))) r = some (.ins C dx (putF n (.ref c) fs)) ∧ (upd (upd H c (.lst xs)) r (.ins C dx (putF n (.ref c) fs))) c = some (.lst xs) ∧ c ≠ r := by
  have ncr : c ≠ r := fun e => by rw [e, hr] at nc; cases nc
  refine ⟨fun b o nb e => by rw [upd_ne nb]; exact (Same.upd nc) _ _ e, upd_same, by rw [upd_ne ncr]; exact upd_same, ncr⟩
theorem ok_Loom___init__ (T : Txt K mg t) : FnOk P w K mg base CX0 4 t.f_Loom___init__ t.d_Loom___init__ ["self", "threading", "ties"] (sp_linit t) := by
  have G_check_setting : FnOk P w K mg base CX0 3 t.f_check_setting t.d_check_setting _ _ := ok_check_setting T
  refine T.m_Loom___init__.F.ok sc_Loom___init__ (fun vs H Q E h => ?_) (fun cdv A outer s H vs Q E hr h => ?_)
  · obtain ⟨r, dx, x, y, rs, th, tss, tr, rfl, _⟩ := h
    rfl
  · obtain ⟨r, dx, x, y, rs, th, tss, tr, rfl, hr1, hx, N, F, k⟩ := h
    have l2 : tss.length ≤ 1000 := Nat.le_trans F.t40 (by decide)
    have hsz : sizeLine = 16777216 := sizeLine_eq
    refine ⟨_, (pss_cons (ps_expr (pe_call (G_check_setting.mono (by decide)) hr rfl T.check_setting.m T.check_setting.F.kp T.check_setting.b .nil pass0 (pa_cons (pv 1) (pa_cons (pv 2) pa_nil))))
      (pss_cons (ps_fldK (K := K) (pv 0) (pe_callTy (call_list_ofK (K := K)) rfl T.b_list bt_list (pa_cons (pv 1) pa_nil)))
      (pss_cons (ps_fldK (K := K) (pv 0) (pe_comp (CompOk.mk (caps := []) (Nc := ["tie"]) rfl (by decide +kernel) (by decide +kernel) (comp_fr (sc0 := defScope s_Loom___init__) rfl (by decide +kernel)) rfl rfl rfl (by decide +kernel) (fun _ _ h => by simp at h)) rfl (pi_listK (K := K) (pv 2)) (fun _ _ _ _ _ => .nil) (fun _ _ _ _ _ => (pe_callTy (call_list_ofK (K := K)) rfl T.b_list bt_list (pa_cons (pv 0) pa_nil)))))
      (pss_cons (ps_fldK (K := K) (pv 0) (pe_lst pa_nil))
      (pss_cons (ps_fldK (K := K) (pv 0) (pe_lst pa_nil))
      (pss_one (ps_fldK (K := K) (pv 0) (pe_lst pa_nil)))))))), ?_⟩
    refine ⟨_, rfl, _, rfl, x, y, rs, th, tss, tr, rfl, hx, N, F, ?_⟩
    refine ⟨_, rfl, _, _, rfl, .inl (SqL.of hx), fun a na => ?_⟩
    have s1 : Same H (upd H a (.lst (vI th))) := .upd na
    refine ⟨_, rfl, _, _, _, _, rfl, s1 _ _ hr1, T.o_Loom.c, T.na_Loom_threading, (by decide), ?_⟩
    obtain ⟨b2, hr2, ha2, nra⟩ := put_new (n := "threading") (xs := vI th) hr1 na
    generalize upd (upd H a (.lst (vI th))) r (.ins t.e_Loom dx (putF "threading" (.ref a) [])) = H2 at b2 hr2 ha2 ⊢
    have fre : ∀ q, H2 q = none → H q = none := fun q hq => by
      have nq : q ≠ r := fun e => by rw [e, hr2] at hq; cases hq
      cases e : H q with
      | none => rfl
      | some o => rw [b2 q o nq e] at hq; cases hq
    have N2 := N.other b2 hr1
    refine ⟨_, rfl, _, rfl, ⟨_, SqL.of N2.h⟩, comp_list (K := K) (a := y) (xs := rs.map V.ref) (fun i ys H3 => Same H2 H3 ∧ ∃ qs : List Addr, ys = qs.map V.ref ∧ qs.length = i ∧ qs.Nodup ∧ (∀ q ∈ qs, H2 q = none ∧ H3 q ≠ none) ∧ ∀ (j : Nat) (q : Addr) (ks : List Int), qs[j]? = some q → tss[j]? = some ks → H3 q = some (.lst (vI ks)))
      ⟨.refl _, [], rfl, rfl, .nil, fun q hq => (by cases hq), fun j q ks h => (by simp at h)⟩ ?_ ?_ ?_ ?_⟩
    · rintro i ys H3 hi ⟨s3, qs, rfl, hq, _⟩
      exact ⟨SqL.of (s3 _ _ N2.h), by rw [List.length_map]; omega⟩
    · rw [List.length_map, N.l]; omega
    · rintro i xv ys H3 hi hxv ⟨s3, qs, rfl, hq, nd, nq, hqs⟩
      obtain ⟨r', ks', rfl, _, hks, hr'⟩ := N2.at hxv
      refine CTurn.no ?_
      refine ⟨_, rfl, _, _, rfl, .inl (SqL.of (s3 _ _ hr')), fun l nl => ?_⟩
      refine CN.of hi ⟨s3.new nl, qs ++ [l], by rw [List.map_append]; rfl, by rw [List.length_append, hq]; rfl, ?_, fun q h => ?_, fun j q ks h1 h2 => ?_⟩
      · rw [List.nodup_append]
        refine ⟨nd, by simp, fun u hu v hv e => ?_⟩
        rw [List.mem_singleton.mp hv] at e
        rw [e] at hu
        exact (nq l hu).2 nl
      · rcases List.mem_append.mp h with h | h
        · refine ⟨(nq q h).1, ?_⟩
          cases e : H3 q with
          | none => exact absurd e (nq q h).2
          | some o => rw [(Same.upd nl) _ _ e]; exact fun z => by cases z
        · rw [List.mem_singleton.mp h]; exact ⟨s3.free nl, by rw [upd_same]; exact fun z => by cases z⟩
      · by_cases hj : j < qs.length
        · rw [List.getElem?_append_left hj] at h1
          exact (Same.upd nl) _ _ (hqs j q ks h1 h2)
        · rw [List.getElem?_append_right (by omega)] at h1
          have e0 : j = i := by
            have := (List.getElem?_eq_some_iff.mp h1).1
            simp at this
            omega
          rw [show j - qs.length = 0 by omega] at h1
          have e1 : l = q := by simpa using h1
          rw [e0, hks] at h2
          cases h2
          rw [← e1]
          exact upd_same
    · rintro ys H3 b ⟨s3, qs, rfl, hq, nd, nq, hqs⟩ nb
      rw [List.length_map, N.l] at hq
      have s4 : Same H2 (upd H3 b (.lst (qs.map V.ref))) := s3.new nb
      refine ⟨_, rfl, _, _, _, _, rfl, s4 _ _ hr2, T.o_Loom.c, T.na_Loom_ties, (by show 1 < 1000; decide), ?_⟩
      obtain ⟨b5, hr5, hb5, nbr⟩ := put_new (n := "ties") (xs := qs.map V.ref) (s3 _ _ hr2) nb
      generalize upd (upd H3 b (.lst (qs.map V.ref))) r (.ins t.e_Loom dx (putF "ties" (.ref b) (putF "threading" (.ref a) []))) = H5 at b5 hr5 hb5 ⊢
      have nqr : ∀ q ∈ qs, q ≠ r := fun q h e => by have := (nq q h).1; rw [e, hr2] at this; cases this
      have q5 : ∀ q ∈ qs, H5 q ≠ none := fun q h => by
        cases e : H3 q with
        | none => exact absurd e (nq q h).2
        | some o => rw [b5 q o (nqr q h) e]; exact fun z => by cases z
      have hq5 : ∀ (j : Nat) (q : Addr) (ks : List Int), qs[j]? = some q → tss[j]? = some ks → H5 q = some (.lst (vI ks)) := fun j q ks h1 h2 => b5 _ _ (nqr q (List.mem_of_getElem? h1)) (hqs j q ks h1 h2)
      have ha5 : H5 a = some (.lst (vI th)) := b5 _ _ nra (s3 _ _ ha2)
      have f5 : ∀ q, H5 q = none → H q = none := fun q h => fre q (by
        have nqr' : q ≠ r := fun e => by rw [e, hr5] at h; cases h
        cases e : H2 q with
        | none => rfl
        | some o => rw [b5 q o nqr' (s3 _ _ e)] at h; cases h)
      have pr : ∀ {H6 : Hp} {u : Addr}, (∀ b o, b ≠ r → H5 b = some o → H6 b = some o) → H6 u = none → u ≠ b ∧ u ≠ a ∧ u ∉ qs := fun {H6 u} kk nu => by
        refine ⟨fun e => ?_, fun e => ?_, fun hm => ?_⟩
        · rw [e, kk _ _ nbr hb5] at nu; cases nu
        · rw [e, kk _ _ nra ha5] at nu; cases nu
        · cases e : H5 u with
          | none => exact q5 u hm e
          | some o => rw [kk _ _ (nqr u hm) e] at nu; cases nu
      refine ⟨Nat.zero_le _, fun c nc => ⟨_, rfl, _, _, _, _, rfl, (Same.upd nc) _ _ hr5, T.o_Loom.c, T.na_Loom_down, (by show 2 < 1000; decide), ?_⟩⟩
      obtain ⟨b6, hr6, hc6, ncr⟩ := put_new (n := "down") (xs := []) hr5 nc
      generalize upd (upd H5 c (.lst [])) r (.ins t.e_Loom dx (putF "down" (.ref c) (putF "ties" (.ref b) (putF "threading" (.ref a) [])))) = H6 at b6 hr6 hc6 ⊢
      refine ⟨Nat.zero_le _, fun e ne => ⟨_, rfl, _, _, _, _, rfl, (Same.upd ne) _ _ hr6, T.o_Loom.c, T.na_Loom_thrown, (by show 3 < 1000; decide), ?_⟩⟩
      obtain ⟨b7, hr7, he7, ner⟩ := put_new (n := "thrown") (xs := []) hr6 ne
      generalize upd (upd H6 e (.lst [])) r (.ins t.e_Loom dx (putF "thrown" (.ref e) (putF "down" (.ref c) (putF "ties" (.ref b) (putF "threading" (.ref a) []))))) = H7 at b7 hr7 he7 ⊢
      refine ⟨Nat.zero_le _, fun g ng => ⟨_, rfl, _, _, _, _, rfl, (Same.upd ng) _ _ hr7, T.o_Loom.c, T.na_Loom_deeds, (by show 4 < 1000; decide), ?_⟩⟩
      obtain ⟨b8, hr8, hg8, ngr⟩ := put_new (n := "deeds") (xs := []) hr7 ng
      have hr8' : (upd (upd H7 g (.lst [])) r (.ins t.e_Loom dx (putF "deeds" (.ref g) (putF "thrown" (.ref e) (putF "down" (.ref c) (putF "ties" (.ref b) (putF "threading" (.ref a) []))))))) r = some (.ins t.e_Loom dx (lf a b c e g)) := hr8
      generalize upd (upd H7 g (.lst [])) r (.ins t.e_Loom dx (putF "deeds" (.ref g) (putF "thrown" (.ref e) (putF "down" (.ref c) (putF "ties" (.ref b) (putF "threading" (.ref a) [])))))) = H8 at b8 hr8 hr8' hg8 ⊢
      have b67 : ∀ u o, u ≠ r → H5 u = some o → H7 u = some o := fun u o nu e => b7 _ _ nu (b6 _ _ nu e)
      have b58 : ∀ u o, u ≠ r → H5 u = some o → H8 u = some o := fun u o nu e => b8 _ _ nu (b67 _ _ nu e)
      obtain ⟨c1, c2, c3⟩ := pr (H6 := H5) (fun _ _ _ e => e) nc
      obtain ⟨e1, e2, e3⟩ := pr b6 ne
      obtain ⟨g1', g2, g3⟩ := pr b67 ng
      have ec : e ≠ c := fun z => by rw [z, hc6] at ne; cases ne
      have gc : g ≠ c := fun z => by rw [z, b7 _ _ ncr hc6] at ng; cases ng
      have ge : g ≠ e := fun z => by rw [z, he7] at ng; cases ng
      have ba : b ≠ a := fun z => by rw [z, s3 _ _ ha2] at nb; cases nb
      have bq : b ∉ qs := fun h => (nq b h).2 nb
      have aq : a ∉ qs := fun h => by have := (nq a h).1; rw [ha2] at this; cases this
      have fr6 : ∀ q, H6 q = none → H5 q = none := fun q h => by
        have nqr' : q ≠ r := fun e => by rw [e, hr6] at h; cases h
        cases e : H5 q with
        | none => rfl
        | some o => rw [b6 q o nqr' e] at h; cases h
      have fr7 : ∀ q, H7 q = none → H5 q = none := fun q h => by
        have nqr' : q ≠ r := fun e => by rw [e, hr7] at h; cases h
        cases e : H5 q with
        | none => rfl
        | some o => rw [b67 q o nqr' e] at h; cases h
      refine k a b c e g qs H8 (fun u o nu e => b58 _ _ nu (b5 _ _ nu (s3 _ _ (b2 _ _ nu e)))) (fun q hm => ?_) ?_ ⟨hr8', b58 _ _ nra ha5, ⟨b58 _ _ nbr hb5, hq, fun j q ks h1 h2 => b58 _ _ (nqr q (List.mem_of_getElem? h1)) (hq5 j q ks h1 h2)⟩, b8 _ _ ncr (b7 _ _ ncr hc6), b8 _ _ ner he7, hg8⟩
      · simp only [List.mem_cons] at hm
        rcases hm with rfl | rfl | rfl | rfl | rfl | hm
        · exact f5 _ (fr7 _ ng)
        · exact f5 _ (fr6 _ ne)
        · exact f5 _ nc
        · exact fre _ (s3.free nb)
        · exact na
        · exact fre _ (nq q hm).1
      · simp only [List.nodup_cons, List.mem_cons, not_or]
        exact ⟨⟨ge, gc, g1', g2, g3⟩, ⟨ec, e1, e2, e3⟩, ⟨c1, c2, c3⟩, ⟨ba, bq⟩, aq, nd⟩
theorem nodup_le : ∀ (m : Nat) (l : List Nat), l.Nodup → (∀ x ∈ l, x < m) → l.length ≤ m
  | 0, l, _, h => by
    cases l with
    | nil => exact Nat.le_refl _
    | cons a r => exact absurd (h a List.mem_cons_self) (by omega)
  | m + 1, l, n, h => by
    have := nodup_le m (l.erase m) (n.erase m) fun x hx => by
      have g := n.mem_erase_iff.mp hx
      have := h x g.2
      omega
    have e := List.length_erase (a := m) (l := l)
    split at e <;> omega
theorem nodup40 {ds : List Int} (n : ds.Nodup) (h : ∀ z ∈ ds, 0 ≤ z ∧ z < 40) : ds.length < 64 := by
  have := nodup_le 40 (ds.map Int.toNat) (by
    rw [List.Nodup, List.pairwise_map]
    refine n.imp_of_mem fun {a b} ha hb ne e => ne ?_
    have := h a ha
    have := h b hb
    omega) fun x hx => by
      obtain ⟨z, hz, rfl⟩ := List.mem_map.mp hx
      have := h z hz
      omega
  rw [List.length_map] at this
  omega
def lifts (tss : List (List Int)) (dn : List Int) : List Int := (dn.map fun d => tss.getD d.toNat []).flatten
theorem lifts_snoc (tss : List (List Int)) (dn : List Int) (d : Int) : lifts tss (dn ++ [d]) = lifts tss dn ++ tss.getD d.toNat [] := by unfold lifts; simp
theorem lifts_len {tss : List (List Int)} (h : ∀ ks ∈ tss, Rs ks) (dn : List Int) : (lifts tss dn).length ≤ 40 * dn.length := by
  induction dn with
  | nil => exact Nat.le_refl _
  | cons d r ih =>
    have e : lifts tss (d :: r) = tss.getD d.toNat [] ++ lifts tss r := rfl
    rw [e, List.length_append, List.length_cons]
    have : (tss.getD d.toNat []).length ≤ 40 := by
      by_cases c : d.toNat < tss.length
      · have R := h _ (List.getElem_mem c)
        rw [show tss.getD d.toNat [] = tss[d.toNat] by simp [List.getD, c]]
        have nd : tss[d.toNat].Pairwise (· < ·) := by
          rw [List.pairwise_iff_getElem]
          have up : ∀ (n i : Nat) (hi : i + 1 + n < tss[d.toNat].length), tss[d.toNat][i] < tss[d.toNat][i + 1 + n] := by
            intro n
            induction n with
            | zero => exact fun i hi => R.1 i _ _ (List.getElem?_eq_getElem (by omega)) (List.getElem?_eq_getElem hi)
            | succ n ihn =>
              intro i hi
              have a1 := ihn i (by omega)
              have a2 := R.1 (i + 1 + n) _ _ (List.getElem?_eq_getElem (by omega)) (List.getElem?_eq_getElem (show i + 1 + n + 1 < _ by omega))
              exact Int.lt_trans a1 a2
          intro i j hi hj hij
          have := up (j - i - 1) i (by omega)
          simpa [show i + 1 + (j - i - 1) = j by omega] using this
        have := nodup_le 40 (tss[d.toNat].map Int.toNat) (by
          rw [List.Nodup, List.pairwise_map]
          refine nd.imp_of_mem fun {a b} ha hb ne e => ?_
          have := R.2 a ha
          have := R.2 b hb
          omega) fun x hx => by
            obtain ⟨z, hz, rfl⟩ := List.mem_map.mp hx
            have := R.2 z hz
            omega
        rw [List.length_map] at this
        exact this
      · rw [show tss.getD d.toNat [] = [] by simp [List.getD, List.getElem?_eq_none (Nat.le_of_not_lt c)]]
        exact Nat.zero_le _
    omega
theorem lifts_mem {tss : List (List Int)} (h : ∀ ks ∈ tss, Rs ks) {dn : List Int} {z : Int} (hz : z ∈ lifts tss dn) : 0 ≤ z ∧ z < 40 := by
  unfold lifts at hz
  obtain ⟨l, hl, hz⟩ := List.mem_flatten.mp hz
  obtain ⟨d, _, rfl⟩ := List.mem_map.mp hl
  by_cases c : d.toNat < tss.length
  · rw [show tss.getD d.toNat [] = tss[d.toNat] by simp [List.getD, c]] at hz
    exact (h _ (List.getElem_mem c)).2 z hz
  · rw [show tss.getD d.toNat [] = [] by simp [List.getD, List.getElem?_eq_none (Nat.le_of_not_lt c)]] at hz
    cases hz
def sp_lift (t : Adr) : Sp := fun vs H Q _ => ∃ (m dx a b c e g : Addr) (qs : List Addr) (th : List Int) (tss : List (List Int)) (dn : List Int) (tn ds : List V), vs = [.ref m] ∧ IsM t H m dx a b c e g qs th tss dn tn ds ∧ (∀ ks ∈ tss, Rs ks) ∧ (∀ d ∈ dn, 0 ≤ d ∧ d < (tss.length : Int)) ∧ dn.length ≤ 64 ∧
  ∀ (l : Addr) (ks : List Int) (H' : Hp), Same H H' → H l = none → H' l = some (.lst (vI ks)) → (∀ z, z ∈ ks ↔ z ∈ lifts tss dn) → ks.Pairwise (· < ·) → Q (.ref l) H'
theorem ok_Loom_lifted_shafts (T : Txt K mg t) : FnOk P w K mg base CX0 1 t.f_Loom_lifted_shafts t.d_Loom_lifted_shafts ["self"] (sp_lift t) := by
  refine T.m_Loom_lifted_shafts.F.ok sc_Loom_lifted_shafts (fun vs H Q E h => ?_) (fun cdv A outer s H vs Q E hr h => ?_)
  · obtain ⟨m, dx, a, b, c, e, g, qs, th, tss, dn, tn, ds, rfl, _⟩ := h
    rfl
  · obtain ⟨m, dx, a, b, c, e, g, qs, th, tss, dn, tn, ds, rfl, D, hR, hd, dl, k⟩ := h
    have hsz : sizeLine = 16777216 := sizeLine_eq
    refine ⟨_, (pss_cons (ps_set (i := 1) sc_Loom_lifted_shafts.nd rfl (Or.inl rfl) (pe_lst pa_nil))
      (pss_cons (ps_for PassesOwn.never rfl (pi_listK (K := K) (pe_fldK (K := K) (pv 0) rfl)) (pg_name (i := 2) sc_Loom_lifted_shafts.nd rfl (Or.inl rfl))
        (pss_one (ps_expr (pe_bmK (K := K) PySem.F.plainAttrs_list PySem.F.slot_list_extend PySem.F.type_list_extend mt_extend (pv 1) (pa_cons (pe_ix (ix_listK (K := K)) (pe_fldK (K := K) (pv 0) rfl) (pv 2) (fun _ _ => rfl)) pa_nil)))))
      (pss_one (ps_ret (pe_sortSet (K := K) rfl T.b_sorted rfl T.b_set (pv 1)))))), ?_⟩
    refine ⟨Nat.zero_le _, fun q nq => ?_⟩
    have s1 : Same H (upd H q (.lst [])) := .upd nq
    have h1 : (upd H q (.lst [])) q = some (.lst (vI (lifts tss []))) := upd_same
    generalize upd H q (.lst []) = H1 at s1 h1 ⊢
    have D1 := D.same s1
    refine ⟨_, rfl, _, _, _, _, _, rfl, D1.o, T.o_Loom.c, T.na_Loom_down, lf_dn a b c e g, _, rfl, ⟨_, SqL.of D1.hc⟩, for_list (K := K) (a := c) (xs := vI dn) (fun i σ H2 => ∃ v, σ = [some (.ref m), some (.ref q), v] ∧ Same H H2 ∧ H2 q = some (.lst (vI (lifts tss (dn.take i))))) ⟨none, rfl, s1, h1⟩ (fun i σ H2 _ ⟨_, _, s2, _⟩ => SqL.of (s2 _ _ D.hc)) ?_ ?_⟩
    · rintro i x σ H2 hx ⟨v, rfl, s2, h2⟩
      obtain ⟨z, hz, rfl⟩ := vI_got hx
      have bz := hd z (List.mem_of_getElem? hz)
      have D2 := D.same s2
      have hvq : z.toNat < qs.length := by rw [D2.hb.l]; omega
      have hrow := D2.hb.r z.toNat qs[z.toNat] _ (List.getElem?_eq_getElem hvq) (get_tie bz)
      have hi : i < dn.length := (List.getElem?_eq_some_iff.mp hz).1
      have L1 := lifts_len hR (dn.take i)
      have L2 := lifts_len hR (dn.take (i + 1))
      rw [List.length_take] at L1 L2
      have et : dn.take (i + 1) = dn.take i ++ [z] := by rw [List.take_add_one, hz]; rfl
      rw [et, lifts_snoc, List.length_append] at L2
      refine ⟨_, rfl, .inl ⟨rfl, _, SqL.of h2⟩, _, rfl, _, _, _, _, _, rfl, D2.o, T.o_Loom.c, T.na_Loom_ties, lf_ti a b c e g, _, rfl, _, _, _, _, rfl, rfl, SqL.of D2.hb.h, atI_of bz.1 (by rw [List.getElem?_map, List.getElem?_eq_getElem hvq]; rfl), ?_⟩
      refine ⟨_, _, _, _, rfl, rfl, h2, hrow, (by rw [vI_len, vI_len]; omega), ?_⟩
      refine ⟨_, rfl, s2.over nq, ?_⟩
      rw [upd_same, et, lifts_snoc]
      unfold vI
      rw [List.map_append]
    · rintro σ H2 ⟨v, rfl, s2, h2⟩
      rw [vI_len, List.take_length] at h2
      have L := lifts_len hR dn
      refine ⟨_, rfl, _, _, rfl, SqL.of h2, by omega, fun ds' nd hs => nodup40 nd fun z hz => lifts_mem hR (hs z hz), fun l ks hm hp nl => ?_⟩
      exact k l ks _ (s2.new nl) (s2.free nl) upd_same hm hp
theorem shd_mem {th k1 k2 : List Int} (h : ∀ z, z ∈ k1 ↔ z ∈ k2) : shd th k1 = shd th k2 := by
  unfold shd
  refine List.map_congr_left fun s _ => ?_
  by_cases c : s ∈ k1
  · rw [if_pos c, if_pos ((h s).mp c)]
  · rw [if_neg c, if_neg fun z => c ((h s).mpr z)]
structure LM (t : Adr) (H : Hp) (m dx a b c e g : Addr) (qs : List Addr) (th : List Int) (tss : List (List Int)) (dn : List Int) (tn ds : List V) : Prop where
  M : IsM t H m dx a b c e g qs th tss dn tn ds
  nd : (g :: e :: c :: b :: a :: qs).Nodup
def But2 (c g : Addr) (H H' : Hp) : Prop := ∀ u o, u ≠ c → u ≠ g → H u = some o → H' u = some o
theorem But2.free {c g p : Addr} {H H' : Hp} (b : But2 c g H H') (nc : p ≠ c) (ng : p ≠ g) (h : H' p = none) : H p = none := by
  cases e : H p with
  | none => rfl
  | some o => rw [b p o nc ng e] at h; cases h
theorem LM.same {H H' : Hp} {m dx a b c e g : Addr} {qs : List Addr} {th : List Int} {tss : List (List Int)} {dn : List Int} {tn ds : List V} (L : LM t H m dx a b c e g qs th tss dn tn ds) (s : Same H H') : LM t H' m dx a b c e g qs th tss dn tn ds := ⟨L.M.same s, L.nd⟩
theorem LM.step {H H' : Hp} {m dx a b c e g : Addr} {qs : List Addr} {th : List Int} {tss : List (List Int)} {dn dn' : List Int} {tn ds ds' : List V} (L : LM t H m dx a b c e g qs th tss dn tn ds) (k : But2 c g H H') (hc : H' c = some (.lst (vI dn'))) (hg : H' g = some (.lst ds')) : LM t H' m dx a b c e g qs th tss dn' tn ds' := by
  have nd := L.nd
  have M := L.M
  simp only [List.nodup_cons, List.mem_cons, not_or] at nd
  obtain ⟨⟨ge, gc, gb, ga, gq⟩, ⟨ec, eb, ea, eq⟩, ⟨cb, ca, cq⟩, ⟨ba, bq⟩, aq, _⟩ := nd
  have mc : m ≠ c := fun z => by have := M.o; rw [z, M.hc] at this; cases this
  have mg : m ≠ g := fun z => by have := M.o; rw [z, M.hg] at this; cases this
  refine ⟨⟨k _ _ mc mg M.o, k _ _ (Ne.symm ca) (Ne.symm ga) M.ha, ⟨k _ _ (Ne.symm cb) (Ne.symm gb) M.hb.h, M.hb.l, fun i u ks h1 h2 => k _ _ (fun z => cq (z ▸ List.mem_of_getElem? h1)) (fun z => gq (z ▸ List.mem_of_getElem? h1)) (M.hb.r i u ks h1 h2)⟩, hc, k _ _ ec (Ne.symm ge) M.he, hg⟩, L.nd⟩
theorem LM.cg {H : Hp} {m dx a b c e g : Addr} {qs : List Addr} {th : List Int} {tss : List (List Int)} {dn : List Int} {tn ds : List V} (L : LM t H m dx a b c e g qs th tss dn tn ds) : c ≠ g := fun z => by
  have nd := L.nd
  simp only [List.nodup_cons, List.mem_cons, not_or] at nd
  exact nd.1.2.1 z.symm
def sp_press (t : Adr) : Sp := fun vs H Q E => ∃ (m dx a b c e g : Addr) (qs : List Addr) (th : List Int) (tss : List (List Int)) (dn : List Int) (tn ds : List V) (z : Int), vs = [.ref m, .int z] ∧ LM t H m dx a b c e g qs th tss dn tn ds ∧ dn.length ≤ 900 ∧ ds.length ≤ 900 ∧
  (0 ≤ z ∧ z < (tss.length : Int) ∧ z ∉ dn → ∀ (p : Addr) (H' : Hp), H p = none → H' p = some (.tup [.str "press", .int z]) → But2 c g H H' → LM t H' m dx a b c e g qs th tss (dn ++ [z]) tn (ds ++ [.ref p]) → Q .non H') ∧ (¬ (0 ≤ z ∧ z < (tss.length : Int) ∧ z ∉ dn) → E (.ref t.e_NoDeed) none H)
theorem okx_Loom_press (T : Txt K mg t) : FnOk P w K mg base (CX1 P w) 1 t.f_Loom_press t.d_Loom_press ["self", "treadle"] (sp_press t) := by
  refine T.m_Loom_press.F.okX sc_Loom_press (fun vs H Q E h => ?_) (fun cdv A outer s H vs Q E hr h => ?_)
  · obtain ⟨m, dx, a, b, c, e, g, qs, th, tss, dn, tn, ds, z, rfl, _⟩ := h
    rfl
  · obtain ⟨m, dx, a, b, c, e, g, qs, th, tss, dn, tn, ds, z, rfl, L, dl, dsl, kg, kb⟩ := h
    have hsz : sizeLine = 16777216 := sizeLine_eq
    have M := L.M
    have rl := M.hb.l
    refine ⟨_, (pss_cons (ps_if (PW.pt (pw_or (pt_cmpR op_lt (pv 1) pe_int (nomark _)) (pw_or1 (pt_cmpR op_ge (pv 1) (pe_callB (call_len_seqK (K := K)) rfl T.b_len bt_len (pa_cons (pe_fldK (K := K) (pv 0) rfl) pa_nil)) (nomark _)))))
        (pss_one (ps_raise body1 rfl (fun _ _ z => z) PySem.F.excBase_ValueError has_ve PySem.F.excBase_ValueError T.x_NoDeed.q rfl T.k_NoDeed (pa_cons pe_str pa_nil)))
        pss_nil)
      (pss_cons (ps_if (pt_cmpR (op_in_seqK (K := K)) (pv 1) (pe_fldK (K := K) (pv 0) rfl) rfl)
        (pss_one (ps_raise body1 rfl (fun _ _ z => z) PySem.F.excBase_ValueError has_ve PySem.F.excBase_ValueError T.x_NoDeed.q rfl T.k_NoDeed (pa_cons pe_str pa_nil)))
        pss_nil)
      (pss_cons (ps_expr (pe_bmK (K := K) PySem.F.plainAttrs_list PySem.F.slot_list_append PySem.F.type_list_append mt_append (pe_fldK (K := K) (pv 0) rfl) (pa_cons (pv 1) pa_nil)))
      (pss_one (ps_expr (pe_bmK (K := K) PySem.F.plainAttrs_list PySem.F.slot_list_append PySem.F.type_list_append mt_append (pe_fldK (K := K) (pv 0) rfl) (pa_cons (pe_tup (pa_cons pe_str (pa_cons (pv 1) pa_nil))) pa_nil))))))), ?_⟩
    refine ⟨_, rfl, _, _, rfl, rfl, _, rfl, ?_⟩
    refine ite2D (fun c1 => iteT ⟨by decide, kb (by omega)⟩) (fun z0 => ?_)
    refine ⟨_, rfl, _, rfl, _, _, _, _, _, rfl, M.o, T.o_Loom.c, T.na_Loom_ties, lf_ti a b c e g, _, _, rfl, .inl (SqL.of M.hb.h), _, _, rfl, rfl, _, rfl, ?_⟩
    refine ite2D (fun c1 => ⟨by decide, kb (by rw [List.length_map] at c1; omega)⟩) (fun z1 => ?_)
    rw [List.length_map] at z1
    refine ⟨_, rfl, _, rfl, _, _, _, _, _, rfl, M.o, T.o_Loom.c, T.na_Loom_down, lf_dn a b c e g, _, _, rfl, .inl (SqL.of M.hc), rfl, vI_flat _, _, rfl, ?_⟩
    show if (inV (.int z) (vI dn)) = true then _ else _
    rw [inV_vI]
    refine ite2D (fun c1 => ⟨by decide, kb fun q => q.2.2 c1⟩) (fun zn => ?_)
    have k := kg ⟨by omega, by omega, zn⟩
    refine ⟨_, rfl, _, _, _, _, _, rfl, M.o, T.o_Loom.c, T.na_Loom_down, lf_dn a b c e g, .inl ⟨rfl, _, SqL.of M.hc⟩, _, rfl, _, _, _, rfl, rfl, M.hc, (by rw [vI_len]; omega), ?_⟩
    rw [vI_app]
    have b1 : But2 c g H (upd H c (.lst (vI (dn ++ [z])))) := fun u o n1 _ e => by rw [upd_ne n1]; exact e
    have hc1 : (upd H c (.lst (vI (dn ++ [z])))) c = some (.lst (vI (dn ++ [z]))) := upd_same
    have hg1 : (upd H c (.lst (vI (dn ++ [z])))) g = some (.lst ds) := by rw [upd_ne L.cg.symm]; exact M.hg
    generalize upd H c (.lst (vI (dn ++ [z]))) = H1 at b1 hc1 hg1 ⊢
    have L1 := L.step b1 hc1 hg1
    refine ⟨_, rfl, _, _, _, _, _, rfl, L1.M.o, T.o_Loom.c, T.na_Loom_deeds, lf_ds a b c e g, .inl ⟨rfl, _, SqL.of hg1⟩, ?_⟩
    refine ⟨_, rfl, (by show 2 ≤ sizeLine; decide), fun p np => ?_⟩
    have sp := Same.upd (o := .tup [.str "press", .int z]) np
    refine ⟨_, _, _, rfl, rfl, sp _ _ hg1, (by omega), ?_⟩
    have b2 : But2 c g (upd H1 p (.tup [.str "press", .int z])) (upd (upd H1 p (.tup [.str "press", .int z])) g (.lst (ds ++ [.ref p]))) := fun u o _ n2 e => by rw [upd_ne n2]; exact e
    have npc : p ≠ c := fun e => by rw [e, hc1] at np; cases np
    have npg : p ≠ g := fun e => by rw [e, hg1] at np; cases np
    refine k p _ (b1.free npc npg np) (by rw [upd_ne npg]; exact upd_same) (fun u o n1 n2 e => b2 _ _ n1 n2 (sp _ _ (b1 _ _ n1 n2 e))) ((L1.same sp).step b2 ?_ upd_same)
    rw [upd_ne L.cg]
    exact sp _ _ hc1
theorem first_at {l : List Int} {z : Int} (h : z ∈ l) : ∃ j : Nat, l[j]? = some z ∧ (∀ i, i < j → l[i]? ≠ some z) ∧ j < l.length := by
  induction l with
  | nil => cases h
  | cons a r ih =>
    by_cases e : a = z
    · exact ⟨0, by rw [e]; rfl, fun i hi => by omega, by simp⟩
    · obtain ⟨j, h1, h2, h3⟩ := ih ((List.mem_cons.mp h).resolve_left fun q => e q.symm)
      refine ⟨j + 1, by simpa using h1, fun i hi => ?_, by simpa using h3⟩
      cases i with
      | zero => simp; exact e
      | succ i => simpa using h2 i (by omega)
def sp_lift2 (t : Adr) : Sp := fun vs H Q E => ∃ (m dx a b c e g : Addr) (qs : List Addr) (th : List Int) (tss : List (List Int)) (dn : List Int) (tn ds : List V) (z : Int), vs = [.ref m, .int z] ∧ LM t H m dx a b c e g qs th tss dn tn ds ∧ dn.length ≤ 900 ∧ ds.length ≤ 900 ∧
  (∀ (j : Nat) (p : Addr) (H' : Hp), dn[j]? = some z → H p = none → H' p = some (.tup [.str "lift", .int z]) → But2 c g H H' → LM t H' m dx a b c e g qs th tss (dn.eraseIdx j) tn (ds ++ [.ref p]) → Q .non H') ∧ (z ∉ dn → E (.ref t.e_NoDeed) none H)
theorem okx_Loom_lift (T : Txt K mg t) : FnOk P w K mg base (CX1 P w) 1 t.f_Loom_lift t.d_Loom_lift ["self", "treadle"] (sp_lift2 t) := by
  refine T.m_Loom_lift.F.okX sc_Loom_lift (fun vs H Q E h => ?_) (fun cdv A outer s H vs Q E hr h => ?_)
  · obtain ⟨m, dx, a, b, c, e, g, qs, th, tss, dn, tn, ds, z, rfl, _⟩ := h
    rfl
  · obtain ⟨m, dx, a, b, c, e, g, qs, th, tss, dn, tn, ds, z, rfl, L, dl, dsl, k, kb⟩ := h
    have hsz : sizeLine = 16777216 := sizeLine_eq
    have M := L.M
    refine ⟨_, (pss_cons (ps_if (pt_cmpR (op_notIn_seqK (K := K)) (pv 1) (pe_fldK (K := K) (pv 0) rfl) rfl)
        (pss_one (ps_raise body1 rfl (fun _ _ z => z) PySem.F.excBase_ValueError has_ve PySem.F.excBase_ValueError T.x_NoDeed.q rfl T.k_NoDeed (pa_cons pe_str pa_nil)))
        pss_nil)
      (pss_cons (ps_expr (pe_bmK (K := K) PySem.F.plainAttrs_list PySem.F.slot_list_remove PySem.F.type_list_remove mt_remove (pe_fldK (K := K) (pv 0) rfl) (pa_cons (pv 1) pa_nil)))
      (pss_one (ps_expr (pe_bmK (K := K) PySem.F.plainAttrs_list PySem.F.slot_list_append PySem.F.type_list_append mt_append (pe_fldK (K := K) (pv 0) rfl) (pa_cons (pe_tup (pa_cons pe_str (pa_cons (pv 1) pa_nil))) pa_nil)))))), ?_⟩
    refine ⟨_, rfl, _, rfl, _, _, _, _, _, rfl, M.o, T.o_Loom.c, T.na_Loom_down, lf_dn a b c e g, _, _, rfl, .inl (SqL.of M.hc), rfl, vI_flat _, _, rfl, ?_⟩
    show if (!inV (.int z) (vI dn)) = true then _ else _
    rw [inV_vI]
    by_cases zn : z ∉ dn
    · rw [decide_eq_false zn]
      exact iteT ⟨by decide, kb zn⟩
    have zn := Classical.not_not.mp zn
    obtain ⟨j, j1, j2, j3⟩ := first_at zn
    rw [decide_eq_true zn]
    refine iteF ?_
    refine ⟨_, rfl, _, _, _, _, _, rfl, M.o, T.o_Loom.c, T.na_Loom_down, lf_dn a b c e g, .inl ⟨rfl, _, SqL.of M.hc⟩, _, rfl, _, dn, z, j, rfl, rfl, M.hc, j1, j2, (by omega), ?_⟩
    have b1 : But2 c g H (upd H c (.lst (vI (dn.eraseIdx j)))) := fun u o n1 _ e => by rw [upd_ne n1]; exact e
    have hc1 : (upd H c (.lst (vI (dn.eraseIdx j)))) c = some (.lst (vI (dn.eraseIdx j))) := upd_same
    have hg1 : (upd H c (.lst (vI (dn.eraseIdx j)))) g = some (.lst ds) := by rw [upd_ne L.cg.symm]; exact M.hg
    generalize upd H c (.lst (vI (dn.eraseIdx j))) = H1 at b1 hc1 hg1 ⊢
    have L1 := L.step b1 hc1 hg1
    refine ⟨_, rfl, _, _, _, _, _, rfl, L1.M.o, T.o_Loom.c, T.na_Loom_deeds, lf_ds a b c e g, .inl ⟨rfl, _, SqL.of hg1⟩, ?_⟩
    refine ⟨_, rfl, (by show 2 ≤ sizeLine; decide), fun p np => ?_⟩
    have sp := Same.upd (o := .tup [.str "lift", .int z]) np
    refine ⟨_, _, _, rfl, rfl, sp _ _ hg1, (by omega), ?_⟩
    have b2 : But2 c g (upd H1 p (.tup [.str "lift", .int z])) (upd (upd H1 p (.tup [.str "lift", .int z])) g (.lst (ds ++ [.ref p]))) := fun u o _ n2 e => by rw [upd_ne n2]; exact e
    have npc : p ≠ c := fun e => by rw [e, hc1] at np; cases np
    have npg : p ≠ g := fun e => by rw [e, hg1] at np; cases np
    refine k j p _ j1 (b1.free npc npg np) (by rw [upd_ne npg]; exact upd_same) (fun u o n1 n2 e => b2 _ _ n1 n2 (sp _ _ (b1 _ _ n1 n2 e))) ((L1.same sp).step b2 ?_ upd_same)
    rw [upd_ne L.cg]
    exact sp _ _ hc1
def ButL (X : List Addr) (H H' : Hp) : Prop := ∀ u o, u ∉ X → H u = some o → H' u = some o
theorem ButL.free {X : List Addr} {p : Addr} {H H' : Hp} (b : ButL X H H') (n : p ∉ X) (h : H' p = none) : H p = none := by
  cases e : H p with
  | none => rfl
  | some o => rw [b p o n e] at h; cases h
theorem LM.stepE {H H' : Hp} {m dx a b c e g : Addr} {qs : List Addr} {th : List Int} {tss : List (List Int)} {dn : List Int} {tn tn' ds ds' : List V} (L : LM t H m dx a b c e g qs th tss dn tn ds) (k : ButL [e, g] H H') (he : H' e = some (.lst tn')) (hg : H' g = some (.lst ds')) : LM t H' m dx a b c e g qs th tss dn tn' ds' := by
  have nd := L.nd
  have M := L.M
  simp only [List.nodup_cons, List.mem_cons, not_or] at nd
  obtain ⟨⟨ge, gc, gb, ga, gq⟩, ⟨ec, eb, ea, eq⟩, ⟨cb, ca, cq⟩, ⟨ba, bq⟩, aq, _⟩ := nd
  have kk : ∀ u o, u ≠ e → u ≠ g → H u = some o → H' u = some o := fun u o n1 n2 q => k u o (by simp [n1, n2]) q
  have me : m ≠ e := fun z => by have := M.o; rw [z, M.he] at this; cases this
  have mg : m ≠ g := fun z => by have := M.o; rw [z, M.hg] at this; cases this
  refine ⟨⟨kk _ _ me mg M.o, kk _ _ (Ne.symm ea) (Ne.symm ga) M.ha, ⟨kk _ _ (Ne.symm eb) (Ne.symm gb) M.hb.h, M.hb.l, fun i u ks h1 h2 => ?_⟩, kk _ _ (Ne.symm ec) (Ne.symm gc) M.hc, he, hg⟩, L.nd⟩
  have hu := List.mem_of_getElem? h1
  exact kk _ _ (fun z => eq (by rw [← z]; exact hu)) (fun z => gq (by rw [← z]; exact hu)) (M.hb.r i u ks h1 h2)
theorem LM.ge {H : Hp} {m dx a b c e g : Addr} {qs : List Addr} {th : List Int} {tss : List (List Int)} {dn : List Int} {tn ds : List V} (L : LM t H m dx a b c e g qs th tss dn tn ds) : g ≠ e := fun z => by
  have nd := L.nd
  simp only [List.nodup_cons, List.mem_cons, not_or] at nd
  exact nd.1.1 z
structure Pk (H : Hp) (ps : List (Addr × Addr)) (pk : List (List Int × Str)) : Prop where
  l : ps.length = pk.length
  r : ∀ (i : Nat) (p sl : Addr) (ks : List Int) (z : Str), ps[i]? = some (p, sl) → pk[i]? = some (ks, z) → H p = some (.tup [.ref sl, .str z]) ∧ H sl = some (.lst (vI ks))
def pvs (ps : List (Addr × Addr)) : List V := ps.map fun q => V.ref q.1
theorem Pk.same {H H' : Hp} {ps : List (Addr × Addr)} {pk : List (List Int × Str)} (k : Pk H ps pk) (s : Same H H') : Pk H' ps pk := ⟨k.l, fun i p sl ks z h1 h2 => ⟨s _ _ (k.r i p sl ks z h1 h2).1, s _ _ (k.r i p sl ks z h1 h2).2⟩⟩
theorem Pk.snoc {H : Hp} {ps : List (Addr × Addr)} {pk : List (List Int × Str)} {p sl : Addr} {ks : List Int} {z : Str} (k : Pk H ps pk) (h1 : H p = some (.tup [.ref sl, .str z])) (h2 : H sl = some (.lst (vI ks))) : Pk H (ps ++ [(p, sl)]) (pk ++ [(ks, z)]) := by
  have e := k.l
  refine ⟨by rw [List.length_append, List.length_append, e]; rfl, fun i p' sl' ks' z' g1 g2 => ?_⟩
  by_cases c : i < ps.length
  · rw [List.getElem?_append_left c] at g1
    rw [List.getElem?_append_left (by omega)] at g2
    exact k.r i p' sl' ks' z' g1 g2
  · rw [List.getElem?_append_right (by omega)] at g1 g2
    have := (List.getElem?_eq_some_iff.mp g1).1
    simp at this
    rw [show i - ps.length = 0 by omega] at g1
    rw [show i - pk.length = 0 by omega] at g2
    cases g1
    cases g2
    exact ⟨h1, h2⟩
theorem Pk.init {H : Hp} {ps : List (Addr × Addr)} {pk : List (List Int × Str)} {q : Addr × Addr} {r : List Int × Str} (k : Pk H (ps ++ [q]) (pk ++ [r])) : Pk H ps pk := by
  have e := k.l
  rw [List.length_append, List.length_append] at e
  simp at e
  refine ⟨e, fun i p sl ks z g1 g2 => k.r i p sl ks z ?_ ?_⟩
  · rw [List.getElem?_append_left (List.getElem?_eq_some_iff.mp g1).1]; exact g1
  · rw [List.getElem?_append_left (List.getElem?_eq_some_iff.mp g2).1]; exact g2
def sp_throw (t : Adr) : Sp := fun vs H Q E => ∃ (m dx a b c e g : Addr) (qs : List Addr) (th : List Int) (tss : List (List Int)) (dn : List Int) (tn ds : List V) (z : Str), vs = [.ref m, .str z] ∧ LM t H m dx a b c e g qs th tss dn tn ds ∧ (∀ ks ∈ tss, Rs ks) ∧ (∀ d ∈ dn, 0 ≤ d ∧ d < (tss.length : Int)) ∧ dn.length ≤ 64 ∧ ds.length ≤ 900 ∧ tn.length ≤ 40 ∧
  (tn.length < 40 → ∀ (p sl u : Addr) (ks : List Int) (H' : Hp), ButL [e, g] H H' → H p = none → H sl = none → H u = none → LM t H' m dx a b c e g qs th tss dn (tn ++ [.ref p]) (ds ++ [.ref u]) → H' p = some (.tup [.ref sl, .str z]) → H' sl = some (.lst (vI ks)) → H' u = some (.tup [.str "throw", .non]) → (∀ y, y ∈ ks ↔ y ∈ lifts tss dn) → ks.Pairwise (· < ·) → Q .non H') ∧ (¬ tn.length < 40 → E (.ref t.e_TooLarge) none H)
theorem okx_Loom_throw (T : Txt K mg t) : FnOk P w K mg base (CX1 P w) 2 t.f_Loom_throw t.d_Loom_throw ["self", "colour"] (sp_throw t) := by
  have G_Loom_lifted_shafts : FnOk P w K mg base CX0 1 t.f_Loom_lifted_shafts t.d_Loom_lifted_shafts _ _ := ok_Loom_lifted_shafts T
  refine T.m_Loom_throw.F.okX sc_Loom_throw (fun vs H Q E h => ?_) (fun cdv A outer s H vs Q E hr h => ?_)
  · obtain ⟨m, dx, a, b, c, e, g, qs, th, tss, dn, tn, ds, z, rfl, _⟩ := h
    rfl
  · obtain ⟨m, dx, a, b, c, e, g, qs, th, tss, dn, tn, ds, z, rfl, L, hR, hd, dl, dsl, tl, kg, k2⟩ := h
    have hsz : sizeLine = 16777216 := sizeLine_eq
    have M := L.M
    refine ⟨_, (pss_cons (ps_if (pt_cmpR op_ge (pe_callB (call_len_seqK (K := K)) rfl T.b_len bt_len (pa_cons (pe_fldK (K := K) (pv 0) rfl) pa_nil)) (pe_glob (v := .int 40) rfl T.c_MOST_STRANDS.choose_spec ⟨_, rfl⟩) (nomark _))
        (pss_one (ps_raise body1 rfl (fun _ _ z => z) PySem.F.excBase_ValueError has_ve PySem.F.excBase_ValueError T.x_TooLarge.q rfl T.k_TooLarge (pa_cons pe_str pa_nil)))
        pss_nil)
      (pss_cons (ps_expr (pe_bmK (K := K) PySem.F.plainAttrs_list PySem.F.slot_list_append PySem.F.type_list_append mt_append (pe_fldK (K := K) (pv 0) rfl) (pa_cons (pe_tup (pa_cons (pe_meth0 (pv 0) T.o_Loom.c T.m_Loom_lifted_shafts.m (G_Loom_lifted_shafts.mono (by decide)) hr T.m_Loom_lifted_shafts.b .nil pass0) (pa_cons (pv 1) pa_nil))) pa_nil)))
      (pss_one (ps_expr (pe_bmK (K := K) PySem.F.plainAttrs_list PySem.F.slot_list_append PySem.F.type_list_append mt_append (pe_fldK (K := K) (pv 0) rfl) (pa_cons (pe_tup (pa_cons pe_str (pa_cons pe_non pa_nil))) pa_nil)))))), ?_⟩
    refine ⟨_, rfl, _, _, _, _, _, rfl, M.o, T.o_Loom.c, T.na_Loom_thrown, lf_tn a b c e g, _, _, rfl, .inl (SqL.of M.he), _, _, rfl, rfl, _, rfl, ?_⟩
    refine ite2D (fun c40 => ⟨by decide, k2 (by omega)⟩) (fun c40 => ?_)
    have k1 := kg (by omega)
    refine ⟨_, rfl, _, _, _, _, _, rfl, M.o, T.o_Loom.c, T.na_Loom_thrown, lf_tn a b c e g, .inl ⟨rfl, _, SqL.of M.he⟩, ?_⟩
    refine ⟨_, rfl, _, _, _, rfl, M.o, rfl, m, dx, a, b, c, e, g, qs, th, tss, dn, tn, ds, rfl, M, hR, hd, dl, fun sl ks H1 s1 nsl hsl hm hp => ?_⟩
    refine ⟨_, rfl, (by show 2 ≤ sizeLine; decide), fun p np => ?_⟩
    have s2 := Same.upd (o := .tup [.ref sl, .str z]) np
    have hp2 : (upd H1 p (.tup [.ref sl, .str z])) p = some (.tup [.ref sl, .str z]) := upd_same
    have hsl2 := s2 _ _ hsl
    have u2 := s1.trans s2
    generalize upd H1 p (.tup [.ref sl, .str z]) = H2 at s2 hp2 hsl2 u2 ⊢
    have L2 := L.same u2
    refine ⟨_, _, _, rfl, rfl, L2.M.he, (by omega), ?_⟩
    have npe : p ≠ e := fun q => by rw [q, s1 _ _ M.he] at np; cases np
    have npg : p ≠ g := fun q => by rw [q, s1 _ _ M.hg] at np; cases np
    have nse : sl ≠ e := fun q => by rw [q, M.he] at nsl; cases nsl
    have nsg : sl ≠ g := fun q => by rw [q, M.hg] at nsl; cases nsl
    have b3 : ButL [e, g] H2 (upd H2 e (.lst (tn ++ [.ref p]))) := fun u o nu q => by rw [upd_ne (fun y => nu (by simp [y]))]; exact q
    have he3 : (upd H2 e (.lst (tn ++ [.ref p]))) e = some (.lst (tn ++ [.ref p])) := upd_same
    have hg3 : (upd H2 e (.lst (tn ++ [.ref p]))) g = some (.lst ds) := by rw [upd_ne L.ge]; exact L2.M.hg
    generalize upd H2 e (.lst (tn ++ [.ref p])) = H3 at b3 he3 hg3 ⊢
    have L3 := L2.stepE b3 he3 hg3
    refine ⟨_, rfl, _, _, _, _, _, rfl, L3.M.o, T.o_Loom.c, T.na_Loom_deeds, lf_ds a b c e g, .inl ⟨rfl, _, SqL.of hg3⟩, (by show 2 ≤ sizeLine; decide), fun p4 np4 => ?_⟩
    have s4 := Same.upd (o := .tup [.str "throw", .non]) np4
    refine ⟨_, _, _, rfl, rfl, s4 _ _ hg3, (by omega), ?_⟩
    have b5 : ButL [e, g] (upd H3 p4 (.tup [.str "throw", .non])) (upd (upd H3 p4 (.tup [.str "throw", .non])) g (.lst (ds ++ [.ref p4]))) := fun u o nu q => by rw [upd_ne (fun y => nu (by simp [y]))]; exact q
    have X : ∀ u, u ≠ e → u ≠ g → u ∉ [e, g] := fun u n1 n2 => by simp [n1, n2]
    have n4e : p4 ≠ e := fun q => by rw [q, he3] at np4; cases np4
    have n4g : p4 ≠ g := fun q => by rw [q, hg3] at np4; cases np4
    have b03 : ButL [e, g] H H3 := fun u o nu q => b3 _ _ nu (u2 _ _ q)
    refine k1 p sl p4 ks _ (fun u o nu q => b5 _ _ nu (s4 _ _ (b3 _ _ nu (u2 _ _ q)))) (s1.free np) nsl (b03.free (X p4 n4e n4g) np4) ((L3.same s4).stepE b5 ?_ upd_same) (b5 _ _ (X p npe npg) (s4 _ _ (b3 _ _ (X p npe npg) hp2))) (b5 _ _ (X sl nse nsg) (s4 _ _ (b3 _ _ (X sl nse nsg) hsl2))) (b5 _ _ (X p4 n4e n4g) upd_same) hm hp
    rw [upd_ne L.ge.symm]
    exact s4 _ _ he3
def sp_unthrow (t : Adr) : Sp := fun vs H Q E => ∃ (m dx a b c e g : Addr) (qs : List Addr) (th : List Int) (tss : List (List Int)) (dn : List Int) (tn ds : List V), vs = [.ref m] ∧ LM t H m dx a b c e g qs th tss dn tn ds ∧ ds.length ≤ 900 ∧
  ((∃ (p sl : Addr) (tn0 : List V) (z : Str), tn = tn0 ++ [.ref p] ∧ H p = some (.tup [.ref sl, .str z]) ∧
  ∀ (u : Addr) (H' : Hp), ButL [e, g] H H' → H u = none → H' u = some (.tup [.str "unthrow", .ref p]) → LM t H' m dx a b c e g qs th tss dn tn0 (ds ++ [.ref u]) → Q (.str z) H') ∨ (tn = [] ∧ E (.ref t.e_NoDeed) none H))
theorem okx_Loom_unthrow (T : Txt K mg t) : FnOk P w K mg base (CX1 P w) 1 t.f_Loom_unthrow t.d_Loom_unthrow ["self"] (sp_unthrow t) := by
  refine T.m_Loom_unthrow.F.okX sc_Loom_unthrow (fun vs H Q E h => ?_) (fun cdv A outer s H vs Q E hr h => ?_)
  · obtain ⟨m, dx, a, b, c, e, g, qs, th, tss, dn, tn, ds, rfl, _⟩ := h
    rfl
  · obtain ⟨m, dx, a, b, c, e, g, qs, th, tss, dn, tn, ds, rfl, L, dsl, kk⟩ := h
    have hsz : sizeLine = 16777216 := sizeLine_eq
    have M := L.M
    refine ⟨_, (pss_cons (ps_if (pt_not (pt_truthK (K := K) (pe_fldK (K := K) (pv 0) rfl) (fun _ => rfl)))
        (pss_one (ps_raise body1 rfl (fun _ _ z => z) PySem.F.excBase_ValueError has_ve PySem.F.excBase_ValueError T.x_NoDeed.q rfl T.k_NoDeed (pa_cons pe_str pa_nil)))
        pss_nil)
      (pss_cons (ps_set (i := 1) sc_Loom_unthrow.nd rfl (Or.inl rfl) (pe_bm0K (K := K) PySem.F.plainAttrs_list PySem.F.slot_list_pop PySem.F.type_list_pop mt_pop (pe_fldK (K := K) (pv 0) rfl)))
      (pss_cons (ps_expr (pe_bmK (K := K) PySem.F.plainAttrs_list PySem.F.slot_list_append PySem.F.type_list_append mt_append (pe_fldK (K := K) (pv 0) rfl) (pa_cons (pe_tup (pa_cons pe_str (pa_cons (pv 1) pa_nil))) pa_nil)))
      (pss_one (ps_ret (pe_ix (ix_tupK (K := K)) (pv 1) pe_int (fun _ _ => rfl))))))), ?_⟩
    refine ⟨_, rfl, _, _, _, _, _, rfl, M.o, T.o_Loom.c, T.na_Loom_thrown, lf_tn a b c e g, _, .inl ⟨_, SqL.of M.he, rfl⟩, ?_⟩
    rcases kk with ⟨p, sl, tn0, z, et, hp, k1⟩ | ⟨et, kb⟩
    case inr =>
      subst et
      exact iteT ⟨by decide, kb⟩
    subst et
    rw [show (!(tn0 ++ [V.ref p]).isEmpty) = true by cases tn0 <;> rfl]
    refine iteF ?_
    have npe : p ≠ e := fun q => by rw [q, M.he] at hp; cases hp
    have npg : p ≠ g := fun q => by rw [q, M.hg] at hp; cases hp
    refine ⟨_, rfl, _, _, _, _, _, rfl, M.o, T.o_Loom.c, T.na_Loom_thrown, lf_tn a b c e g, .inl ⟨rfl, _, SqL.of M.he⟩, _, _, _, rfl, rfl, M.he, (show (tn0 ++ [V.ref p])[(tn0 ++ [V.ref p]).length - 1]? = some (V.ref p) by simp), ?_⟩
    rw [List.dropLast_concat]
    have b3 : ButL [e, g] H (upd H e (.lst tn0)) := fun u o nu q => by rw [upd_ne (fun y => nu (by simp [y]))]; exact q
    have he3 : (upd H e (.lst tn0)) e = some (.lst tn0) := upd_same
    have hg3 : (upd H e (.lst tn0)) g = some (.lst ds) := by rw [upd_ne L.ge]; exact M.hg
    generalize upd H e (.lst tn0) = H3 at b3 he3 hg3 ⊢
    have L3 := L.stepE b3 he3 hg3
    refine ⟨_, rfl, _, _, _, _, _, rfl, L3.M.o, T.o_Loom.c, T.na_Loom_deeds, lf_ds a b c e g, .inl ⟨rfl, _, SqL.of hg3⟩, _, rfl, (by show 2 ≤ sizeLine; decide), fun p4 np4 => ?_⟩
    have s4 := Same.upd (o := .tup [.str "unthrow", .ref p]) np4
    refine ⟨_, _, _, rfl, rfl, s4 _ _ hg3, (by omega), ?_⟩
    have b5 : ButL [e, g] (upd H3 p4 (.tup [.str "unthrow", .ref p])) (upd (upd H3 p4 (.tup [.str "unthrow", .ref p])) g (.lst (ds ++ [.ref p4]))) := fun u o nu q => by rw [upd_ne (fun y => nu (by simp [y]))]; exact q
    have bb : ButL [e, g] H (upd (upd H3 p4 (.tup [.str "unthrow", .ref p])) g (.lst (ds ++ [.ref p4]))) := fun u o nu q => b5 _ _ nu (s4 _ _ (b3 _ _ nu q))
    have hp5 := bb p _ (by simp [npe, npg]) hp
    refine ⟨_, rfl, _, _, _, _, rfl, rfl, SqT.of hp5, rfl, ?_⟩
    have n4e : p4 ≠ e := fun q => by rw [q, he3] at np4; cases np4
    have n4g : p4 ≠ g := fun q => by rw [q, hg3] at np4; cases np4
    refine k1 p4 _ bb (b3.free (by simp [n4e, n4g]) np4) (by rw [upd_ne n4g]; exact upd_same) ((L3.same s4).stepE b5 ?_ upd_same)
    rw [upd_ne L.ge.symm]
    exact s4 _ _ he3
def sp_undo (t : Adr) : Sp := fun vs H Q E => ∃ (m dx a b c e g : Addr) (qs : List Addr) (th : List Int) (tss : List (List Int)) (dn : List Int) (tn dsA : List V), vs = [.ref m] ∧ LM t H m dx a b c e g qs th tss dn tn dsA ∧ dn.length ≤ 900 ∧ tn.length ≤ 900 ∧
  ((dsA = [] ∧ E (.ref t.e_NoDeed) none H) ∨ ∃ (u : Addr) (ds : List V), dsA = ds ++ [.ref u] ∧ ((∃ z : Int, H u = some (.tup [.str "press", .int z]) ∧ z ∈ dn ∧ ∀ (j : Nat) (H' : Hp), dn[j]? = some z → ButL [c, e, g] H H' → LM t H' m dx a b c e g qs th tss (dn.eraseIdx j) tn ds → Q .non H') ∨
   (∃ z : Int, H u = some (.tup [.str "lift", .int z]) ∧ ∀ (H' : Hp), ButL [c, e, g] H H' → LM t H' m dx a b c e g qs th tss (dn ++ [z]) tn ds → Q .non H') ∨
   (∃ (tn0 : List V) (x : V), H u = some (.tup [.str "throw", .non]) ∧ tn = tn0 ++ [x] ∧ ∀ (H' : Hp), ButL [c, e, g] H H' → LM t H' m dx a b c e g qs th tss dn tn0 ds → Q .non H') ∨
   (∃ p : Addr, H u = some (.tup [.str "unthrow", .ref p]) ∧ ∀ (H' : Hp), ButL [c, e, g] H H' → LM t H' m dx a b c e g qs th tss dn (tn ++ [.ref p]) ds → Q .non H')))
theorem okx_Loom_undo (T : Txt K mg t) : FnOk P w K mg base (CX1 P w) 1 t.f_Loom_undo t.d_Loom_undo ["self"] (sp_undo t) := by
  refine T.m_Loom_undo.F.okX sc_Loom_undo (fun vs H Q E h => ?_) (fun cdv A outer s H vs Q E hr h => ?_)
  · obtain ⟨m, dx, a, b, c, e, g, qs, th, tss, dn, tn, dsA, rfl, _⟩ := h
    rfl
  · obtain ⟨m, dx, a, b, c, e, g, qs, th, tss, dn, tn, dsA, rfl, L, dl, tl, kk⟩ := h
    have hsz : sizeLine = 16777216 := sizeLine_eq
    have M := L.M
    refine ⟨_, (pss_cons (ps_if (pt_not (pt_truthK (K := K) (pe_fldK (K := K) (pv 0) rfl) (fun _ => rfl)))
        (pss_one (ps_raise body1 rfl (fun _ _ z => z) PySem.F.excBase_ValueError has_ve PySem.F.excBase_ValueError T.x_NoDeed.q rfl T.k_NoDeed (pa_cons pe_str pa_nil)))
        pss_nil)
      (pss_cons (ps_set (i := 1) sc_Loom_undo.nd rfl (Or.inl rfl) (pe_bm0K (K := K) PySem.F.plainAttrs_list PySem.F.slot_list_pop PySem.F.type_list_pop mt_pop (pe_fldK (K := K) (pv 0) rfl)))
      (pss_one (ps_if (pt_cmpR op_eq (pe_ix (ix_tupK (K := K)) (pv 1) pe_int (fun _ _ => rfl)) pe_str (nomark _))
        (pss_one (ps_expr (pe_bmK (K := K) PySem.F.plainAttrs_list PySem.F.slot_list_remove PySem.F.type_list_remove mt_remove (pe_fldK (K := K) (pv 0) rfl) (pa_cons (pe_ix (ix_tupK (K := K)) (pv 1) pe_int (fun _ _ => rfl)) pa_nil))))
        (pss_one (ps_if (pt_cmpR op_eq (pe_ix (ix_tupK (K := K)) (pv 1) pe_int (fun _ _ => rfl)) pe_str (nomark _))
          (pss_one (ps_expr (pe_bmK (K := K) PySem.F.plainAttrs_list PySem.F.slot_list_append PySem.F.type_list_append mt_append (pe_fldK (K := K) (pv 0) rfl) (pa_cons (pe_ix (ix_tupK (K := K)) (pv 1) pe_int (fun _ _ => rfl)) pa_nil))))
          (pss_one (ps_if (pt_cmpR op_eq (pe_ix (ix_tupK (K := K)) (pv 1) pe_int (fun _ _ => rfl)) pe_str (nomark _))
            (pss_one (ps_expr (pe_bm0K (K := K) PySem.F.plainAttrs_list PySem.F.slot_list_pop PySem.F.type_list_pop mt_pop (pe_fldK (K := K) (pv 0) rfl))))
            (pss_one (ps_expr (pe_bmK (K := K) PySem.F.plainAttrs_list PySem.F.slot_list_append PySem.F.type_list_append mt_append (pe_fldK (K := K) (pv 0) rfl) (pa_cons (pe_ix (ix_tupK (K := K)) (pv 1) pe_int (fun _ _ => rfl)) pa_nil)))))))))))), ?_⟩
    refine ⟨_, rfl, _, _, _, _, _, rfl, M.o, T.o_Loom.c, T.na_Loom_deeds, lf_ds a b c e g, _, .inl ⟨_, SqL.of M.hg, rfl⟩, ?_⟩
    rcases kk with ⟨et, kb⟩ | ⟨u, ds, et, k⟩
    · subst et
      exact iteT ⟨by decide, kb⟩
    subst et
    rw [show (!(ds ++ [V.ref u]).isEmpty) = true by cases ds <;> rfl]
    refine iteF ?_
    refine ⟨_, rfl, _, _, _, _, _, rfl, M.o, T.o_Loom.c, T.na_Loom_deeds, lf_ds a b c e g, .inl ⟨rfl, _, SqL.of M.hg⟩, _, _, _, rfl, rfl, M.hg, (show (ds ++ [V.ref u])[(ds ++ [V.ref u]).length - 1]? = some (V.ref u) by simp), ?_⟩
    rw [List.dropLast_concat]
    have b1 : ButL [c, e, g] H (upd H g (.lst ds)) := fun x o nx q => by rw [upd_ne (fun y => nx (by simp [y]))]; exact q
    have b1' : ButL [e, g] H (upd H g (.lst ds)) := fun x o nx q => by rw [upd_ne (fun y => nx (by simp [y]))]; exact q
    have hg1 : (upd H g (.lst ds)) g = some (.lst ds) := upd_same
    have he1 : (upd H g (.lst ds)) e = some (.lst tn) := by rw [upd_ne L.ge.symm]; exact M.he
    have ut : ∀ x y : V, H u = some (.tup [x, y]) → (upd H g (.lst ds)) u = some (.tup [x, y]) := fun x y q => by
      have : u ≠ g := fun z => by rw [z, M.hg] at q; cases q
      rw [upd_ne this]; exact q
    generalize upd H g (.lst ds) = H1 at b1 b1' hg1 he1 ut ⊢
    have L1 := L.stepE b1' he1 hg1
    have M1 := L1.M
    have sub : ∀ {H2 H3 : Hp} {c' : Addr}, c' ∈ [c, e, g] → (∀ x o, x ≠ c' → H2 x = some o → H3 x = some o) → ButL [c, e, g] H2 H3 := fun hc q x o nx y => q _ _ (fun z => nx (z ▸ hc)) y
    rcases k with ⟨z, hu, zd, k⟩ | ⟨z, hu, k⟩ | ⟨tn0, x, hu, et, k⟩ | ⟨p, hu, k⟩
    · have h1 := ut _ _ hu
      obtain ⟨j, j1, j2, j3⟩ := first_at zd
      refine ⟨_, rfl, _, _, _, _, rfl, rfl, SqT.of h1, rfl, rfl, _, rfl, ?_⟩
      refine iteDp rfl ?_
      refine ⟨_, rfl, _, _, _, _, _, rfl, M1.o, T.o_Loom.c, T.na_Loom_down, lf_dn a b c e g, .inl ⟨rfl, _, SqL.of M1.hc⟩, _, rfl, _, _, _, _, rfl, rfl, SqT.of h1, rfl, _, dn, z, j, rfl, rfl, M1.hc, j1, j2, (by omega), ?_⟩
      have q2 : ∀ x o, x ≠ c → H1 x = some o → (upd H1 c (.lst (vI (dn.eraseIdx j)))) x = some o := fun x o nx y => by rw [upd_ne nx]; exact y
      have b2 := sub (c' := c) (by simp) q2
      refine k j _ j1 (fun x o nx y => b2 _ _ nx (b1 _ _ nx y)) (L1.step (fun x o n1 _ y => q2 _ _ n1 y) upd_same ?_)
      rw [upd_ne L.cg.symm]; exact hg1
    · have h1 := ut _ _ hu
      refine ⟨_, rfl, _, _, _, _, rfl, rfl, SqT.of h1, rfl, rfl, _, rfl, ?_⟩
      refine iteDn (by decide +kernel) ?_
      refine ⟨_, rfl, _, _, _, _, rfl, rfl, SqT.of h1, rfl, rfl, _, rfl, ?_⟩
      refine iteDp rfl ?_
      refine ⟨_, rfl, _, _, _, _, _, rfl, M1.o, T.o_Loom.c, T.na_Loom_down, lf_dn a b c e g, .inl ⟨rfl, _, SqL.of M1.hc⟩, _, rfl, _, _, _, _, rfl, rfl, SqT.of h1, rfl, _, _, _, rfl, rfl, M1.hc, (by rw [vI_len]; omega), ?_⟩
      rw [show vI dn ++ [V.int z] = vI (dn ++ [z]) from vI_app _ _]
      have q2 : ∀ x o, x ≠ c → H1 x = some o → (upd H1 c (.lst (vI (dn ++ [z])))) x = some o := fun x o nx y => by rw [upd_ne nx]; exact y
      have b2 := sub (c' := c) (by simp) q2
      refine k _ (fun x o nx y => b2 _ _ nx (b1 _ _ nx y)) (L1.step (fun x o n1 _ y => q2 _ _ n1 y) upd_same ?_)
      rw [upd_ne L.cg.symm]; exact hg1
    · have h1 := ut _ _ hu
      subst et
      refine ⟨_, rfl, _, _, _, _, rfl, rfl, SqT.of h1, rfl, rfl, _, rfl, ?_⟩
      refine iteDn (by decide +kernel) ?_
      refine ⟨_, rfl, _, _, _, _, rfl, rfl, SqT.of h1, rfl, rfl, _, rfl, ?_⟩
      refine iteDn (by decide +kernel) ?_
      refine ⟨_, rfl, _, _, _, _, rfl, rfl, SqT.of h1, rfl, rfl, _, rfl, ?_⟩
      refine iteDp rfl ?_
      refine ⟨_, rfl, _, _, _, _, _, rfl, M1.o, T.o_Loom.c, T.na_Loom_thrown, lf_tn a b c e g, .inl ⟨rfl, _, SqL.of M1.he⟩, _, _, _, rfl, rfl, M1.he, (show (tn0 ++ [x])[(tn0 ++ [x]).length - 1]? = some x by simp), ?_⟩
      rw [List.dropLast_concat]
      have q2 : ∀ x o, x ≠ e → H1 x = some o → (upd H1 e (.lst tn0)) x = some o := fun x o nx y => by rw [upd_ne nx]; exact y
      have b2 := sub (c' := e) (by simp) q2
      refine k _ (fun x o nx y => b2 _ _ nx (b1 _ _ nx y)) (L1.stepE (fun x o n1 y => q2 _ _ (fun z => n1 (by simp [z])) y) upd_same ?_)
      rw [upd_ne L.ge]; exact hg1
    · have h1 := ut _ _ hu
      refine ⟨_, rfl, _, _, _, _, rfl, rfl, SqT.of h1, rfl, rfl, _, rfl, ?_⟩
      refine iteDn (by decide +kernel) ?_
      refine ⟨_, rfl, _, _, _, _, rfl, rfl, SqT.of h1, rfl, rfl, _, rfl, ?_⟩
      refine iteDn (by decide +kernel) ?_
      refine ⟨_, rfl, _, _, _, _, rfl, rfl, SqT.of h1, rfl, rfl, _, rfl, ?_⟩
      refine iteDn (by decide +kernel) ?_
      refine ⟨_, rfl, _, _, _, _, _, rfl, M1.o, T.o_Loom.c, T.na_Loom_thrown, lf_tn a b c e g, .inl ⟨rfl, _, SqL.of M1.he⟩, _, rfl, _, _, _, _, rfl, rfl, SqT.of h1, rfl, _, _, _, rfl, rfl, M1.he, (by omega), ?_⟩
      have q2 : ∀ x o, x ≠ e → H1 x = some o → (upd H1 e (.lst (tn ++ [.ref p]))) x = some o := fun x o nx y => by rw [upd_ne nx]; exact y
      have b2 := sub (c' := e) (by simp) q2
      refine k _ (fun x o nx y => b2 _ _ nx (b1 _ _ nx y)) (L1.stepE (fun x o n1 y => q2 _ _ (fun z => n1 (by simp [z])) y) upd_same ?_)
      rw [upd_ne L.ge]; exact hg1
theorem comp2_list {K : PySem.W.Frag} {a : Addr} {xs : List V} {caps : List Nat} {tc : TT} {te : TE} {σ : St} {H : Hp} {Q : VK} (Pv : Nat → List V → Hp → Prop) (h0 : Pv 0 [] H) (hl : ∀ i ys H, i ≤ xs.length → Pv i ys H → SqL K H a xs ∧ ys.length ≤ i)
    (hz : xs.length ≤ sizeLine) (hs : ∀ i x ys H, i < xs.length → xs[i]? = some x → Pv i ys H → ∃ b u v, x = .ref b ∧ SqT K H b [u, v] ∧ CTurn xs.length Pv tc te (some u :: some v :: capV σ caps) i ys H)
    (hd : ∀ ys H p, Pv xs.length ys H → H p = none → Q (.ref p) (upd H p (.lst ys))) : tCompW2 K caps tc te (Itl K a) σ H Q := by
  refine ⟨fun i m ys H => m = xs.length - i ∧ i ≤ xs.length ∧ Pv i ys H, ⟨xs.length, by simp, Nat.zero_le _, h0⟩, ?_⟩
  rintro i m ys H ⟨rfl, hi, p⟩
  obtain ⟨q, hy⟩ := hl i ys H hi p
  by_cases hlt : i < xs.length
  · refine .inr ⟨⟨xs, xs[i], q, by simp [hlt]⟩, by omega, fun x H' y => ?_⟩
    obtain ⟨e, y⟩ := y
    subst e
    exact hs i x ys _ hlt (y xs q) p
  · have e : i = xs.length := by omega
    subst e
    exact .inl ⟨⟨xs, q, Nat.le_refl _⟩, by omega, fun p' hp => hd ys H p' p hp⟩
theorem Pk.at {H : Hp} {ps : List (Addr × Addr)} {pk : List (List Int × Str)} (k : Pk H ps pk) {i : Nat} {x : V} (h : (pvs ps)[i]? = some x) : ∃ p sl ks z, x = .ref p ∧ pk[i]? = some (ks, z) ∧ H p = some (.tup [.ref sl, .str z]) ∧ H sl = some (.lst (vI ks)) := by
  unfold pvs at h
  rw [List.getElem?_map] at h
  obtain ⟨⟨p, sl⟩, hp, rfl⟩ := Option.map_eq_some_iff.mp h
  have hi : i < pk.length := by rw [← k.l]; exact (List.getElem?_eq_some_iff.mp hp).1
  obtain ⟨ks, z, hq⟩ : ∃ ks z, pk[i] = (ks, z) := ⟨_, _, rfl⟩
  exact ⟨p, sl, ks, z, rfl, by rw [List.getElem?_eq_getElem hi, hq], k.r i p sl ks z hp (by rw [List.getElem?_eq_getElem hi, hq])⟩
def sp_cloth (t : Adr) : Sp := fun vs H Q _ => ∃ (m dx a b c e g : Addr) (qs : List Addr) (th : List Int) (tss : List (List Int)) (dn : List Int) (ds : List V) (ps : List (Addr × Addr)) (pk : List (List Int × Str)), vs = [.ref m] ∧ IsM t H m dx a b c e g qs th tss dn (pvs ps) ds ∧ Pk H ps pk ∧ ps.length ≤ 40 ∧ th.length ≤ 40 ∧
  ∀ (l : Addr) (H' : Hp), Same H H' → H l = none → H' l = some (.lst (pk.map fun q => V.str (tx (shd th q.1)))) → Q (.ref l) H'
theorem ok_Loom_cloth (T : Txt K mg t) : FnOk P w K mg base CX0 2 t.f_Loom_cloth t.d_Loom_cloth ["self"] (sp_cloth t) := by
  have G_shed_over : FnOk P w K mg base CX0 1 t.f_shed_over t.d_shed_over _ _ := ok_shed_over T
  refine T.m_Loom_cloth.F.ok sc_Loom_cloth (fun vs H Q E h => ?_) (fun cdv A outer s H vs Q E hr h => ?_)
  · obtain ⟨m, dx, a, b, c, e, g, qs, th, tss, dn, ds, ps, pk, rfl, _⟩ := h
    rfl
  · obtain ⟨m, dx, a, b, c, e, g, qs, th, tss, dn, ds, ps, pk, rfl, M, kp, p40, t40, k⟩ := h
    have hsz : sizeLine = 16777216 := sizeLine_eq
    have pl : (pvs ps).length = pk.length := by unfold pvs; rw [List.length_map]; exact kp.l
    refine ⟨_, (pss_one (ps_ret (pe_comp2K (K := K) (CompOk2.mk (caps := [0]) (Nc := ["shafts", "colour", "self"]) rfl (by decide +kernel) (by decide +kernel) (comp_fr (sc0 := defScope s_Loom_cloth) rfl (by decide +kernel)) rfl rfl rfl rfl rfl (by decide +kernel) (fun k j h => match k, h with | 0, h => by obtain rfl := Option.some.inj h; exact ⟨_, rfl, rfl, rfl⟩ | _ + 1, h => by simp at h)) rfl (pi_listK (K := K) (pe_fldK (K := K) (pv 0) rfl)) (fun _ _ _ _ _ => .nil) (fun _ _ _ _ _ => (pe_call (G_shed_over.mono (by decide)) hr rfl T.shed_over.m T.shed_over.F.kp T.shed_over.b .nil pass0 (pa_cons (pe_fldK (K := K) (pv 2) rfl) (pa_cons (pv 0) pa_nil))))))), ?_⟩
    refine ⟨_, rfl, _, _, _, _, _, rfl, M.o, T.o_Loom.c, T.na_Loom_thrown, lf_tn a b c e g, _, rfl, ⟨_, SqL.of M.he⟩, comp2_list (K := K) (a := e) (xs := pvs ps) (fun i ys H2 => Same H H2 ∧ ys = (pk.take i).map fun q => V.str (tx (shd th q.1))) ⟨.refl _, rfl⟩ ?_ ?_ ?_ ?_⟩
    · rintro i ys H2 hi ⟨s2, rfl⟩
      refine ⟨SqL.of (s2 _ _ M.he), ?_⟩
      rw [List.length_map, List.length_take]; omega
    · rw [pl, ← kp.l]; omega
    · rintro i x ys H2 hi hx ⟨s2, rfl⟩
      obtain ⟨p, sl, ks, z, rfl, hk, hp, hsl⟩ := (kp.same s2).at hx
      have M2 := M.same s2
      refine ⟨p, _, _, rfl, SqT.of hp, ?_⟩
      refine CTurn.no ?_
      refine ⟨_, rfl, _, _, _, _, _, rfl, M2.o, T.o_Loom.c, T.na_Loom_threading, lf_th a b c e g, _, rfl, a, sl, th, ks, rfl, M2.ha, hsl, t40, fun H3 s3 => ?_⟩
      refine CN.of hi ⟨s2.trans s3, ?_⟩
      rw [List.take_add_one, hk, List.map_append]
      rfl
    · rintro ys H2 p ⟨s2, rfl⟩ np
      rw [pl, List.take_length]
      exact k p _ (s2.new np) (s2.free np) upd_same
def sp_colours (t : Adr) : Sp := fun vs H Q _ => ∃ (m dx a b c e g : Addr) (qs : List Addr) (th : List Int) (tss : List (List Int)) (dn : List Int) (ds : List V) (ps : List (Addr × Addr)) (pk : List (List Int × Str)), vs = [.ref m] ∧ IsM t H m dx a b c e g qs th tss dn (pvs ps) ds ∧ Pk H ps pk ∧ ps.length ≤ 40 ∧
  ∀ (l : Addr) (H' : Hp), Same H H' → H l = none → H' l = some (.lst (pk.map fun q => V.str q.2)) → Q (.ref l) H'
theorem ok_Loom_colours (T : Txt K mg t) : FnOk P w K mg base CX0 1 t.f_Loom_colours t.d_Loom_colours ["self"] (sp_colours t) := by
  refine T.m_Loom_colours.F.ok sc_Loom_colours (fun vs H Q E h => ?_) (fun cdv A outer s H vs Q E hr h => ?_)
  · obtain ⟨m, dx, a, b, c, e, g, qs, th, tss, dn, ds, ps, pk, rfl, _⟩ := h
    rfl
  · obtain ⟨m, dx, a, b, c, e, g, qs, th, tss, dn, ds, ps, pk, rfl, M, kp, p40, k⟩ := h
    have hsz : sizeLine = 16777216 := sizeLine_eq
    have pl : (pvs ps).length = pk.length := by unfold pvs; rw [List.length_map]; exact kp.l
    refine ⟨_, (pss_one (ps_ret (pe_comp2K (K := K) (CompOk2.mk (caps := []) (Nc := ["shafts", "colour"]) rfl (by decide +kernel) (by decide +kernel) (comp_fr (sc0 := defScope s_Loom_colours) rfl (by decide +kernel)) rfl rfl rfl rfl rfl (by decide +kernel) (fun _ _ h => by simp at h)) rfl (pi_listK (K := K) (pe_fldK (K := K) (pv 0) rfl)) (fun _ _ _ _ _ => .nil) (fun _ _ _ _ _ => (pv 1))))), ?_⟩
    refine ⟨_, rfl, _, _, _, _, _, rfl, M.o, T.o_Loom.c, T.na_Loom_thrown, lf_tn a b c e g, _, rfl, ⟨_, SqL.of M.he⟩, comp2_list (K := K) (a := e) (xs := pvs ps) (fun i ys H2 => H2 = H ∧ ys = (pk.take i).map fun q => V.str q.2) ⟨rfl, rfl⟩ ?_ ?_ ?_ ?_⟩
    · rintro i ys H2 hi ⟨rfl, rfl⟩
      refine ⟨SqL.of M.he, ?_⟩
      rw [List.length_map, List.length_take]; omega
    · rw [pl, ← kp.l]; omega
    · rintro i x ys H2 hi hx ⟨rfl, rfl⟩
      obtain ⟨p, sl, ks, z, rfl, hk, hp, hsl⟩ := kp.at hx
      refine ⟨p, _, _, rfl, SqT.of hp, ?_⟩
      refine CTurn.no ?_
      refine ⟨_, rfl, CN.of hi ⟨rfl, ?_⟩⟩
      rw [List.take_add_one, hk, List.map_append]
      rfl
    · rintro ys H2 p ⟨rfl, rfl⟩ np
      rw [pl, List.take_length]
      exact k p _ (.upd np) np upd_same
def sp_tdown (t : Adr) : Sp := fun vs H Q _ => ∃ (m dx a b c e g : Addr) (qs : List Addr) (th : List Int) (tss : List (List Int)) (dn : List Int) (tn ds : List V), vs = [.ref m] ∧ IsM t H m dx a b c e g qs th tss dn tn ds ∧ dn.length < 64 ∧
  ∀ (l : Addr) (ks : List Int) (H' : Hp), Same H H' → H l = none → H' l = some (.lst (vI ks)) → ks.Perm dn → ks.Pairwise (· ≤ ·) → Q (.ref l) H'
theorem ok_Loom_treadles_down (T : Txt K mg t) : FnOk P w K mg base CX0 1 t.f_Loom_treadles_down t.d_Loom_treadles_down ["self"] (sp_tdown t) := by
  refine T.m_Loom_treadles_down.F.ok sc_Loom_treadles_down (fun vs H Q E h => ?_) (fun cdv A outer s H vs Q E hr h => ?_)
  · obtain ⟨m, dx, a, b, c, e, g, qs, th, tss, dn, tn, ds, rfl, _⟩ := h
    rfl
  · obtain ⟨m, dx, a, b, c, e, g, qs, th, tss, dn, tn, ds, rfl, M, dl, k⟩ := h
    refine ⟨_, (pss_one (ps_ret (pe_callB (call_sortI (K := K)) rfl T.b_sorted bt_sorted (pa_cons (pe_fldK (K := K) (pv 0) rfl) pa_nil)))), ?_⟩
    exact ⟨_, rfl, _, _, _, _, _, rfl, M.o, T.o_Loom.c, T.na_Loom_down, lf_dn a b c e g, _, _, rfl, SqL.of M.hc, dl, fun l ks p1 p2 nl => k l ks _ (.upd nl) nl upd_same p1 p2⟩
def sp_ddone (t : Adr) : Sp := fun vs H Q _ => ∃ (m dx a b c e g : Addr) (qs : List Addr) (th : List Int) (tss : List (List Int)) (dn : List Int) (tn ds : List V), vs = [.ref m] ∧ IsM t H m dx a b c e g qs th tss dn tn ds ∧ Q (.int (ds.length : Int)) H
theorem ok_Loom_deeds_done (T : Txt K mg t) : FnOk P w K mg base CX0 1 t.f_Loom_deeds_done t.d_Loom_deeds_done ["self"] (sp_ddone t) := by
  refine T.m_Loom_deeds_done.F.ok sc_Loom_deeds_done (fun vs H Q E h => ?_) (fun cdv A outer s H vs Q E hr h => ?_)
  · obtain ⟨m, dx, a, b, c, e, g, qs, th, tss, dn, tn, ds, rfl, _⟩ := h
    rfl
  · obtain ⟨m, dx, a, b, c, e, g, qs, th, tss, dn, tn, ds, rfl, M, k⟩ := h
    refine ⟨_, (pss_one (ps_ret (pe_callB (call_len_seqK (K := K)) rfl T.b_len bt_len (pa_cons (pe_fldK (K := K) (pv 0) rfl) pa_nil)))), ?_⟩
    exact ⟨_, rfl, _, _, _, _, _, rfl, M.o, T.o_Loom.c, T.na_Loom_deeds, lf_ds a b c e g, _, _, rfl, .inl (SqL.of M.hg), k⟩
def sp_shedM (t : Adr) : Sp := fun vs H Q _ => ∃ (m dx a b c e g : Addr) (qs : List Addr) (th : List Int) (tss : List (List Int)) (dn : List Int) (tn ds : List V), vs = [.ref m] ∧ IsM t H m dx a b c e g qs th tss dn tn ds ∧ (∀ ks ∈ tss, Rs ks) ∧ (∀ d ∈ dn, 0 ≤ d ∧ d < (tss.length : Int)) ∧ dn.length ≤ 64 ∧ th.length ≤ 40 ∧
  ∀ H', Same H H' → Q (.str (tx (shd th (lifts tss dn)))) H'
theorem ok_Loom_shed (T : Txt K mg t) : FnOk P w K mg base CX0 2 t.f_Loom_shed t.d_Loom_shed ["self"] (sp_shedM t) := by
  have G_Loom_lifted_shafts : FnOk P w K mg base CX0 1 t.f_Loom_lifted_shafts t.d_Loom_lifted_shafts _ _ := ok_Loom_lifted_shafts T
  have G_shed_over : FnOk P w K mg base CX0 1 t.f_shed_over t.d_shed_over _ _ := ok_shed_over T
  refine T.m_Loom_shed.F.ok sc_Loom_shed (fun vs H Q E h => ?_) (fun cdv A outer s H vs Q E hr h => ?_)
  · obtain ⟨m, dx, a, b, c, e, g, qs, th, tss, dn, tn, ds, rfl, _⟩ := h
    rfl
  · obtain ⟨m, dx, a, b, c, e, g, qs, th, tss, dn, tn, ds, rfl, D, hR, hd, dl, t40, k⟩ := h
    refine ⟨_, (pss_one (ps_ret (pe_call (G_shed_over.mono (by decide)) hr rfl T.shed_over.m T.shed_over.F.kp T.shed_over.b .nil pass0 (pa_cons (pe_fldK (K := K) (pv 0) rfl) (pa_cons (pe_meth0 (pv 0) T.o_Loom.c T.m_Loom_lifted_shafts.m (G_Loom_lifted_shafts.mono (by decide)) hr T.m_Loom_lifted_shafts.b .nil pass0) pa_nil))))), ?_⟩
    refine ⟨_, rfl, _, _, _, _, _, rfl, D.o, T.o_Loom.c, T.na_Loom_threading, lf_th a b c e g, ?_⟩
    refine ⟨_, rfl, _, _, _, rfl, D.o, rfl, m, dx, a, b, c, e, g, qs, th, tss, dn, tn, ds, rfl, D, hR, hd, dl, fun l ks H1 s1 nl hl hm hp => ?_⟩
    refine ⟨a, l, th, ks, rfl, s1 _ _ D.ha, hl, t40, fun H2 s2 => ?_⟩
    rw [shd_mem hm]
    exact k _ (s1.trans s2)
def sp_cell (K : PySem.W.Frag) : Sp := fun vs H Q _ => ∃ (a : Addr) (ns : List Int) (i : Int), vs = [.ref a, .int i] ∧ SqL K H a (vI ns) ∧ 0 ≤ i ∧ ∀ c : Int, 0 ≤ c → c < 10 ^ 61 → Q (.int c) H
theorem ok_law_cell_at (T : Txt K mg t) : FnOk P w K mg base CX0 1 t.f_law_cell_at t.d_law_cell_at ["script", "k"] (sp_cell K) := by
  refine T.law_cell_at.F.ok sc_law_cell_at (fun vs H Q E h => ?_) (fun cdv A outer s H vs Q E hr h => ?_)
  · obtain ⟨a, ns, i, rfl, _⟩ := h
    rfl
  · obtain ⟨a, ns, i, rfl, hS, hi, k⟩ := h
    refine ⟨_, (pss_cons (ps_if (pt_cmpR op_lt (pv 1) (pe_callB (call_len_seqK (K := K)) rfl T.b_len bt_len (pa_cons (pv 0) pa_nil)) (nomark _))
        (pss_one (ps_ret (pe_op op_mod (pe_ix (ix_listK (K := K)) (pv 0) (pv 1) (fun _ _ => rfl)) (pe_op op_pow pe_int pe_int))))
        pss_nil)
      (pss_one (ps_ret pe_int))), ?_⟩
    refine ⟨_, rfl, _, rfl, _, _, rfl, .inl hS, _, _, rfl, rfl, _, rfl, ?_⟩
    refine ite2D (fun h1 => ?_) (fun h1 => ?_)
    · rw [vI_len] at h1
      have hlt : i.toNat < ns.length := by omega
      refine ⟨_, rfl, _, rfl, _, _, _, _, rfl, rfl, hS, atI_of hi (vI_get (List.getElem?_eq_getElem hlt)), ?_⟩
      refine ⟨_, _, rfl, rfl, ⟨by decide, by decide, by decide⟩, ?_⟩
      refine ⟨_, _, rfl, rfl, (by show (0 : Int) < 10 ^ 61; decide), ?_⟩
      exact k _ (Int.emod_nonneg _ (by decide)) (Int.emod_lt_of_pos _ (by decide))
    · exact k 0 (by decide) (by decide)
def sp_sums (K : PySem.W.Frag) : Sp := fun vs H Q _ => ∃ (a : Addr) (ns : List Int) (b m : Nat), vs = [.ref a, .int (b : Int), .int (m : Int)] ∧ SqL K H a (vI ns) ∧ ns.length ≤ 63 ∧ b ≤ 63 ∧ 1 ≤ m ∧ m ≤ 1000 ∧
  ∀ (l : Addr) (ks : List Int) (H' : Hp), Same H H' → H l = none → H' l = some (.lst (vI ks)) → ks.length = m → Q (.ref l) H'
theorem ok_law_sums (T : Txt K mg t) : FnOk P w K mg base CX0 1 t.f_law_sums t.d_law_sums ["script", "behind", "many"] (sp_sums K) := by
  refine T.law_sums.F.ok sc_law_sums (fun vs H Q E h => ?_) (fun cdv A outer s H vs Q E hr h => ?_)
  · obtain ⟨a, ns, b, m, rfl, _⟩ := h
    rfl
  · obtain ⟨a, ns, b, m, rfl, hS, hl, hb, hm1, hm2, k⟩ := h
    have hsz : sizeLine = 16777216 := sizeLine_eq
    refine ⟨_, (pss_cons (ps_setC (i := 3) (CompOk.mk (caps := []) (Nc := ["k"]) rfl (by decide +kernel) (by decide +kernel) (comp_fr (sc0 := defScope s_law_sums) rfl (by decide +kernel)) rfl rfl rfl (by decide +kernel) (fun _ _ h => by simp at h)) rfl sc_law_sums.nd rfl rfl (pi_range1 rfl T.b_range (pa_cons (pv 2) pa_nil)) (fun _ _ _ _ _ => .nil) (fun _ _ _ _ _ => pe_int) rfl)
      (pss_cons (ps_for PassesOwn.never rfl (pi_range2 rfl T.b_range (pa_cons (pv 1) (pa_cons (pe_callB (call_len_seqK (K := K)) rfl T.b_len bt_len (pa_cons (pv 0) pa_nil)) pa_nil))) (pg_name (i := 4) sc_law_sums.nd rfl (Or.inl rfl))
        (pss_cons (ps_set (i := 5) sc_law_sums.nd rfl (Or.inl rfl) (pe_op op_mod (pe_op op_sub (pv 4) (pv 1)) (pv 2)))
        (pss_one (ps_asg (pe_op op_add (pe_ix (ix_listK (K := K)) (pv 3) (pv 5) (fun _ _ => rfl)) (pe_op op_mod (pe_ix (ix_listK (K := K)) (pv 0) (pv 4) (fun _ _ => rfl)) (pe_op op_pow pe_int pe_int))) (pg_sub (pv 3) (pv 5) set_list)))))
      (pss_one (ps_ret (pv 3))))), ?_⟩
    refine ⟨_, rfl, _, rfl, (by omega), (by omega), ?_⟩
    rw [Int.toNat_natCast]
    refine comp_range (lo := 0) (n := m) (fun i ys H2 => H2 = H ∧ ys = vI (List.replicate i 0)) ⟨rfl, rfl⟩ ?_ ?_ ?_ ?_
    · rintro i ys H2 hi ⟨rfl, rfl⟩
      rw [vI_len, List.length_replicate]
      omega
    · omega
    · rintro i ys H2 hi ⟨rfl, rfl⟩
      refine CTurn.no ?_
      exact (CN.of hi ⟨rfl, by rw [vI_app, List.replicate_succ']⟩ : CN m (fun i ys H3 => H3 = H2 ∧ ys = vI (List.replicate i 0)) i (vI (List.replicate i 0) ++ [.int 0]) H2)
    · rintro ys H2 q ⟨rfl, rfl⟩ hq
      have s1 : Same H2 (upd H2 q (.lst (vI (List.replicate m 0)))) := .upd hq
      refine ⟨_, rfl, _, rfl, _, _, rfl, .inl (s1.seq hS), _, _, rfl, ⟨by omega, by omega, by omega, by rw [vI_len]; omega⟩, ?_⟩
      rw [vI_len]
      refine for_range (lo := (b : Int)) (n := ((ns.length : Int) - (b : Int)).toNat) (fun i σ H3 => ∃ (ks : List Int) (v1 v2 : Option V), σ = [some (.ref a), some (.int (b : Int)), some (.int (m : Int)), some (.ref q), v1, v2] ∧ Same H2 H3 ∧ H3 q = some (.lst (vI ks)) ∧ ks.length = m)
        ⟨_, none, none, rfl, s1, upd_same, by rw [List.length_replicate]⟩ ?_ ?_
      · rintro i σ H3 hi ⟨ks, v1, v2, rfl, s3, hq3, hkl⟩
        have hix : ((b : Int) + (i : Int) - (b : Int)) % (m : Int) = ((i % m : Nat) : Int) := by rw [show (b : Int) + (i : Int) - (b : Int) = (i : Int) by omega]; omega
        have hlt : i % m < ks.length := by rw [hkl]; exact Nat.mod_lt _ (by omega)
        have e1 : (vI ks)[(((b : Int) + (i : Int) - (b : Int)) % (m : Int)).toNat]? = some (.int ks[i % m]) := by
          rw [hix, Int.toNat_natCast]
          exact vI_get (List.getElem?_eq_getElem hlt)
        have hbi : b + i < ns.length := by omega
        have e2 : (vI ns)[((b : Int) + (i : Int)).toNat]? = some (.int ns[b + i]) := by
          rw [show ((b : Int) + (i : Int)).toNat = b + i by omega]
          exact vI_get (List.getElem?_eq_getElem hbi)
        have n1 : 0 ≤ ((b : Int) + (i : Int) - (b : Int)) % (m : Int) := by rw [hix]; omega
        refine ⟨_, rfl, _, rfl, _, _, rfl, rfl, _, rfl, _, _, rfl, rfl, (by show (0 : Int) < m; omega), ?_⟩
        refine ⟨_, rfl, _, rfl, _, _, _, _, rfl, rfl, SqL.of hq3, atI_of n1 e1, ?_⟩
        refine ⟨_, rfl, _, rfl, _, _, _, _, rfl, rfl, s3.seq hS, atI_of (by omega) e2, ?_⟩
        refine ⟨_, _, rfl, rfl, ⟨by decide, by decide, by decide⟩, ?_⟩
        refine ⟨_, _, rfl, rfl, (by show (0 : Int) < 10 ^ 61; decide), ?_⟩
        refine ⟨_, _, rfl, rfl, ?_⟩
        refine ⟨_, rfl, _, rfl, _, _, _, _, rfl, rfl, hq3, ixN_of n1 (by rw [vI_len, hkl, hix]; omega), ?_⟩
        rw [vI_set]
        exact ⟨_, _, _, rfl, s3.over hq, upd_same, by rw [List.length_set]; exact hkl⟩
      · rintro σ H3 ⟨ks, v1, v2, rfl, s3, hq3, hkl⟩
        exact ⟨_, rfl, k q ks H3 s3 hq hq3 hkl⟩
def sp_size : Sp := fun vs H Q _ => ∃ (c z : Int), vs = [.int c, .int z] ∧ 0 < z ∧ z ≤ 40 ∧ ∀ r : Nat, 1 ≤ r → r ≤ 40 → Q (.int (r : Int)) H
theorem ok_law_size (T : Txt K mg t) : FnOk P w K mg base CX0 1 t.f_law_size t.d_law_size ["cell", "small"] sp_size := by
  refine T.law_size.F.ok sc_law_size (fun vs H Q E h => ?_) (fun cdv A outer s H vs Q E hr h => ?_)
  · obtain ⟨c, z, rfl, _⟩ := h
    rfl
  · obtain ⟨c, z, rfl, h1, h2, k⟩ := h
    have kk : ∀ x : Int, 1 ≤ x → x ≤ 40 → Q (.int x) H := fun x hx1 hx2 => by
      have := k x.toNat (by omega) (by omega)
      rwa [Int.toNat_of_nonneg (by omega)] at this
    refine ⟨_, (pss_cons (ps_if (pt_cmpR op_eq (pe_op op_mod (pe_op op_fdiv (pv 0) (pv 1)) pe_int) pe_int (nomark _))
        (pss_one (ps_ret (pe_op op_add pe_int (pe_op op_mod (pe_op op_fdiv (pv 0) (pe_op op_mul pe_int (pv 1))) pe_int))))
        pss_nil)
      (pss_one (ps_ret (pe_op op_add pe_int (pe_op op_mod (pv 0) (pv 1)))))), ?_⟩
    refine ⟨_, rfl, _, rfl, _, _, rfl, rfl, ⟨h1, by omega⟩, _, _, rfl, rfl, (by show (0 : Int) < 4; decide), rfl, _, rfl, ?_⟩
    refine ite2D (fun _ => ?_) (fun _ => ?_)
    · refine ⟨_, rfl, _, rfl, _, _, rfl, rfl, .inl ⟨by decide, by decide⟩, _, _, rfl, rfl, ⟨by omega, by omega⟩, _, _, rfl, rfl, (by show (0 : Int) < 40; decide), _, _, rfl, rfl, ?_⟩
      have := Int.emod_nonneg (c / (4 * z)) (show (40 : Int) ≠ 0 by decide)
      have := Int.emod_lt_of_pos (c / (4 * z)) (show (0 : Int) < 40 by decide)
      exact kk _ (by omega) (by omega)
    · refine ⟨_, rfl, _, rfl, _, _, rfl, rfl, h1, _, _, rfl, rfl, ?_⟩
      have := Int.emod_nonneg c (show z ≠ 0 by omega)
      have := Int.emod_lt_of_pos c h1
      exact kk _ (by omega) (by omega)
def sp_thr (K : PySem.W.Frag) : Sp := fun vs H Q _ => ∃ (a : Addr) (ns : List Int) (m h : Nat), vs = [.ref a, .int (m : Int), .int (h : Int)] ∧ SqL K H a (vI ns) ∧ ns.length ≤ 63 ∧ 1 ≤ m ∧ m ≤ 40 ∧ 1 ≤ h ∧ h ≤ 40 ∧
  ∀ (l : Addr) (th : List Int) (H' : Hp), Same H H' → H l = none → H' l = some (.lst (vI th)) → th.length = m → (∀ v ∈ th, 0 ≤ v ∧ v < (h : Int)) → Q (.ref l) H'
theorem ok_law_threading (T : Txt K mg t) : FnOk P w K mg base CX0 2 t.f_law_threading t.d_law_threading ["script", "ends", "high"] (sp_thr K) := by
  have G_law_sums : FnOk P w K mg base CX0 1 t.f_law_sums t.d_law_sums _ _ := ok_law_sums T
  have G_law_cell_at : FnOk P w K mg base CX0 1 t.f_law_cell_at t.d_law_cell_at _ _ := ok_law_cell_at T
  refine T.law_threading.F.ok sc_law_threading (fun vs H Q E h => ?_) (fun cdv A outer s H vs Q E hr h => ?_)
  · obtain ⟨a, ns, m, h, rfl, _⟩ := h
    rfl
  · obtain ⟨a, ns, m, h, rfl, hS, hl, m1, m40, h1, h40, k⟩ := h
    have hsz : sizeLine = 16777216 := sizeLine_eq
    refine ⟨_, (pss_cons (ps_set (i := 3) sc_law_threading.nd rfl (Or.inr rfl) (pe_op op_fdiv (pe_call (G_law_cell_at.mono (by decide)) hr rfl T.law_cell_at.m T.law_cell_at.F.kp T.law_cell_at.b .nil pass0 (pa_cons (pv 0) (pa_cons pe_int pa_nil))) pe_int))
      (pss_cons (ps_set (i := 4) sc_law_threading.nd rfl (Or.inr rfl) (pe_call (G_law_sums.mono (by decide)) hr rfl T.law_sums.m T.law_sums.F.kp T.law_sums.b .nil pass0 (pa_cons (pv 0) (pa_cons pe_int (pa_cons (pv 1) pa_nil)))))
      (pss_one (ps_ret (pe_comp (CompOk.mk (caps := [2, 3, 4]) (Nc := ["k", "high", "step", "sums"]) rfl (by decide +kernel) (by decide +kernel) (comp_fr (sc0 := defScope s_law_threading) rfl (by decide +kernel)) rfl rfl rfl (by decide +kernel) (fun k j h => match k, h with | 0, h => by obtain rfl := Option.some.inj h; exact ⟨_, rfl, rfl, rfl⟩ | 1, h => by obtain rfl := Option.some.inj h; exact ⟨_, rfl, rfl, rfl⟩ | 2, h => by obtain rfl := Option.some.inj h; exact ⟨_, rfl, rfl, rfl⟩ | _ + 3, h => by simp at h)) rfl (pi_range1 rfl T.b_range (pa_cons (pv 1) pa_nil)) (fun _ _ _ _ _ => .nil) (fun _ _ _ _ _ => (pe_op op_mod (pe_op op_add (pe_ix (ix_listK (K := K)) (pv 3) (pv 0) (fun _ _ => rfl)) (pe_op op_mulW (pv 0) (pv 2))) (pv 1)))))))), ?_⟩
    refine ⟨_, rfl, a, ns, 2, rfl, hS, by decide, fun c c0 c1 => ⟨_, _, rfl, rfl, ⟨by decide, by decide⟩, ?_⟩⟩
    have sb : (c / 3).natAbs < 10 ^ 61 := by omega
    dsimp only
    generalize c / 3 = st at sb ⊢
    refine ⟨_, rfl, _, rfl, a, ns, 3, m, rfl, hS, hl, by decide, m1, by omega, fun l1 ks H1 s1 nl1 hl1 hkl => ?_⟩
    refine ⟨_, rfl, _, rfl, (by omega), (by omega), ?_⟩
    rw [Int.toNat_natCast]
    refine comp_range (lo := 0) (n := m) (fun i ys H2 => H2 = H1 ∧ ∃ zs : List Int, ys = vI zs ∧ zs.length = i ∧ ∀ v ∈ zs, 0 ≤ v ∧ v < (h : Int)) ⟨rfl, [], rfl, rfl, fun v hv => by cases hv⟩ ?_ ?_ ?_ ?_
    · rintro i ys H2 hi ⟨rfl, zs, rfl, hz, _⟩
      rw [vI_len]
      omega
    · omega
    · rintro i ys H2 hi ⟨rfl, zs, rfl, hz, hall⟩
      have hik : i < ks.length := by omega
      have e1 : atI (vI ks) (0 + (i : Int)) = some (.int ks[i]) := atI_of (by omega) (by rw [z0]; exact vI_get (List.getElem?_eq_getElem hik))
      refine CTurn.no ?_
      refine ⟨_, rfl, _, rfl, _, _, _, _, rfl, rfl, SqL.of hl1, e1, _, rfl, _, rfl, _, _, rfl, rfl, ⟨Nat.lt_of_lt_of_le (show (0 + (i : Int)).natAbs < 2 ^ 6 by omega) (by decide), Nat.lt_of_lt_of_le sb (by decide)⟩, _, _, rfl, rfl, _, rfl, _, _, rfl, rfl, (by show (0 : Int) < (h : Int); omega), ?_⟩
      refine CN.of hi ⟨rfl, zs ++ [_], vI_app .., by rw [List.length_append, hz]; rfl, fun v hv => ?_⟩
      rcases List.mem_append.mp hv with hv | hv
      · exact hall v hv
      · rw [List.mem_singleton.mp hv]
        exact ⟨Int.emod_nonneg _ (by omega), Int.emod_lt_of_pos _ (by omega)⟩
    · rintro ys H2 p ⟨rfl, zs, rfl, hz, hall⟩ np
      exact k p zs _ (s1.new np) (s1.free np) upd_same hz hall
theorem below {ks : List Int} {i : Nat} (h : ∀ k ∈ ks, k < (i : Int)) : ∀ k ∈ ks ++ [0 + (i : Int)], k < ((i + 1 : Nat) : Int) := fun k hk => by
  rcases List.mem_append.mp hk with h1 | h1
  · have := h k h1; omega
  · rw [List.mem_singleton.mp h1]; omega
def sp_tieN : Sp := fun vs H Q _ => ∃ (n : Int) (h : Nat), vs = [.int n, .int (h : Int)] ∧ h ≤ 40 ∧ ∀ (l : Addr) (ks : List Int) (H' : Hp), Same H H' → H l = none → H' l = some (.lst (vI ks)) → Rs ks → ks.length ≤ 40 → (∀ k ∈ ks, k < (h : Int)) → Q (.ref l) H'
theorem ok_law_tie (T : Txt K mg t) : FnOk P w K mg base CX0 1 t.f_law_tie t.d_law_tie ["number", "high"] sp_tieN := by
  refine T.law_tie.F.ok sc_law_tie (fun vs H Q E h => ?_) (fun cdv A outer s H vs Q E hr h => ?_)
  · obtain ⟨n, h, rfl, _⟩ := h
    rfl
  · obtain ⟨n, h, rfl, h40, k⟩ := h
    refine ⟨_, (pss_cons (ps_set (i := 2) sc_law_tie.nd rfl (Or.inl rfl) (pe_lst pa_nil))
      (pss_cons (ps_for PassesOwn.never rfl (pi_range1 rfl T.b_range (pa_cons (pv 1) pa_nil)) (pg_name (i := 3) sc_law_tie.nd rfl (Or.inl rfl))
        (pss_cons (ps_if (pt_cmpR op_eq (pe_op op_mod (pv 0) pe_int) pe_int (nomark _))
          (pss_one (ps_expr (pe_bmK (K := K) PySem.F.plainAttrs_list PySem.F.slot_list_append PySem.F.type_list_append mt_append (pv 2) (pa_cons (pv 3) pa_nil))))
          pss_nil)
        (pss_one (ps_set (i := 0) sc_law_tie.nd rfl (Or.inl rfl) (pe_op op_fdiv (pv 0) pe_int)))))
      (pss_one (ps_ret (pv 2))))), ?_⟩
    refine ⟨Nat.zero_le _, fun p hp => ?_⟩
    refine ⟨_, rfl, _, rfl, (by omega), (by have := sizeLine_eq; omega), ?_⟩
    rw [Int.toNat_natCast]
    refine for_range (lo := 0) (n := h) (fun i σ H2 => ∃ (z : Int) (ks : List Int) (v : Option V), σ = [some (.int z), some (.int (h : Int)), some (.ref p), v] ∧ Same H H2 ∧ H2 p = some (.lst (vI ks)) ∧ ks.length ≤ i ∧ Rs ks ∧ ∀ k ∈ ks, k < (i : Int))
      ⟨_, [], none, rfl, .upd hp, upd_same, Nat.le_refl _, rs_nil, fun k h => (by cases h)⟩ ?_ ?_
    · rintro i σ H2 hi ⟨z, ks, v, rfl, s2, hp2, hkl, R, lt⟩
      refine ⟨_, rfl, _, _, rfl, rfl, (by show (0 : Int) < 2; decide), rfl, _, rfl, ?_⟩
      refine ite2D (fun _ => ?_) (fun _ => ?_)
      · refine ⟨_, rfl, .inl ⟨rfl, _, SqL.of hp2⟩, _, rfl, _, _, _, rfl, rfl, hp2, (by rw [vI_len]; exact small1000 (by omega)), ?_⟩
        rw [vI_app]
        refine ⟨_, rfl, _, _, rfl, rfl, ⟨by decide, by decide⟩, ?_⟩
        exact ⟨_, _, _, rfl, s2.over hp, upd_same, by rw [List.length_append, List.length_singleton]; omega, rs_add R (fun k h => by have := lt k h; omega) (by omega) (by omega), below lt⟩
      · refine ⟨_, rfl, _, _, rfl, rfl, ⟨by decide, by decide⟩, ?_⟩
        exact ⟨_, _, _, rfl, s2, hp2, by omega, R, fun k h => by have := lt k h; omega⟩
    · rintro σ H2 ⟨z, ks, v, rfl, s2, hp2, hkl, R, lt⟩
      exact ⟨_, rfl, k p ks H2 s2 hp hp2 R (by omega) lt⟩
def sp_tiesN (K : PySem.W.Frag) : Sp := fun vs H Q _ => ∃ (a : Addr) (ns : List Int) (m h : Nat), vs = [.ref a, .int (m : Int), .int (h : Int)] ∧ SqL K H a (vI ns) ∧ ns.length ≤ 63 ∧ 1 ≤ m ∧ m ≤ 40 ∧ 1 ≤ h ∧ h ≤ 40 ∧
  ∀ (l : Addr) (rs : List Addr) (tss : List (List Int)) (H' : Hp), Same H H' → H l = none → (∀ r ∈ rs, H r = none) → NL H' l rs tss → tss.length = m → (∀ ks ∈ tss, Rs ks ∧ ks.length ≤ 40 ∧ ∀ k ∈ ks, k < (h : Int)) → Q (.ref l) H'
theorem ok_law_ties (T : Txt K mg t) : FnOk P w K mg base CX0 2 t.f_law_ties t.d_law_ties ["script", "treadles", "high"] (sp_tiesN K) := by
  have G_law_sums : FnOk P w K mg base CX0 1 t.f_law_sums t.d_law_sums _ _ := ok_law_sums T
  have G_law_cell_at : FnOk P w K mg base CX0 1 t.f_law_cell_at t.d_law_cell_at _ _ := ok_law_cell_at T
  have G_law_tie : FnOk P w K mg base CX0 1 t.f_law_tie t.d_law_tie _ _ := ok_law_tie T
  refine T.law_ties.F.ok sc_law_ties (fun vs H Q E h => ?_) (fun cdv A outer s H vs Q E hr h => ?_)
  · obtain ⟨a, ns, m, h, rfl, _⟩ := h
    rfl
  · obtain ⟨a, ns, m, h, rfl, hS, hl, m1, m40, h1, h40, k⟩ := h
    have hsz : sizeLine = 16777216 := sizeLine_eq
    refine ⟨_, (pss_cons (ps_set (i := 3) sc_law_ties.nd rfl (Or.inr rfl) (pe_call (G_law_sums.mono (by decide)) hr rfl T.law_sums.m T.law_sums.F.kp T.law_sums.b .nil pass0 (pa_cons (pv 0) (pa_cons pe_int (pa_cons (pv 1) pa_nil)))))
      (pss_cons (ps_set (i := 4) sc_law_ties.nd rfl (Or.inr rfl) (pe_op op_mod (pe_op op_fdiv (pe_call (G_law_cell_at.mono (by decide)) hr rfl T.law_cell_at.m T.law_cell_at.F.kp T.law_cell_at.b .nil pass0 (pa_cons (pv 0) (pa_cons pe_int pa_nil))) pe_int) pe_int))
      (pss_one (ps_ret (pe_comp (CompOk.mk (caps := [2, 3, 4]) (Nc := ["k", "high", "sums", "start"]) rfl (by decide +kernel) (by decide +kernel) (comp_fr (sc0 := defScope s_law_ties) rfl (by decide +kernel)) rfl rfl rfl (by decide +kernel) (fun k j h => match k, h with | 0, h => by obtain rfl := Option.some.inj h; exact ⟨_, rfl, rfl, rfl⟩ | 1, h => by obtain rfl := Option.some.inj h; exact ⟨_, rfl, rfl, rfl⟩ | 2, h => by obtain rfl := Option.some.inj h; exact ⟨_, rfl, rfl, rfl⟩ | _ + 3, h => by simp at h)) rfl (pi_range1 rfl T.b_range (pa_cons (pv 1) pa_nil)) (fun _ _ _ _ _ => .nil) (fun _ _ _ _ _ => (pe_call (G_law_tie.mono (by decide)) hr rfl T.law_tie.m T.law_tie.F.kp T.law_tie.b .nil pass0 (pa_cons (pe_op op_add (pe_op op_fdiv (pe_ix (ix_listK (K := K)) (pv 2) (pv 0) (fun _ _ => rfl)) pe_int) (pe_op op_mod (pe_op op_mul (pv 3) (pe_op op_add (pe_op op_mul (pv 0) (pv 0)) pe_int)) pe_int)) (pa_cons (pv 1) pa_nil))))))))), ?_⟩
    refine ⟨_, rfl, _, rfl, a, ns, 3, m, rfl, hS, hl, by decide, m1, by omega, fun l1 ks H1 s1 nl1 hl1 hkl => ?_⟩
    refine ⟨_, rfl, a, ns, 1, rfl, s1.seq hS, by decide, fun c c0 c1 => ⟨_, _, rfl, rfl, ⟨by decide, by decide⟩, _, _, rfl, rfl, (by show (0 : Int) < 2147483647; decide), ?_⟩⟩
    have st0 := Int.emod_nonneg (c / 160) (show (2147483647 : Int) ≠ 0 by decide)
    have st1 := Int.emod_lt_of_pos (c / 160) (show (0 : Int) < 2147483647 by decide)
    dsimp only
    generalize c / 160 % 2147483647 = st at st0 st1 ⊢
    refine ⟨_, rfl, _, rfl, (by omega), (by omega), ?_⟩
    rw [Int.toNat_natCast]
    refine comp_range (lo := 0) (n := m) (fun i ys H2 => Same H1 H2 ∧ ∃ (rs : List Addr) (tss : List (List Int)), ys = rs.map V.ref ∧ rs.length = i ∧ tss.length = i ∧ (∀ r ∈ rs, H1 r = none) ∧ (∀ (j : Nat) (r : Addr) (k : List Int), rs[j]? = some r → tss[j]? = some k → H2 r = some (.lst (vI k))) ∧ ∀ ks ∈ tss, Rs ks ∧ ks.length ≤ 40 ∧ ∀ k ∈ ks, k < (h : Int))
      ⟨.refl _, [], [], rfl, rfl, rfl, fun r h => (by cases h), fun j r k h => (by simp at h), fun ks h => (by cases h)⟩ ?_ ?_ ?_ ?_
    · rintro i ys H2 hi ⟨s2, rs, tss, rfl, hr1, _⟩
      rw [List.length_map]
      omega
    · omega
    · rintro i ys H2 hi ⟨s2, rs, tss, rfl, hr1, ht1, nr, hrow, hall⟩
      have hik : i < ks.length := by omega
      have e1 : atI (vI ks) (0 + (i : Int)) = some (.int ks[i]) := atI_of (by omega) (by rw [z0]; exact vI_get (List.getElem?_eq_getElem hik))
      refine CTurn.no ?_
      refine ⟨_, rfl, _, rfl, _, _, _, _, rfl, rfl, SqL.of (s2 _ _ hl1), e1, _, _, rfl, rfl, ⟨by decide, by decide⟩, ?_⟩
      refine ⟨_, rfl, _, rfl, _, rfl, _, _, rfl, rfl, .inl ⟨by omega, by omega⟩, _, _, rfl, rfl, ?_⟩
      have kb : (0 + (i : Int)) * (0 + (i : Int)) + 1 ≤ 1700 ∧ 0 ≤ (0 + (i : Int)) * (0 + (i : Int)) + 1 := by
        have : (i * i : Nat) ≤ 40 * 40 := Nat.mul_le_mul (by omega) (by omega)
        have e : (0 + (i : Int)) * (0 + (i : Int)) = ((i * i : Nat) : Int) := by rw [Int.natCast_mul]; simp
        rw [e]; omega
      refine ⟨_, _, rfl, rfl, .inl ⟨by omega, by omega⟩, _, _, rfl, rfl, (by show (0 : Int) < 1000003; decide), _, _, rfl, rfl, _, rfl, _, h, rfl, h40, fun l zs H3 s3 nl hl3 R zl zb => ?_⟩
      refine CN.of hi ⟨s2.trans s3, rs ++ [l], tss ++ [zs], by rw [List.map_append]; rfl, by rw [List.length_append, hr1]; rfl, by rw [List.length_append, ht1]; rfl, fun r hm => ?_, fun j r k g1 g2 => ?_, fun ks hm => ?_⟩
      · rcases List.mem_append.mp hm with hm | hm
        · exact nr r hm
        · rw [List.mem_singleton.mp hm]; exact s2.free nl
      · by_cases hj : j < rs.length
        · rw [List.getElem?_append_left hj] at g1
          rw [List.getElem?_append_left (by omega)] at g2
          exact s3 _ _ (hrow j r k g1 g2)
        · rw [List.getElem?_append_right (by omega)] at g1
          rw [List.getElem?_append_right (by omega)] at g2
          have := (List.getElem?_eq_some_iff.mp g1).1
          simp at this
          rw [show j - rs.length = 0 by omega] at g1
          rw [show j - tss.length = 0 by omega] at g2
          cases g1
          cases g2
          exact hl3
      · rcases List.mem_append.mp hm with hm | hm
        · exact hall ks hm
        · rw [List.mem_singleton.mp hm]; exact ⟨R, zl, zb⟩
    · rintro ys H2 p ⟨s2, rs, tss, rfl, hr1, ht1, nr, hrow, hall⟩ np
      refine k p rs tss _ ((s1.trans s2).new np) ((s1.trans s2).free np) (fun r hm => s1.free (nr r hm)) ⟨upd_same, by omega, fun j r ks g1 g2 => (Same.upd np) _ _ (hrow j r ks g1 g2)⟩ ht1 hall
theorem rise_snoc {l : List Int} {z : Int} (h : l.Pairwise (· < ·)) (hz : ∀ y ∈ l, y < z) : (l ++ [z]).Pairwise (· < ·) := by
  rw [List.pairwise_append]
  exact ⟨h, List.pairwise_singleton _ _, fun a ha b hb => by rw [List.mem_singleton.mp hb]; exact hz a ha⟩
theorem rise_ext : ∀ {a b : List Int}, a.Pairwise (· < ·) → b.Pairwise (· < ·) → (∀ z, z ∈ a ↔ z ∈ b) → a = b
  | [], [], _, _, _ => rfl
  | [], y :: b, _, _, h => absurd ((h y).mpr List.mem_cons_self) (by simp)
  | x :: a, [], _, _, h => absurd ((h x).mp List.mem_cons_self) (by simp)
  | x :: a, y :: b, ha, hb, h => by
    have ha' := List.pairwise_cons.mp ha
    have hb' := List.pairwise_cons.mp hb
    have e : x = y := by
      rcases List.mem_cons.mp ((h x).mp List.mem_cons_self) with e | hx
      · exact e
      · rcases List.mem_cons.mp ((h y).mpr List.mem_cons_self) with e | hy
        · exact e.symm
        · have := ha'.1 y hy
          have := hb'.1 x hx
          omega
    subst e
    refine congrArg (x :: ·) (rise_ext ha'.2 hb'.2 fun z => ⟨fun hz => ?_, fun hz => ?_⟩)
    · rcases List.mem_cons.mp ((h z).mp (List.mem_cons_of_mem _ hz)) with e | q
      · have := ha'.1 z hz; omega
      · exact q
    · rcases List.mem_cons.mp ((h z).mpr (List.mem_cons_of_mem _ hz)) with e | q
      · have := hb'.1 z hz; omega
      · exact q
def vB (bs : List Bool) : List V := bs.map V.bl
theorem vB_len (bs : List Bool) : (vB bs).length = bs.length := by unfold vB; rw [List.length_map]
theorem vB_at {bs : List Bool} {i : Nat} (h : i < bs.length) : atI (vB bs) (i : Int) = some (.bl bs[i]) := atI_of (by omega) (by rw [Int.toNat_natCast]; unfold vB; rw [List.getElem?_map, List.getElem?_eq_getElem h]; rfl)
def Mk (tss : List (List Int)) (bs : List Bool) (n : Nat) (z : Int) : Prop := ∃ k : Nat, k < n ∧ bs[k]? = some true ∧ z ∈ tss.getD k []
def Seen (kvs : List (Key × V)) (p : Int → Prop) : Prop := ∀ z : Int, (valV kvs (Sum.inl z)).isSome = true ↔ p z
theorem Seen.put {kvs : List (Key × V)} {p : Int → Prop} (h : Seen kvs p) (z : Int) (v : V) : Seen (putK kvs (Sum.inl z) v) fun y => p y ∨ y = z := fun y => by
  rw [valV_put]
  by_cases e : y = z
  · subst e; simp
  · rw [if_neg (fun q => e (Sum.inl.inj q)), h y]
    simp [e]
def sp_llift : Sp := fun vs H Q _ => ∃ (y dw : Addr) (rs : List Addr) (tss : List (List Int)) (bs : List Bool), vs = [.ref y, .ref dw] ∧ NL H y rs tss ∧ H dw = some (.lst (vB bs)) ∧ bs.length = tss.length ∧ tss.length ≤ 40 ∧ (∀ ks ∈ tss, Rs ks ∧ ks.length ≤ 40) ∧
  ∀ (l : Addr) (ks : List Int) (H' : Hp), Same H H' → H l = none → H' l = some (.lst (vI ks)) → (∀ z, z ∈ ks ↔ Mk tss bs tss.length z) → ks.Pairwise (· < ·) → Q (.ref l) H'
theorem ok_law_lifted (T : Txt K mg t) : FnOk P w K mg base CX0 1 t.f_law_lifted t.d_law_lifted ["ties", "down"] sp_llift := by
  refine T.law_lifted.F.ok sc_law_lifted (fun vs H Q E h => ?_) (fun cdv A outer s H vs Q E hr h => ?_)
  · obtain ⟨y, dw, rs, tss, bs, rfl, _⟩ := h
    rfl
  · obtain ⟨y, dw, rs, tss, bs, rfl, N, hd, bl, t40, hti, k⟩ := h
    have hsz : sizeLine = 16777216 := sizeLine_eq
    have rl := N.l
    refine ⟨_, (pss_cons (ps_set (i := 2) sc_law_lifted.nd rfl (Or.inr rfl) pe_dnewK)
      (pss_cons (ps_for PassesOwn.never rfl (pi_range1 rfl T.b_range (pa_cons (pe_callB (call_len_seqK (K := K)) rfl T.b_len bt_len (pa_cons (pv 0) pa_nil)) pa_nil)) (pg_name (i := 3) sc_law_lifted.nd rfl (Or.inl rfl))
        (pss_one (ps_if (pt_val (pe_ix (ix_listK (K := K)) (pv 1) (pv 3) (fun _ _ => rfl)))
          (pss_one (ps_for PassesOwn.never rfl (pi_listK (K := K) (pe_ix (ix_listK (K := K)) (pv 0) (pv 3) (fun _ _ => rfl))) (pg_name (i := 4) sc_law_lifted.nd rfl (Or.inl rfl))
            (pss_one (ps_dput (hu_of hr) (pv 2) (pv 4) pe_bl rfl))))
          pss_nil)))
      (pss_one (ps_ret (pe_comp (CompOk.mk (caps := [2]) (Nc := ["shaft", "lifted"]) rfl (by decide +kernel) (by decide +kernel) (comp_fr (sc0 := defScope s_law_lifted) rfl (by decide +kernel)) rfl rfl rfl (by decide +kernel) (fun k j h => match k, h with | 0, h => by obtain rfl := Option.some.inj h; exact ⟨_, rfl, rfl, rfl⟩ | _ + 1, h => by simp at h)) rfl (pi_range1 rfl T.b_range (pa_cons pe_int pa_nil)) (fun _ _ _ _ _ => .one (pt_cmp (pc_din (hu_of hr) (pv 0) (pv 1)))) (fun _ _ _ _ _ => (pv 0))))))), ?_⟩
    refine fun d nd => ?_
    have s1 : Same H (upd H d (.dK [])) := .upd nd
    have h1 : (upd H d (.dK [])) d = some (.dK []) := upd_same
    generalize upd H d (.dK []) = H1 at s1 h1 ⊢
    refine ⟨_, rfl, _, _, rfl, .inl (SqL.of (s1 _ _ N.h)), _, rfl, (by omega), (by rw [List.length_map]; omega), ?_⟩
    rw [Int.toNat_natCast, List.length_map]
    refine for_range (lo := 0) (n := rs.length) (fun i σ H2 => ∃ (kvs : List (Key × V)) (v1 v2 : Option V), σ = [some (.ref y), some (.ref dw), some (.ref d), v1, v2] ∧ Same H H2 ∧ H2 d = some (.dK kvs) ∧ kvs.length ≤ 40 * i ∧ Seen kvs (Mk tss bs i)) ⟨[], none, none, rfl, s1, h1, Nat.zero_le _, fun z => ?_⟩ ?_ ?_
    · constructor
      · intro q; cases q
      · rintro ⟨k, hk, _⟩; omega
    · rintro i σ H2 hi ⟨kvs, v1, v2, rfl, s2, h2, kl, sn⟩
      have hib : i < bs.length := by omega
      have hit : i < tss.length := by omega
      have e1 : atI (vB bs) (0 + (i : Int)) = some (.bl bs[i]) := by rw [Int.zero_add]; exact vB_at hib
      refine ⟨_, rfl, _, rfl, _, _, _, _, rfl, rfl, SqL.of (s2 _ _ hd), e1, _, rfl, ?_⟩
      have mono : ∀ z, Mk tss bs (i + 1) z ↔ Mk tss bs i z ∨ (bs[i] = true ∧ z ∈ tss[i]) := fun z => by
        constructor
        · rintro ⟨k, hk, e, hz⟩
          by_cases c : k = i
          · subst c
            rw [List.getElem?_eq_getElem hib] at e
            rw [show tss.getD k [] = tss[k] by simp [List.getD, hit]] at hz
            exact .inr ⟨Option.some.inj e, hz⟩
          · exact .inl ⟨k, by omega, e, hz⟩
        · rintro (⟨k, hk, e, hz⟩ | ⟨e, hz⟩)
          · exact ⟨k, by omega, e, hz⟩
          · exact ⟨i, by omega, by rw [List.getElem?_eq_getElem hib, e], by rw [show tss.getD i [] = tss[i] by simp [List.getD, hit]]; exact hz⟩
      by_cases hb : bs[i] = true
      · rw [hb]
        refine iteT ?_
        have hir : i < rs.length := by omega
        have hrow : ∀ H3, Same H H3 → H3 rs[i] = some (.lst (vI tss[i])) := fun H3 s3 => s3 _ _ (N.r i rs[i] tss[i] (List.getElem?_eq_getElem hir) (List.getElem?_eq_getElem hit))
        have ai : atI (rs.map V.ref) (0 + (i : Int)) = some (.ref rs[i]) := atI_of (by omega) (by rw [z0, List.getElem?_map, List.getElem?_eq_getElem hir]; rfl)
        have l40 := (hti _ (List.getElem_mem hit)).2
        refine ⟨_, rfl, _, rfl, _, _, _, _, rfl, rfl, SqL.of (s2 _ _ N.h), ai, _, rfl, ⟨_, SqL.of (hrow _ s2)⟩, for_list (K := K) (a := rs[i]) (xs := vI tss[i]) (fun j σ H3 => ∃ (kvs : List (Key × V)) (v2 : Option V), σ = [some (.ref y), some (.ref dw), some (.ref d), some (.int (0 + (i : Int))), v2] ∧ Same H H3 ∧ H3 d = some (.dK kvs) ∧ kvs.length ≤ 40 * i + j ∧ Seen kvs fun z => Mk tss bs i z ∨ z ∈ tss[i].take j)
          ⟨kvs, v2, rfl, s2, h2, kl, fun z => by rw [sn z]; simp⟩ (fun j σ H3 _ ⟨_, _, _, s3, _⟩ => SqL.of (hrow _ s3)) ?_ ?_⟩
        · rintro j x σ H3 hx ⟨kvs, v2, rfl, s3, h3, kl3, sn3⟩
          obtain ⟨z, hz, rfl⟩ := vI_got hx
          have hj : j < tss[i].length := (List.getElem?_eq_some_iff.mp hz).1
          refine ⟨_, rfl, _, rfl, d, _, rfl, DPut.k (k := Sum.inl z) h3 (by omega), ?_⟩
          refine ⟨_, _, rfl, s3.over nd, upd_same, by have := length_putK kvs (Sum.inl z) (.bl true); omega, fun u => ?_⟩
          rw [(sn3.put z (.bl true)) u, List.take_add_one, hz]
          simp [or_assoc]
        · rintro σ H3 ⟨kvs, v2, rfl, s3, h3, kl3, sn3⟩
          rw [vI_len, List.take_length] at sn3
          rw [vI_len] at kl3
          refine ⟨kvs, _, _, rfl, s3, h3, by omega, fun z => ?_⟩
          rw [sn3 z, mono z, hb]
          simp
      · have hb' : bs[i] = false := by simpa using hb
        rw [hb']
        refine iteF ?_
        refine ⟨kvs, _, _, rfl, s2, h2, by omega, fun z => ?_⟩
        rw [sn z, mono z, hb']
        simp
    · rintro σ H2 ⟨kvs, v1, v2, rfl, s2, h2, kl, sn⟩
      rw [rl] at sn
      refine ⟨_, rfl, (by decide), (by decide), ?_⟩
      refine comp_range (lo := 0) (n := 40) (fun i ys H3 => H3 = H2 ∧ ∃ zs : List Int, ys = vI zs ∧ zs.length ≤ i ∧ zs.Pairwise (· < ·) ∧ ∀ z, z ∈ zs ↔ (0 ≤ z ∧ z < (i : Int)) ∧ Mk tss bs tss.length z) ⟨rfl, [], rfl, Nat.le_refl _, .nil, fun z => ?_⟩ ?_ ?_ ?_ ?_
      · constructor
        · intro q; cases q
        · rintro ⟨⟨q1, q2⟩, _⟩; omega
      · rintro i ys H3 hi ⟨rfl, zs, rfl, hz, _⟩
        rw [vI_len]; exact hz
      · decide
      · rintro i ys H3 hi ⟨rfl, zs, rfl, hz, hp, hm⟩
        refine ⟨_, rfl, _, rfl, d, _, rfl, DGet.k (k := Sum.inl (0 + (i : Int))) h2, _, rfl, ?_⟩
        by_cases hv : Mk tss bs tss.length (0 + (i : Int))
        · rw [(sn _).mpr hv]
          refine iteT ?_
          refine ⟨_, rfl, CN.of hi ⟨rfl, zs ++ [_], vI_app .., by rw [List.length_append, List.length_singleton]; omega, rise_snoc hp (fun y hy => by have := ((hm y).mp hy).1.2; omega), fun z => ?_⟩⟩
          rw [List.mem_append, hm z, List.mem_singleton]
          constructor
          · rintro (⟨⟨q1, q2⟩, q3⟩ | q)
            · exact ⟨⟨q1, by omega⟩, q3⟩
            · exact ⟨⟨by omega, by omega⟩, q ▸ hv⟩
          · rintro ⟨⟨q1, q2⟩, q3⟩
            by_cases c : z < (i : Int)
            · exact .inl ⟨⟨q1, c⟩, q3⟩
            · exact .inr (by omega)
        · have hv' : (valV kvs (Sum.inl (0 + (i : Int)))).isSome = false := by
            cases e : (valV kvs (Sum.inl (0 + (i : Int)))).isSome with
            | false => rfl
            | true => exact absurd ((sn _).mp e) hv
          rw [hv']
          refine iteF (CN.of hi ⟨rfl, zs, rfl, by omega, hp, fun z => ?_⟩)
          rw [hm z]
          constructor
          · rintro ⟨⟨q1, q2⟩, q3⟩
            exact ⟨⟨q1, by omega⟩, q3⟩
          · rintro ⟨⟨q1, q2⟩, q3⟩
            refine ⟨⟨q1, ?_⟩, q3⟩
            rcases (show z < (i : Int) ∨ z = 0 + (i : Int) by omega) with c | c
            · exact c
            · rw [c] at q3; exact absurd q3 hv
      · rintro ys H3 p ⟨rfl, zs, rfl, hz, hp, hm⟩ np
        refine k p zs _ (s2.new np) (s2.free np) upd_same (fun z => ?_) hp
        rw [hm z]
        constructor
        · exact fun q => q.2
        · intro q
          obtain ⟨j, hj, _, hzj⟩ := id q
          rw [show tss.getD j [] = tss[j] by simp [List.getD, hj]] at hzj
          have := (hti _ (List.getElem_mem hj)).1.2 z hzj
          exact ⟨⟨this.1, this.2⟩, q⟩
def sp_lshed (K : PySem.W.Frag) : Sp := fun vs H Q _ => ∃ (x l : Addr) (th ks : List Int), vs = [.ref x, .ref l] ∧ H x = some (.lst (vI th)) ∧ H l = some (.lst (vI ks)) ∧ th.length ≤ 40 ∧ ∀ H', Same H H' → Q (.str (tx (shd th ks))) H'
theorem ok_law_shed (T : Txt K mg t) : FnOk P w K mg base CX0 1 t.f_law_shed t.d_law_shed ["threading", "lifted"] (sp_lshed K) := by
  refine T.law_shed.F.ok sc_law_shed (fun vs H Q E h => ?_) (fun cdv A outer s H vs Q E hr h => ?_)
  · obtain ⟨x, l, th, ks, rfl, _⟩ := h
    rfl
  · obtain ⟨x, l, th, ks, rfl, hx, hl, t40, k⟩ := h
    have hsz : sizeLine = 16777216 := sizeLine_eq
    refine ⟨_, (pss_cons (ps_set (i := 2) sc_law_shed.nd rfl (Or.inl rfl) pe_str)
      (pss_cons (ps_for PassesOwn.never rfl (pi_listK (K := K) (pv 0)) (pg_name (i := 3) sc_law_shed.nd rfl (Or.inl rfl))
        (pss_one (ps_set (i := 2) sc_law_shed.nd rfl (Or.inl rfl) (pe_op op_add_str (pv 2) (pe_ix (ix_listK (K := K)) (pe_lst (pa_cons pe_str (pa_cons pe_str pa_nil))) (pe_callTy call_int1 rfl T.b_int bt_int (pa_cons (pe_cmpR (op_in_seqK (K := K)) (pv 3) (pv 1) rfl) pa_nil)) (fun _ _ => rfl))))))
      (pss_one (ps_ret (pv 2))))), ?_⟩
    have e0 : (("" : Str)) = tx [] := by decide +kernel
    have e46' : (("." : Str)) = tx [46] := by decide +kernel
    have e35' : (("#" : Str)) = tx [35] := by decide +kernel
    refine ⟨_, rfl, _, rfl, ⟨_, SqL.of hx⟩, for_list (K := K) (a := x) (xs := vI th) (fun i σ H2 => ∃ v, σ = [some (.ref x), some (.ref l), some (.str (tx (shd (th.take i) ks))), v] ∧ Same H H2) ⟨none, by rw [e0]; rfl, .refl _⟩ (fun i σ H2 _ ⟨_, _, s2⟩ => SqL.of (s2 _ _ hx)) ?_ ?_⟩
    · rintro i xv σ H2 hxv ⟨v, rfl, s2⟩
      obtain ⟨z, hz, rfl⟩ := vI_got hxv
      have hi : i < th.length := (List.getElem?_eq_some_iff.mp hz).1
      have et : shd (th.take (i + 1)) ks = shd (th.take i) ks ++ [if z ∈ ks then 35 else 46] := by
        unfold shd
        rw [List.take_add_one, hz, List.map_append]
        rfl
      refine ⟨_, rfl, (by show 2 ≤ sizeLine; decide), fun p np => ?_⟩
      have sp := Same.upd (o := .lst [.str ".", .str "#"]) np
      refine ⟨_, rfl, _, rfl, _, _, rfl, .inl (SqL.of (sp _ _ (s2 _ _ hl))), rfl, vI_flat _, .inr ⟨_, rfl, ?_⟩⟩
      show rIxL K (.ref p) (.int (if (inV (.int z) (vI ks)) = true then 1 else 0)) _ _
      rw [inV_vI]
      by_cases hm : z ∈ ks
      · rw [decide_eq_true hm, if_pos rfl]
        refine ⟨_, _, _, _, rfl, rfl, SqL.of upd_same, rfl, ?_⟩
        refine ⟨_, _, rfl, rfl, ?_, ?_⟩
        · rw [e35', tx_len, tx_len, shd_len, List.length_take]; show _ + 1 ≤ sizeLine; omega
        rw [e35', tx_app]
        exact ⟨_, by rw [et, if_pos hm]; rfl, s2.trans sp⟩
      · rw [decide_eq_false hm, if_neg (by decide)]
        refine ⟨_, _, _, _, rfl, rfl, SqL.of upd_same, rfl, ?_⟩
        refine ⟨_, _, rfl, rfl, ?_, ?_⟩
        · rw [e46', tx_len, tx_len, shd_len, List.length_take]; show _ + 1 ≤ sizeLine; omega
        rw [e46', tx_app]
        exact ⟨_, by rw [et, if_neg hm]; rfl, s2.trans sp⟩
    · rintro σ H2 ⟨v, rfl, s2⟩
      rw [vI_len, List.take_length]
      exact ⟨_, rfl, k _ s2⟩
structure Rel (dn : List Int) (bs : List Bool) (n : Nat) : Prop where
  nd : dn.Nodup
  b : ∀ d ∈ dn, 0 ≤ d ∧ d < (n : Int)
  l : bs.length = n
  m : ∀ k : Nat, bs[k]? = some true ↔ (k : Int) ∈ dn
theorem Rel.mk_iff {dn : List Int} {bs : List Bool} {n : Nat} {tss : List (List Int)} (R : Rel dn bs n) (z : Int) : Mk tss bs n z ↔ z ∈ lifts tss dn := by
  unfold Mk lifts
  rw [List.mem_flatten]
  constructor
  · rintro ⟨k, hk, e, hz⟩
    exact ⟨_, List.mem_map.mpr ⟨(k : Int), (R.m k).mp e, rfl⟩, by rw [Int.toNat_natCast]; exact hz⟩
  · rintro ⟨l, hl, hz⟩
    obtain ⟨d, hd, rfl⟩ := List.mem_map.mp hl
    have := R.b d hd
    exact ⟨d.toNat, by omega, (R.m d.toNat).mpr (by rw [Int.toNat_of_nonneg this.1]; exact hd), hz⟩
theorem Rel.len {dn : List Int} {bs : List Bool} {n : Nat} (R : Rel dn bs n) : dn.length ≤ n := by
  have := nodup_le n (dn.map Int.toNat) (by
    rw [List.Nodup, List.pairwise_map]
    refine R.nd.imp_of_mem fun {a b} ha hb ne e => ne ?_
    have := R.b a ha
    have := R.b b hb
    omega) fun x hx => by
      obtain ⟨z, hz, rfl⟩ := List.mem_map.mp hx
      have := R.b z hz
      omega
  rwa [List.length_map] at this
theorem Rel.press {dn : List Int} {bs : List Bool} {n k : Nat} (R : Rel dn bs n) (hk : k < n) (hb : bs[k]? = some false) : Rel (dn ++ [(k : Int)]) (bs.set k true) n := by
  have nk : (k : Int) ∉ dn := fun q => by have := (R.m k).mpr q; rw [hb] at this; cases this
  refine ⟨?_, fun d hd => ?_, by rw [List.length_set]; exact R.l, fun j => ?_⟩
  · rw [List.nodup_append]
    refine ⟨R.nd, by simp, fun u hu v hv e => ?_⟩
    rw [List.mem_singleton.mp hv] at e
    exact nk (e ▸ hu)
  · rcases List.mem_append.mp hd with h | h
    · exact R.b d h
    · rw [List.mem_singleton.mp h]; omega
  · rw [List.getElem?_set, List.mem_append, List.mem_singleton]
    by_cases e : k = j
    · subst e
      rw [if_pos rfl, if_pos (by rw [R.l]; exact hk)]
      simp
    · rw [if_neg e, R.m j]
      constructor
      · exact .inl
      · rintro (q | q)
        · exact q
        · omega
theorem Rel.lift {dn : List Int} {bs : List Bool} {n k j : Nat} (R : Rel dn bs n) (hk : k < n) (hj : dn[j]? = some (k : Int)) : Rel (dn.eraseIdx j) (bs.set k false) n := by
  obtain ⟨jl, je⟩ := List.getElem?_eq_some_iff.mp hj
  have mem : ∀ z, z ∈ dn.eraseIdx j ↔ z ∈ dn ∧ z ≠ (k : Int) := fun z => by
    rw [List.mem_eraseIdx_iff_getElem]
    have inj : ∀ (i : Nat) (hi : i < dn.length), dn[i] = dn[j] → i = j := fun i hi e => by
      have p := List.pairwise_iff_getElem.mp R.nd
      rcases Nat.lt_trichotomy i j with c | c | c
      · exact absurd e (p i j hi jl c)
      · exact c
      · exact absurd e.symm (p j i jl hi c)
    constructor
    · rintro ⟨i, hi, ne, rfl⟩
      exact ⟨List.getElem_mem _, fun q => ne (inj i hi (by rw [je]; exact q))⟩
    · rintro ⟨hz, ne⟩
      obtain ⟨i, hi, e⟩ := List.getElem_of_mem hz
      exact ⟨i, hi, fun q => ne (by subst q; rw [← e, je]), e⟩
  refine ⟨R.nd.sublist (List.eraseIdx_sublist ..), fun d hd => R.b d ((mem d).mp hd).1, by rw [List.length_set]; exact R.l, fun i => ?_⟩
  rw [List.getElem?_set, mem]
  by_cases e : k = i
  · subst e
    rw [if_pos rfl, if_pos (by rw [R.l]; exact hk)]
    simp
  · rw [if_neg e, R.m i]
    constructor
    · exact fun q => ⟨q, by omega⟩
    · exact fun q => q.1
theorem by_restHp {G : Prop} {R : Hp → Prop} (C : Hp → Prop) (main : (∀ H, C H → R H) → G) (rest : ∀ H, C H → R H) : G := main rest
def off (X : List Addr) (H : Hp) : Hp := fun u => if u ∈ X then none else H u
theorem off_same {X : List Addr} {H : Hp} : Same (off X H) H := fun u o h => by
  unfold off at h
  split at h
  · cases h
  · exact h
theorem off_some {X : List Addr} {H : Hp} {u : Addr} {o : HO} (h : H u = some o) (n : u ∉ X) : off X H u = some o := by
  unfold off
  rw [if_neg n]
  exact h
theorem off_not {X : List Addr} {H : Hp} {u : Addr} {o : HO} (h : off X H u = some o) : u ∉ X := fun n => by
  unfold off at h
  rw [if_pos n] at h
  cases h
theorem off_step {X X' : List Addr} {H H' : Hp} (b : ButL X H H') (n : ∀ u ∈ X', u ∈ X ∨ H u = none) : Same (off X H) (off X' H') := fun u o h => by
  have nu := off_not h
  have hu := off_same _ _ h
  refine off_some (b u o nu hu) fun h' => ?_
  rcases n u h' with q | q
  · exact nu q
  · rw [hu] at q; cases q
inductive Dd where
  | press (k : Nat)
  | lift (k : Nat)
  | throw
  | unthrow (p sl : Addr) (ks : List Int) (z : Str)
def Dd.vs : Dd → List V
  | .press k => [.str "press", .int (k : Int)]
  | .lift k => [.str "lift", .int (k : Int)]
  | .throw => [.str "throw", .non]
  | .unthrow p _ _ _ => [.str "unthrow", .ref p]
def Stp (bs : List Bool) (pk : List (List Int × Str)) (d : Dd) (bs' : List Bool) (pk' : List (List Int × Str)) : Prop := match d with
  | .press k => bs[k]? = some false ∧ bs' = bs.set k true ∧ pk' = pk
  | .lift k => bs[k]? = some true ∧ bs' = bs.set k false ∧ pk' = pk
  | .throw => bs' = bs ∧ ∃ ks, pk' = pk ++ [ks]
  | .unthrow _ _ ks z => bs' = bs ∧ pk = pk' ++ [(ks, z)]
set_option genInjectivity false in
structure En where
  d : Dd
  u : Addr
  h : Addr
  w : Addr
  k : Addr
  bs : List Bool
  rs : List Addr
  pk : List (List Int × Str)
def Chn : List En → List Bool → List (List Int × Str) → Prop
  | [], _, _ => True
  | x :: es, bs, pk => Stp x.bs x.pk x.d bs pk ∧ Chn es x.bs x.pk
structure KT (F : Hp) (th : List Int) (rs : List Addr) (pk : List (List Int × Str)) : Prop where
  l : rs.length = pk.length
  r : ∀ (i : Nat) (r : Addr) (ks : List Int) (z : Str), rs[i]? = some r → pk[i]? = some (ks, z) → F r = some (.tup [.str (tx (shd th ks)), .str z])
theorem KT.same {F F' : Hp} {th : List Int} {rs : List Addr} {pk : List (List Int × Str)} (N : KT F th rs pk) (s : Same F F') : KT F' th rs pk := ⟨N.l, fun i a ks z h1 h2 => s _ _ (N.r i a ks z h1 h2)⟩
theorem KT.snoc {F : Hp} {th : List Int} {rs : List Addr} {pk : List (List Int × Str)} {a : Addr} {ks : List Int} {z : Str} (N : KT F th rs pk) (h : F a = some (.tup [.str (tx (shd th ks)), .str z])) : KT F th (rs ++ [a]) (pk ++ [(ks, z)]) := by
  have e := N.l
  refine ⟨by rw [List.length_append, List.length_append, e]; rfl, fun i a' ks' z' g1 g2 => ?_⟩
  by_cases c : i < rs.length
  · rw [List.getElem?_append_left c] at g1
    rw [List.getElem?_append_left (by omega)] at g2
    exact N.r i a' ks' z' g1 g2
  · rw [List.getElem?_append_right (by omega)] at g1 g2
    have := (List.getElem?_eq_some_iff.mp g1).1
    simp at this
    rw [show i - rs.length = 0 by omega] at g1
    rw [show i - pk.length = 0 by omega] at g2
    cases g1
    cases g2
    exact h
theorem KT.init {F : Hp} {th : List Int} {rs : List Addr} {pk : List (List Int × Str)} {a : Addr} {p : List Int × Str} (N : KT F th (rs ++ [a]) (pk ++ [p])) : KT F th rs pk := by
  have e := N.l
  rw [List.length_append, List.length_append] at e
  simp at e
  refine ⟨e, fun i a' ks z g1 g2 => N.r i a' ks z ?_ ?_⟩
  · rw [List.getElem?_append_left (List.getElem?_eq_some_iff.mp g1).1]; exact g1
  · rw [List.getElem?_append_left (List.getElem?_eq_some_iff.mp g2).1]; exact g2
structure EnF (F : Hp) (th : List Int) (x : En) : Prop where
  u : F x.u = some (.tup x.d.vs)
  h : F x.h = some (.tup [.ref x.w, .ref x.k])
  r : KT F th x.rs x.pk
  d : ∀ p sl ks z, x.d = .unthrow p sl ks z → F p = some (.tup [.ref sl, .str z]) ∧ F sl = some (.lst (vI ks))
  p40 : x.pk.length ≤ 40
theorem EnF.same {F F' : Hp} {th : List Int} {x : En} (k : EnF F th x) (s : Same F F') : EnF F' th x := ⟨s _ _ k.u, s _ _ k.h, k.r.same s, fun p sl ks z e => ⟨s _ _ (k.d p sl ks z e).1, s _ _ (k.d p sl ks z e).2⟩, k.p40⟩
set_option genInjectivity false in
structure Hd where
  q : Addr
  u : Addr
  v : Addr
  xs : List V
structure HdF (F : Hp) (x : Hd) : Prop where
  q : F x.q = some (.tup [.ref x.u, .ref x.v])
  u : F x.u = some (.lst x.xs)
  v : F x.v = some (.lst x.xs)
  f : x.xs.all flatV = true
theorem HdF.same {F F' : Hp} {x : Hd} (k : HdF F x) (s : Same F F') : HdF F' x := ⟨s _ _ k.q, s _ _ k.u, s _ _ k.v, k.f⟩
set_option genInjectivity false in
structure Fx where
  m : Addr
  dx : Addr
  a : Addr
  b : Addr
  c : Addr
  e : Addr
  g : Addr
  st : Addr
  hs : Addr
  hl : Addr
  qs : List Addr
  th : List Int
  tss : List (List Int)
set_option genInjectivity false in
structure Sd where
  dn : List Int
  ps : List (Addr × Addr)
  pk : List (List Int × Str)
  bs : List Bool
  dw : Addr
  kp : Addr
  krs : List Addr
  es : List En
  hd : List Hd
def Fx.mu (f : Fx) (dw kp : Addr) (es : List En) : List Addr := f.c :: f.e :: f.g :: f.st :: f.hs :: f.hl :: dw :: kp :: es.flatMap fun x => [x.w, x.k]
def uvs (es : List En) : List V := es.reverse.map fun x => V.ref x.u
def hvs (es : List En) : List V := es.reverse.map fun x => V.ref x.h
theorem uvs_cons (x : En) (es : List En) : uvs (x :: es) = uvs es ++ [.ref x.u] := by unfold uvs; rw [List.reverse_cons, List.map_append]; rfl
theorem hvs_cons (x : En) (es : List En) : hvs (x :: es) = hvs es ++ [.ref x.h] := by unfold hvs; rw [List.reverse_cons, List.map_append]; rfl
theorem uvs_len (es : List En) : (uvs es).length = es.length := by unfold uvs; rw [List.length_map, List.length_reverse]
theorem hvs_len (es : List En) : (hvs es).length = es.length := by unfold hvs; rw [List.length_map, List.length_reverse]
structure Wv (t : Adr) (HB : Hp) (f : Fx) (s : Sd) (H : Hp) (n : Nat) (Y : List Addr) : Prop where
  dj : ∀ u ∈ f.mu s.dw s.kp s.es, u ∉ Y
  yl : ∀ u ∈ Y, ∃ xs, H u = some (.lst xs)
  nd : (f.mu s.dw s.kp s.es).Nodup
  nl : (f.g :: f.e :: f.c :: f.b :: f.a :: f.qs).Nodup
  base : Same HB (off (f.mu s.dw s.kp s.es ++ Y) H)
  o : off (f.mu s.dw s.kp s.es ++ Y) H f.m = some (.ins t.e_Loom f.dx (lf f.a f.b f.c f.e f.g))
  ha : off (f.mu s.dw s.kp s.es ++ Y) H f.a = some (.lst (vI f.th))
  hb : NL (off (f.mu s.dw s.kp s.es ++ Y) H) f.b f.qs f.tss
  hc : H f.c = some (.lst (vI s.dn))
  he : H f.e = some (.lst (pvs s.ps))
  hg : H f.g = some (.lst (uvs s.es))
  st : H f.st = some (.lst [.ref s.dw, .ref s.kp, .ref f.hs, .ref f.hl])
  hdw : H s.dw = some (.lst (vB s.bs))
  hkp : H s.kp = some (.lst (s.krs.map V.ref))
  hhs : H f.hs = some (.lst (hvs s.es))
  hhl : H f.hl = some (.lst (s.hd.map fun x => V.ref x.q))
  P : Pk (off (f.mu s.dw s.kp s.es ++ Y) H) s.ps s.pk
  Kr : KT (off (f.mu s.dw s.kp s.es ++ Y) H) f.th s.krs s.pk
  ef : ∀ x ∈ s.es, EnF (off (f.mu s.dw s.kp s.es ++ Y) H) f.th x
  em : ∀ x ∈ s.es, H x.w = some (.lst (vB x.bs)) ∧ H x.k = some (.lst (x.rs.map V.ref))
  ch : Chn s.es s.bs s.pk
  R : Rel s.dn s.bs f.tss.length
  hf : ∀ x ∈ s.hd, HdF (off (f.mu s.dw s.kp s.es ++ Y) H) x
  p40 : s.pk.length ≤ 40
  en : s.es.length ≤ n
  hn : s.hd.length ≤ n
section
variable {HB H H' : Hp} {f : Fx} {s : Sd} {n : Nat} {Y : List Addr}
theorem Wv.LM (W : Wv t HB f s H n Y) : LM t H f.m f.dx f.a f.b f.c f.e f.g f.qs f.th f.tss s.dn (pvs s.ps) (uvs s.es) := ⟨⟨off_same _ _ W.o, off_same _ _ W.ha, W.hb.same off_same, W.hc, W.he, W.hg⟩, W.nl⟩
theorem Wv.lists (W : Wv t HB f s H n Y) : ∀ u ∈ f.mu s.dw s.kp s.es, ∃ xs, H u = some (.lst xs) := fun u hu => by
  unfold Fx.mu at hu
  simp only [List.mem_cons, List.mem_flatMap, List.not_mem_nil, or_false] at hu
  rcases hu with rfl | rfl | rfl | rfl | rfl | rfl | rfl | rfl | ⟨x, hx, rfl | rfl⟩
  · exact ⟨_, W.hc⟩
  · exact ⟨_, W.he⟩
  · exact ⟨_, W.hg⟩
  · exact ⟨_, W.st⟩
  · exact ⟨_, W.hhs⟩
  · exact ⟨_, W.hhl⟩
  · exact ⟨_, W.hdw⟩
  · exact ⟨_, W.hkp⟩
  · exact ⟨_, (W.em x hx).1⟩
  · exact ⟨_, (W.em x hx).2⟩
theorem Wv.new (W : Wv t HB f s H n Y) {u : Addr} (h : H u = none) : u ∉ f.mu s.dw s.kp s.es := fun hu => by
  obtain ⟨xs, e⟩ := W.lists u hu
  rw [h] at e
  cases e
theorem Wv.newA (W : Wv t HB f s H n Y) {u : Addr} (h : H u = none) : u ∉ f.mu s.dw s.kp s.es ++ Y := fun hu => by
  rcases List.mem_append.mp hu with q | q
  · exact W.new h q
  · obtain ⟨xs, e⟩ := W.yl u q
    rw [h] at e
    cases e
theorem Wv.mono (W : Wv t HB f s H n Y) {k : Nat} (h : n ≤ k) : Wv t HB f s H k Y := { W with en := Nat.le_trans W.en h, hn := Nat.le_trans W.hn h }
theorem Wv.same (W : Wv t HB f s H n Y) (q : Same H H') : Wv t HB f s H' n Y := by
  have S : Same (off (f.mu s.dw s.kp s.es ++ Y) H) (off (f.mu s.dw s.kp s.es ++ Y) H') := off_step (fun u o _ h => q _ _ h) fun u hu => .inl hu
  exact ⟨W.dj, fun u hu => (W.yl u hu).imp fun xs h => q _ _ h, W.nd, W.nl, W.base.trans S, S _ _ W.o, S _ _ W.ha, W.hb.same S, q _ _ W.hc, q _ _ W.he, q _ _ W.hg, q _ _ W.st, q _ _ W.hdw, q _ _ W.hkp, q _ _ W.hhs, q _ _ W.hhl, W.P.same S, W.Kr.same S, fun x hx => (W.ef x hx).same S, fun x hx => ⟨q _ _ (W.em x hx).1, q _ _ (W.em x hx).2⟩, W.ch, W.R, fun x hx => (W.hf x hx).same S, W.p40, W.en, W.hn⟩
structure Nes (f : Fx) (dw kp : Addr) : Prop where
  ce : f.c ≠ f.e
  cg : f.c ≠ f.g
  cs : f.c ≠ f.st
  ch : f.c ≠ f.hs
  cl : f.c ≠ f.hl
  cd : f.c ≠ dw
  ck : f.c ≠ kp
  eg : f.e ≠ f.g
  es : f.e ≠ f.st
  eh : f.e ≠ f.hs
  el : f.e ≠ f.hl
  ed : f.e ≠ dw
  ek : f.e ≠ kp
  gs : f.g ≠ f.st
  gh : f.g ≠ f.hs
  gl : f.g ≠ f.hl
  gd : f.g ≠ dw
  gk : f.g ≠ kp
  sh : f.st ≠ f.hs
  sl : f.st ≠ f.hl
  sd : f.st ≠ dw
  sk : f.st ≠ kp
  hl : f.hs ≠ f.hl
  hd : f.hs ≠ dw
  hk : f.hs ≠ kp
  ld : f.hl ≠ dw
  lk : f.hl ≠ kp
  dk : dw ≠ kp
theorem Wv.nes (W : Wv t HB f s H n Y) : Nes f s.dw s.kp := by
  have nd := W.nd
  unfold Fx.mu at nd
  simp only [List.nodup_cons, List.mem_cons, not_or] at nd
  obtain ⟨⟨a1, a2, a3, a4, a5, a6, a7, _⟩, ⟨b1, b2, b3, b4, b5, b6, _⟩, ⟨c1, c2, c3, c4, c5, _⟩, ⟨d1, d2, d3, d4, _⟩, ⟨e1, e2, e3, _⟩, ⟨f1, f2, _⟩, ⟨g1, _⟩, _⟩ := nd
  exact ⟨a1, a2, a3, a4, a5, a6, a7, b1, b2, b3, b4, b5, b6, c1, c2, c3, c4, c5, d1, d2, d3, d4, e1, e2, e3, f1, f2, g1⟩
theorem Wv.old (W : Wv t HB f s H n Y) {x : En} (hx : x ∈ s.es) : ∀ u ∈ [x.w, x.k], u ≠ f.c ∧ u ≠ f.e ∧ u ≠ f.g ∧ u ≠ f.st ∧ u ≠ f.hs ∧ u ≠ f.hl ∧ u ≠ s.dw ∧ u ≠ s.kp := fun u hu => by
  have nd := W.nd
  have hm : u ∈ s.es.flatMap fun x => [x.w, x.k] := List.mem_flatMap.mpr ⟨x, hx, hu⟩
  unfold Fx.mu at nd
  simp only [List.nodup_cons, List.mem_cons, not_or] at nd
  obtain ⟨⟨_, _, _, _, _, _, _, a⟩, ⟨_, _, _, _, _, _, b⟩, ⟨_, _, _, _, _, c⟩, ⟨_, _, _, _, d⟩, ⟨_, _, _, e⟩, ⟨_, _, g⟩, ⟨_, h⟩, i, _⟩ := nd
  exact ⟨fun z => a (z ▸ hm), fun z => b (z ▸ hm), fun z => c (z ▸ hm), fun z => d (z ▸ hm), fun z => e (z ▸ hm), fun z => g (z ▸ hm), fun z => h (z ▸ hm), fun z => i (z ▸ hm)⟩
theorem Wv.push (W : Wv t HB f s H n Y) {d : Dd} {u h0 w0 k0 : Addr} {dn' : List Int} {ps' : List (Addr × Addr)} {pk' : List (List Int × Str)} {bs' : List Bool} {krs' : List Addr}
    (b : ButL [f.c, f.e, f.g, f.hs, s.dw, s.kp] H H') (nw : H w0 = none) (nk : H k0 = none) (wk : w0 ≠ k0)
    (hw : H' w0 = some (.lst (vB s.bs))) (hk : H' k0 = some (.lst (s.krs.map V.ref))) (hh : H' h0 = some (.tup [.ref w0, .ref k0])) (hu : H' u = some (.tup d.vs))
    (hc : H' f.c = some (.lst (vI dn'))) (he : H' f.e = some (.lst (pvs ps'))) (hg : H' f.g = some (.lst (uvs s.es ++ [.ref u]))) (hdw : H' s.dw = some (.lst (vB bs'))) (hkp : H' s.kp = some (.lst (krs'.map V.ref))) (hhs : H' f.hs = some (.lst (hvs s.es ++ [.ref h0])))
    (fr : Same (off (f.mu s.dw s.kp s.es ++ Y) H) (off (f.mu s.dw s.kp (⟨d, u, h0, w0, k0, s.bs, s.krs, s.pk⟩ :: s.es) ++ Y) H') → Pk (off (f.mu s.dw s.kp (⟨d, u, h0, w0, k0, s.bs, s.krs, s.pk⟩ :: s.es) ++ Y) H') ps' pk' ∧ KT (off (f.mu s.dw s.kp (⟨d, u, h0, w0, k0, s.bs, s.krs, s.pk⟩ :: s.es) ++ Y) H') f.th krs' pk' ∧ ∀ p sl ks z, d = .unthrow p sl ks z → off (f.mu s.dw s.kp (⟨d, u, h0, w0, k0, s.bs, s.krs, s.pk⟩ :: s.es) ++ Y) H' p = some (.tup [.ref sl, .str z]) ∧ off (f.mu s.dw s.kp (⟨d, u, h0, w0, k0, s.bs, s.krs, s.pk⟩ :: s.es) ++ Y) H' sl = some (.lst (vI ks)))
    (stp : Stp s.bs s.pk d bs' pk') (R : Rel dn' bs' f.tss.length) (p40 : pk'.length ≤ 40) :
    Wv t HB f ⟨dn', ps', pk', bs', s.dw, s.kp, krs', ⟨d, u, h0, w0, k0, s.bs, s.krs, s.pk⟩ :: s.es, s.hd⟩ H' (n + 1) Y ∧ (∀ x ∈ f.mu s.dw s.kp (⟨d, u, h0, w0, k0, s.bs, s.krs, s.pk⟩ :: s.es), x ∈ f.mu s.dw s.kp s.es ∨ H x = none) := by
  have mu : f.mu s.dw s.kp (⟨d, u, h0, w0, k0, s.bs, s.krs, s.pk⟩ :: s.es) = f.c :: f.e :: f.g :: f.st :: f.hs :: f.hl :: s.dw :: s.kp :: w0 :: k0 :: s.es.flatMap fun x => [x.w, x.k] := rfl
  have sub : ∀ x ∈ f.mu s.dw s.kp (⟨d, u, h0, w0, k0, s.bs, s.krs, s.pk⟩ :: s.es), x ∈ f.mu s.dw s.kp s.es ∨ H x = none := fun x hx => by
    rw [mu] at hx
    unfold Fx.mu
    simp only [List.mem_cons] at hx ⊢
    rcases hx with z | z | z | z | z | z | z | z | z | z | z
    · simp [z]
    · simp [z]
    · simp [z]
    · simp [z]
    · simp [z]
    · simp [z]
    · simp [z]
    · simp [z]
    · exact .inr (z ▸ nw)
    · exact .inr (z ▸ nk)
    · simp [z]
  have b' : ButL (f.mu s.dw s.kp s.es) H H' := fun x o nx q => b x o (fun z => nx (by unfold Fx.mu; simp only [List.mem_cons, List.not_mem_nil, or_false] at z ⊢; rcases z with z | z | z | z | z | z <;> simp [z])) q
  have yl' : ∀ u ∈ Y, ∃ xs, H' u = some (.lst xs) := fun u hu => (W.yl u hu).imp fun xs h => b' _ _ (fun z => W.dj u z hu) h
  have S := off_step (X := f.mu s.dw s.kp s.es ++ Y) (X' := f.mu s.dw s.kp (⟨d, u, h0, w0, k0, s.bs, s.krs, s.pk⟩ :: s.es) ++ Y) (fun x o nx q => b' x o (fun z => nx (List.mem_append_left _ z)) q) (fun x hx => by
    rcases List.mem_append.mp hx with z | z
    · rcases sub x z with q | q
      · exact .inl (List.mem_append_left _ q)
      · exact .inr q
    · exact .inl (List.mem_append_right _ z))
  obtain ⟨P', K', U'⟩ := fr S
  have N := W.nes
  have nw' := W.new nw
  have nk' := W.new nk
  have st' : H' f.st = some (.lst [.ref s.dw, .ref s.kp, .ref f.hs, .ref f.hl]) := b _ _ (by simp only [List.mem_cons, List.not_mem_nil, or_false, not_or]; exact ⟨N.cs.symm, N.es.symm, N.gs.symm, N.sh, N.sd, N.sk⟩) W.st
  have hl' : H' f.hl = some (.lst (s.hd.map fun x => V.ref x.q)) := b _ _ (by simp only [List.mem_cons, List.not_mem_nil, or_false, not_or]; exact ⟨N.cl.symm, N.el.symm, N.gl.symm, N.hl.symm, N.ld, N.lk⟩) W.hhl
  have nt : ∀ {y : Addr} {xs : List V}, H' y = some (.tup xs) → y ∉ f.mu s.dw s.kp (⟨d, u, h0, w0, k0, s.bs, s.krs, s.pk⟩ :: s.es) ++ Y := fun {y xs} hy hm => by
    rcases List.mem_append.mp hm with hm | hm
    case inr =>
      obtain ⟨zs, e⟩ := yl' y hm
      rw [hy] at e
      cases e
    rw [mu] at hm
    simp only [List.mem_cons] at hm
    rcases hm with z | z | z | z | z | z | z | z | z | z | z
    · rw [z, hc] at hy; cases hy
    · rw [z, he] at hy; cases hy
    · rw [z, hg] at hy; cases hy
    · rw [z, st'] at hy; cases hy
    · rw [z, hhs] at hy; cases hy
    · rw [z, hl'] at hy; cases hy
    · rw [z, hdw] at hy; cases hy
    · rw [z, hkp] at hy; cases hy
    · rw [z, hw] at hy; cases hy
    · rw [z, hk] at hy; cases hy
    · obtain ⟨x, hx, hq⟩ := List.mem_flatMap.mp z
      obtain ⟨o1, o2, o3, o4, o5, o6, o7, o8⟩ := W.old hx y hq
      simp only [List.mem_cons, List.not_mem_nil, or_false] at hq
      have ny : y ∉ [f.c, f.e, f.g, f.hs, s.dw, s.kp] := by simp only [List.mem_cons, List.not_mem_nil, or_false, not_or]; exact ⟨o1, o2, o3, o5, o7, o8⟩
      rcases hq with q | q
      · rw [b y _ ny (by rw [q]; exact (W.em x hx).1)] at hy; cases hy
      · rw [b y _ ny (by rw [q]; exact (W.em x hx).2)] at hy; cases hy
  refine ⟨⟨fun x hx hY => ?_, yl', ?_, W.nl, W.base.trans S, S _ _ W.o, S _ _ W.ha, W.hb.same S, hc, he, by rw [uvs_cons]; exact hg, st', hdw, hkp, by rw [hvs_cons]; exact hhs, hl', P', K', fun x hx => ?_, fun x hx => ?_, ⟨stp, W.ch⟩, R, fun x hx => (W.hf x hx).same S, p40, by show _ + 1 ≤ _; have := W.en; omega, by show s.hd.length ≤ _; have := W.hn; omega⟩, sub⟩
  · rcases sub x hx with q | q
    · exact W.dj x q hY
    · obtain ⟨zs, e⟩ := W.yl x hY
      rw [q] at e
      cases e
  · show (f.mu s.dw s.kp _).Nodup
    rw [mu]
    have nd := W.nd
    unfold Fx.mu at nd nw' nk'
    simp only [List.nodup_cons, List.mem_cons, not_or] at nd nw' nk' ⊢
    obtain ⟨⟨a1, a2, a3, a4, a5, a6, a7, a8⟩, ⟨b1, b2, b3, b4, b5, b6, b7⟩, ⟨c1, c2, c3, c4, c5, c6⟩, ⟨d1, d2, d3, d4, d5⟩, ⟨e1, e2, e3, e4⟩, ⟨f1, f2, f3⟩, ⟨g1, g2⟩, h1, h2⟩ := nd
    obtain ⟨w1, w2, w3, w4, w5, w6, w7, w8, w9⟩ := nw'
    obtain ⟨k1, k2, k3, k4, k5, k6, k7, k8, k9⟩ := nk'
    exact ⟨⟨a1, a2, a3, a4, a5, a6, a7, Ne.symm w1, Ne.symm k1, a8⟩, ⟨b1, b2, b3, b4, b5, b6, Ne.symm w2, Ne.symm k2, b7⟩, ⟨c1, c2, c3, c4, c5, Ne.symm w3, Ne.symm k3, c6⟩, ⟨d1, d2, d3, d4, Ne.symm w4, Ne.symm k4, d5⟩, ⟨e1, e2, e3, Ne.symm w5, Ne.symm k5, e4⟩, ⟨f1, f2, Ne.symm w6, Ne.symm k6, f3⟩, ⟨g1, Ne.symm w7, Ne.symm k7, g2⟩, ⟨Ne.symm w8, Ne.symm k8, h1⟩, ⟨wk, w9⟩, k9, h2⟩
  · rcases List.mem_cons.mp hx with z | z
    · rw [z]
      exact ⟨off_some hu (nt hu), off_some hh (nt hh), W.Kr.same S, U', W.p40⟩
    · exact (W.ef x z).same S
  · rcases List.mem_cons.mp hx with z | z
    · rw [z]; exact ⟨hw, hk⟩
    · have q : ∀ y ∈ [x.w, x.k], y ∉ [f.c, f.e, f.g, f.hs, s.dw, s.kp] := fun y hy => by
        obtain ⟨o1, o2, o3, o4, o5, o6, o7, o8⟩ := W.old z y hy
        simp only [List.mem_cons, List.not_mem_nil, or_false, not_or]
        exact ⟨o1, o2, o3, o5, o7, o8⟩
      exact ⟨b _ _ (q _ (by simp)) (W.em x z).1, b _ _ (q _ (by simp)) (W.em x z).2⟩
theorem Wv.undone {x : En} {es : List En} {dn : List Int} {ps : List (Addr × Addr)} {pk : List (List Int × Str)} {bs : List Bool} {dw kp : Addr} {krs : List Addr} {hd : List Hd} (W : Wv t HB f ⟨dn, ps, pk, bs, dw, kp, krs, x :: es, hd⟩ H n Y) {dn' : List Int} {ps' : List (Addr × Addr)}
    (b : ButL [f.c, f.e, f.g, f.hs, f.st] H H') (hc : H' f.c = some (.lst (vI dn'))) (he : H' f.e = some (.lst (pvs ps'))) (hg : H' f.g = some (.lst (uvs es))) (hhs : H' f.hs = some (.lst (hvs es))) (st : H' f.st = some (.lst [.ref x.w, .ref x.k, .ref f.hs, .ref f.hl]))
    (P' : Pk (off (f.mu dw kp (x :: es) ++ Y) H) ps' x.pk) (R : Rel dn' x.bs f.tss.length) : Wv t HB f ⟨dn', ps', x.pk, x.bs, x.w, x.k, x.rs, es, hd⟩ H' n Y ∧ (∀ y ∈ f.mu x.w x.k es, y ∈ f.mu dw kp (x :: es) ∨ H y = none) := by
  have mu : f.mu dw kp (x :: es) = f.c :: f.e :: f.g :: f.st :: f.hs :: f.hl :: dw :: kp :: x.w :: x.k :: es.flatMap fun x => [x.w, x.k] := rfl
  have sub : ∀ y ∈ f.mu x.w x.k es, y ∈ f.mu dw kp (x :: es) ∨ H y = none := fun y hy => by
    rw [mu]
    unfold Fx.mu at hy
    simp only [List.mem_cons] at hy ⊢
    rcases hy with z | z | z | z | z | z | z | z | z <;> simp [z]
  have b' : ButL (f.mu dw kp (x :: es)) H H' := fun y o ny q => b y o (fun z => ny (by rw [mu]; simp only [List.mem_cons, List.not_mem_nil, or_false] at z ⊢; rcases z with z | z | z | z | z <;> simp [z])) q
  have yl' : ∀ u ∈ Y, ∃ xs, H' u = some (.lst xs) := fun u hu => (W.yl u hu).imp fun xs h => b' _ _ (fun z => W.dj u z hu) h
  have S := off_step (X := f.mu dw kp (x :: es) ++ Y) (X' := f.mu x.w x.k es ++ Y) (fun x o nx q => b' x o (fun z => nx (List.mem_append_left _ z)) q) (fun x hx => by
    rcases List.mem_append.mp hx with z | z
    · rcases sub x z with q | q
      · exact .inl (List.mem_append_left _ q)
      · exact .inr q
    · exact .inl (List.mem_append_right _ z))
  have N := W.nes
  have E0 := W.ef x (List.mem_cons_self ..)
  have q : ∀ z ∈ x :: es, ∀ y ∈ [z.w, z.k], y ∉ [f.c, f.e, f.g, f.hs, f.st] := fun z hz y hy => by
    obtain ⟨o1, o2, o3, o4, o5, o6, o7, o8⟩ := W.old hz y hy
    simp only [List.mem_cons, List.not_mem_nil, or_false, not_or]
    exact ⟨o1, o2, o3, o5, o4⟩
  have em' : ∀ z ∈ x :: es, H' z.w = some (.lst (vB z.bs)) ∧ H' z.k = some (.lst (z.rs.map V.ref)) := fun z hz => ⟨b _ _ (q z hz _ (by simp)) (W.em z hz).1, b _ _ (q z hz _ (by simp)) (W.em z hz).2⟩
  have hl' : H' f.hl = some (.lst (hd.map fun x => V.ref x.q)) := b _ _ (by simp only [List.mem_cons, List.not_mem_nil, or_false, not_or]; exact ⟨N.cl.symm, N.el.symm, N.gl.symm, N.hl.symm, N.sl.symm⟩) W.hhl
  refine ⟨⟨fun y hy hY => ?_, yl', ?_, W.nl, W.base.trans S, S _ _ W.o, S _ _ W.ha, W.hb.same S, hc, he, hg, st, (em' x (List.mem_cons_self ..)).1, (em' x (List.mem_cons_self ..)).2, hhs, hl', P'.same S, E0.r.same S, fun z hz => (W.ef z (List.mem_cons_of_mem _ hz)).same S, fun z hz => em' z (List.mem_cons_of_mem _ hz), W.ch.2, R, fun z hz => (W.hf z hz).same S, E0.p40, by have := W.en; show es.length ≤ n; simp at this; omega, W.hn⟩, sub⟩
  · rcases sub y hy with q | q
    · exact W.dj y q hY
    · obtain ⟨zs, e⟩ := W.yl y hY
      rw [q] at e
      cases e
  have nd := W.nd
  show (f.mu x.w x.k es).Nodup
  rw [show f.mu (Sd.mk dn ps pk bs dw kp krs (x :: es) hd).dw (Sd.mk dn ps pk bs dw kp krs (x :: es) hd).kp (Sd.mk dn ps pk bs dw kp krs (x :: es) hd).es = f.mu dw kp (x :: es) from rfl, mu] at nd
  unfold Fx.mu
  simp only [List.nodup_cons, List.mem_cons, not_or] at nd ⊢
  obtain ⟨⟨a1, a2, a3, a4, a5, a6, a7, a8, a9, a10⟩, ⟨b1, b2, b3, b4, b5, b6, b7, b8, b9⟩, ⟨c1, c2, c3, c4, c5, c6, c7, c8⟩, ⟨d1, d2, d3, d4, d5, d6, d7⟩, ⟨e1, e2, e3, e4, e5, e6⟩, ⟨f1, f2, f3, f4, f5⟩, ⟨g1, g2, g3, g4⟩, ⟨h1, h2, h3⟩, ⟨i1, i2⟩, j1, j2⟩ := nd
  exact ⟨⟨a1, a2, a3, a4, a5, a8, a9, a10⟩, ⟨b1, b2, b3, b4, b7, b8, b9⟩, ⟨c1, c2, c3, c6, c7, c8⟩, ⟨d1, d2, d5, d6, d7⟩, ⟨e1, e4, e5, e6⟩, ⟨f3, f4, f5⟩, ⟨i1, i2⟩, j1, j2⟩
theorem Wv.held (W : Wv t HB f s H n Y) {x : Hd} (b : ButL [f.hl] H H') (hl : H' f.hl = some (.lst ((s.hd.map fun x => V.ref x.q) ++ [.ref x.q]))) (F : Same (off (f.mu s.dw s.kp s.es ++ Y) H) (off (f.mu s.dw s.kp s.es ++ Y) H') → HdF (off (f.mu s.dw s.kp s.es ++ Y) H') x) : Wv t HB f { s with hd := s.hd ++ [x] } H' (n + 1) Y := by
  have N := W.nes
  have b' : ButL (f.mu s.dw s.kp s.es) H H' := fun u o nu h => b u o (fun z => nu (by unfold Fx.mu; simp only [List.mem_cons, List.not_mem_nil, or_false] at z ⊢; simp [z])) h
  have S : Same (off (f.mu s.dw s.kp s.es ++ Y) H) (off (f.mu s.dw s.kp s.es ++ Y) H') := off_step (fun u o nu h => b' u o (fun z => nu (List.mem_append_left _ z)) h) fun u hu => .inl hu
  have k : ∀ {u : Addr} {o : HO}, u ≠ f.hl → H u = some o → H' u = some o := fun nu h => b _ _ (by simp [nu]) h
  refine ⟨W.dj, fun u hu => (W.yl u hu).imp fun xs h => b' _ _ (fun z => W.dj u z hu) h, W.nd, W.nl, W.base.trans S, S _ _ W.o, S _ _ W.ha, W.hb.same S, k N.cl W.hc, k N.el W.he, k N.gl W.hg, k N.sl W.st, k N.ld.symm W.hdw, k N.lk.symm W.hkp, k N.hl W.hhs, by rw [hl, List.map_append]; rfl, W.P.same S, W.Kr.same S, fun x hx => (W.ef x hx).same S, fun y hy => ⟨k (W.old hy _ (by simp)).2.2.2.2.2.1 (W.em y hy).1, k (W.old hy _ (by simp)).2.2.2.2.2.1 (W.em y hy).2⟩, W.ch, W.R, fun y hy => ?_, W.p40, Nat.le_trans W.en (Nat.le_succ _), by rw [List.length_append, List.length_singleton]; have := W.hn; omega⟩
  rcases List.mem_append.mp hy with h | h
  · exact (W.hf y h).same S
  · rw [List.mem_singleton.mp h]; exact F S
structure Nx (f : Fx) (s : Sd) (H : Hp) (s' : Sd) (H' : Hp) : Prop where
  b : ButL (f.mu s.dw s.kp s.es) H H'
  n : ∀ u ∈ f.mu s'.dw s'.kp s'.es, u ∈ f.mu s.dw s.kp s.es ∨ H u = none
theorem Nx.same (q : Same H H') : Nx f s H s H' := ⟨fun u o _ h => q _ _ h, fun u hu => .inl hu⟩
theorem Nx.trans {s1 s2 : Sd} {H1 H2 : Hp} (a : Nx f s H s1 H1) (b : Nx f s1 H1 s2 H2) : Nx f s H s2 H2 := by
  refine ⟨fun u o nu h => b.b u o (fun z => ?_) (a.b u o nu h), fun u hu => ?_⟩
  · rcases a.n u z with q | q
    · exact nu q
    · rw [h] at q; cases q
  · rcases b.n u hu with q | q
    · exact a.n u q
    · by_cases c : u ∈ f.mu s.dw s.kp s.es
      · exact .inl c
      · refine .inr ?_
        cases e : H u with
        | none => rfl
        | some o => rw [a.b u o c e] at q; cases q
theorem Wv.other {f2 : Fx} {s2 s2' : Sd} {m : Nat} (W : Wv t HB f s H n (f2.mu s2.dw s2.kp s2.es)) (W2 : Wv t HB f2 s2' H' m (f.mu s.dw s.kp s.es)) (x : Nx f2 s2 H s2' H') : Wv t HB f s H' n (f2.mu s2'.dw s2'.kp s2'.es) := by
  have k : ∀ {u : Addr} {o : HO}, u ∈ f.mu s.dw s.kp s.es → H u = some o → H' u = some o := fun hu h => x.b _ _ (W.dj _ hu) h
  have S : Same (off (f.mu s.dw s.kp s.es ++ f2.mu s2.dw s2.kp s2.es) H) (off (f.mu s.dw s.kp s.es ++ f2.mu s2'.dw s2'.kp s2'.es) H') := off_step (fun u o nu h => x.b u o (fun z => nu (List.mem_append_right _ z)) h) fun u hu => by
    rcases List.mem_append.mp hu with q | q
    · exact .inl (List.mem_append_left _ q)
    · rcases x.n u q with r | r
      · exact .inl (List.mem_append_right _ r)
      · exact .inr r
  have m8 : ∀ u ∈ [f.c, f.e, f.g, f.st, f.hs, f.hl, s.dw, s.kp], u ∈ f.mu s.dw s.kp s.es := fun u hu => by
    unfold Fx.mu
    simp only [List.mem_cons, List.not_mem_nil, or_false] at hu ⊢
    rcases hu with z | z | z | z | z | z | z | z <;> simp [z]
  have mo : ∀ y ∈ s.es, ∀ u ∈ [y.w, y.k], u ∈ f.mu s.dw s.kp s.es := fun y hy u hu => by
    have hm : u ∈ s.es.flatMap fun x => [x.w, x.k] := List.mem_flatMap.mpr ⟨y, hy, hu⟩
    unfold Fx.mu
    simp only [List.mem_cons]
    simp [hm]
  exact ⟨fun u hu h2 => W2.dj u h2 hu, W2.lists, W.nd, W.nl, W.base.trans S, S _ _ W.o, S _ _ W.ha, W.hb.same S, k (m8 _ (by simp)) W.hc, k (m8 _ (by simp)) W.he, k (m8 _ (by simp)) W.hg, k (m8 _ (by simp)) W.st, k (m8 _ (by simp)) W.hdw, k (m8 _ (by simp)) W.hkp, k (m8 _ (by simp)) W.hhs, k (m8 _ (by simp)) W.hhl, W.P.same S, W.Kr.same S, fun y hy => (W.ef y hy).same S, fun y hy => ⟨k (mo y hy _ (by simp)) (W.em y hy).1, k (mo y hy _ (by simp)) (W.em y hy).2⟩, W.ch, W.R, fun y hy => (W.hf y hy).same S, W.p40, W.en, W.hn⟩
end
theorem at_set {i : Nat} {v : V} {σ σ' : St} {H : Hp} {Kt : St → Hp → Prop} (h : σ.set i (some v) = σ') (k : Kt σ' H) : gName i v σ H Kt := by subst h; exact k
theorem nat_of_mod (z : Int) {m : Nat} (hm : 1 ≤ m) : ∃ x : Nat, z % (m : Int) = (x : Int) ∧ x < m := by
  have h1 := Int.emod_nonneg z (show (m : Int) ≠ 0 by omega)
  have h2 := Int.emod_lt_of_pos z (show 0 < (m : Int) by omega)
  exact ⟨(z % (m : Int)).toNat, by omega, by omega⟩
theorem set_back {bs : List Bool} {k : Nat} {x y : Bool} (h : bs[k]? = some x) : (bs.set k y).set k x = bs := by
  obtain ⟨hk, e⟩ := List.getElem?_eq_some_iff.mp h
  rw [List.set_set, ← e]
  exact List.set_getElem_self hk
theorem snoc_of {α : Type} {l : List α} (h : l ≠ []) : ∃ i x, l = i ++ [x] := by
  rcases List.eq_nil_or_concat l with e | ⟨i, x, e⟩
  · exact absurd e h
  · exact ⟨i, x, by rw [e, List.concat_eq_append]⟩
theorem pvs_app (ps : List (Addr × Addr)) (q : Addr × Addr) : pvs (ps ++ [q]) = pvs ps ++ [.ref q.1] := by unfold pvs; rw [List.map_append]; rfl
theorem pvs_len (ps : List (Addr × Addr)) : (pvs ps).length = ps.length := by unfold pvs; rw [List.length_map]
theorem by_restB {G : Prop} {R : Bool → Prop} (C : Bool → Prop) (main : (∀ b, C b → R b) → G) (rest : ∀ b, C b → R b) : G := main rest
theorem dec0 (n : Nat) : decide (V.int (n : Int) = V.int 0) = decide (n = 0) := by
  rw [Bool.eq_iff_iff, decide_eq_true_iff, decide_eq_true_iff]
  exact ⟨fun z => by have := V.int.inj z; omega, fun z => by rw [z]; rfl⟩
structure Sta (H : Hp) (st dw kp hs hl : Addr) (bs : List Bool) (krs : List Addr) (hv : List V) : Prop where
  o : H st = some (.lst [.ref dw, .ref kp, .ref hs, .ref hl])
  w : H dw = some (.lst (vB bs))
  k : H kp = some (.lst (krs.map V.ref))
  h : H hs = some (.lst hv)
def sp_cannot : Sp := fun vs H Q _ => ∃ (st dw kp hs hl : Addr) (bs : List Bool) (krs : List Addr) (hv : List V) (way : Str) (z : Int), vs = [.ref st, .str way, .int z] ∧ Sta H st dw kp hs hl bs krs hv ∧ bs.length ≤ 1000 ∧ krs.length ≤ 1000 ∧ hv.length ≤ 1000 ∧
  ((way = "press" ∧ ∀ b : Bool, (b = false ↔ ∃ k : Nat, z = (k : Int) ∧ bs[k]? = some false) → Q (.bl b) H) ∨ (way = "lift" ∧ ∀ b : Bool, (b = false ↔ ∃ k : Nat, z = (k : Int) ∧ bs[k]? = some true) → Q (.bl b) H) ∨ (way = "unthrow" ∧ Q (.bl (decide (krs.length = 0))) H) ∨ (way = "undo" ∧ Q (.bl (decide (hv.length = 0))) H) ∨ (way = "throw" ∧ Q (.bl false) H))
theorem ok_law_cannot (T : Txt K mg t) : FnOk P w K mg base CX0 1 t.f_law_cannot t.d_law_cannot ["state", "way", "at"] sp_cannot := by
  refine T.law_cannot.F.ok sc_law_cannot (fun vs H Q E h => ?_) (fun cdv A outer s H vs Q E hr h => ?_)
  · obtain ⟨st, dw, kp, hs, hl, bs, krs, hv, way, z, rfl, _⟩ := h
    rfl
  · obtain ⟨st, dw, kp, hs, hl, bs, krs, hv, way, z, rfl, S, l1, l2, l3, k⟩ := h
    have hsz : sizeLine = 16777216 := sizeLine_eq
    refine ⟨_, (pss_cons (ps_set (i := 3) sc_law_cannot.nd rfl (Or.inl rfl) (pe_chain op_le op_lt pe_int (pv 2) (pe_callB (call_len_seqK (K := K)) rfl T.b_len bt_len (pa_cons (pe_ix (ix_listK (K := K)) (pv 0) pe_int (fun _ _ => rfl)) pa_nil))))
      (pss_cons (ps_if (pt_cmpR op_eq (pv 1) pe_str (nomark _))
        (pss_one (ps_ret (pe_or (pe_not (pv 3)) (pe_one (pe_ix (ix_listK (K := K)) (pe_ix (ix_listK (K := K)) (pv 0) pe_int (fun _ _ => rfl)) (pv 2) (fun _ _ => rfl))))))
        pss_nil)
      (pss_cons (ps_if (pt_cmpR op_eq (pv 1) pe_str (nomark _))
        (pss_one (ps_ret (pe_or (pe_not (pv 3)) (pe_one (pe_not (pe_ix (ix_listK (K := K)) (pe_ix (ix_listK (K := K)) (pv 0) pe_int (fun _ _ => rfl)) (pv 2) (fun _ _ => rfl)))))))
        pss_nil)
      (pss_cons (ps_if (pt_cmpR op_eq (pv 1) pe_str (nomark _))
        (pss_one (ps_ret (pe_cmpR op_eq (pe_callB (call_len_seqK (K := K)) rfl T.b_len bt_len (pa_cons (pe_ix (ix_listK (K := K)) (pv 0) pe_int (fun _ _ => rfl)) pa_nil)) pe_int (nomark _))))
        pss_nil)
      (pss_one (ps_ret (pe_and (pe_cmpR op_eq (pv 1) pe_str (nomark _)) (pe_one (pe_cmpR op_eq (pe_callB (call_len_seqK (K := K)) rfl T.b_len bt_len (pa_cons (pe_ix (ix_listK (K := K)) (pv 0) pe_int (fun _ _ => rfl)) pa_nil)) pe_int (nomark _)))))))))), ?_⟩
    apply by_restB (fun kn => kn = true ↔ 0 ≤ z ∧ z < (bs.length : Int))
    · intro rest
      refine ⟨_, rfl, _, _, rfl, rfl, _, rfl, ?_⟩
      by_cases c0 : 0 ≤ z
      · refine iteDp c0 ?_
        refine ⟨_, rfl, _, _, _, _, rfl, rfl, SqL.of S.o, rfl, _, _, rfl, .inl (SqL.of S.w), _, _, rfl, rfl, ?_⟩
        rw [vB_len]
        obtain ⟨kn, ekn⟩ : ∃ kn, kn = decide (z < (bs.length : Int)) := ⟨_, rfl⟩
        show gName 3 (V.bl (decide (z < (bs.length : Int)))) _ _ _
        rw [← ekn]
        exact rest kn (by rw [ekn, decide_eq_true_iff]; exact ⟨fun h => ⟨c0, h⟩, fun h => h.2⟩)
      · refine iteDn c0 ?_
        exact rest false ⟨fun h => (by cases h), fun h => absurd h.1 c0⟩
    intro kn hkn
    refine at_set (σ' := [some (.ref st), some (.str way), some (.int z), some (.bl kn)]) rfl ?_
    have atk : ∀ k : Nat, z = (k : Int) → ∀ hk : k < bs.length, atI (vB bs) z = some (.bl bs[k]) := fun k e hk => by rw [e]; exact vB_at hk
    have kof : kn = true → ∃ k : Nat, ∃ hk : k < bs.length, z = (k : Int) := fun h => by
      have := hkn.mp h
      exact ⟨z.toNat, by omega, by omega⟩
    have kno : ∀ b : Bool, kn = false → ¬ ∃ k : Nat, z = (k : Int) ∧ bs[k]? = some b := fun b h ⟨k, e, q⟩ => by
      have := (List.getElem?_eq_some_iff.mp q).1
      have := hkn.mpr (by omega)
      rw [h] at this
      cases this
    have kon : ∀ (k : Nat) (hk : k < bs.length), z = (k : Int) → ∀ b : Bool, (bs[k] = b ↔ ∃ k : Nat, z = (k : Int) ∧ bs[k]? = some b) := fun k hk e b => by
      constructor
      · intro q
        exact ⟨k, e, by rw [List.getElem?_eq_getElem hk, q]⟩
      · rintro ⟨k', e', q⟩
        have : k' = k := by omega
        subst this
        rw [List.getElem?_eq_getElem hk] at q
        exact Option.some.inj q
    refine ⟨_, rfl, rfl, _, rfl, ?_⟩
    rcases k with ⟨rfl, k⟩ | ⟨rfl, k⟩ | ⟨rfl, k⟩ | ⟨rfl, k⟩ | ⟨rfl, k⟩
    · refine iteDp rfl ?_
      refine ⟨_, rfl, _, rfl, _, rfl, ?_⟩
      cases hh : kn with
      | false =>
        refine iteT (k true ⟨fun z => (by cases z), fun q => absurd q (kno false hh)⟩)
      | true =>
        obtain ⟨j, hj, ej⟩ := kof hh
        refine iteF ?_
        exact ⟨_, rfl, _, _, _, _, rfl, rfl, SqL.of S.o, rfl, _, rfl, _, _, _, _, rfl, rfl, SqL.of S.w, atk j ej hj, k _ (kon j hj ej false)⟩
    · refine iteDn (by decide +kernel) ?_
      refine ⟨_, rfl, rfl, _, rfl, ?_⟩
      refine iteDp rfl ?_
      refine ⟨_, rfl, _, rfl, _, rfl, ?_⟩
      cases hh : kn with
      | false =>
        refine iteT (k true ⟨fun z => (by cases z), fun q => absurd q (kno true hh)⟩)
      | true =>
        obtain ⟨j, hj, ej⟩ := kof hh
        refine iteF ?_
        refine ⟨_, rfl, _, _, _, _, rfl, rfl, SqL.of S.o, rfl, _, rfl, _, _, _, _, rfl, rfl, SqL.of S.w, atk j ej hj, _, rfl, k _ ?_⟩
        rw [← kon j hj ej true]
        cases bs[j] <;> simp
    · refine iteDn (by decide +kernel) ?_
      refine ⟨_, rfl, rfl, _, rfl, ?_⟩
      refine iteDn (by decide +kernel) ?_
      refine ⟨_, rfl, rfl, _, rfl, ?_⟩
      refine iteDp rfl ?_
      refine ⟨_, rfl, _, _, _, _, rfl, rfl, SqL.of S.o, rfl, _, _, rfl, .inl (SqL.of S.k), rfl, ?_⟩
      rw [List.length_map, dec0]
      exact k
    · refine iteDn (by decide +kernel) ?_
      refine ⟨_, rfl, rfl, _, rfl, ?_⟩
      refine iteDn (by decide +kernel) ?_
      refine ⟨_, rfl, rfl, _, rfl, ?_⟩
      refine iteDn (by decide +kernel) ?_
      refine ⟨_, rfl, rfl, _, rfl, ?_⟩
      refine iteDp rfl ?_
      refine ⟨_, rfl, _, _, _, _, rfl, rfl, SqL.of S.o, rfl, _, _, rfl, .inl (SqL.of S.h), rfl, ?_⟩
      rw [dec0]
      exact k
    · refine iteDn (by decide +kernel) ?_
      refine ⟨_, rfl, rfl, _, rfl, ?_⟩
      refine iteDn (by decide +kernel) ?_
      refine ⟨_, rfl, rfl, _, rfl, ?_⟩
      refine iteDn (by decide +kernel) ?_
      refine ⟨_, rfl, rfl, _, rfl, ?_⟩
      refine iteDn (by decide +kernel) ?_
      exact k
theorem by_rest0 {G R : Prop} (main : (Unit → R) → G) (rest : R) : G := main fun _ => rest
structure Svd (H H' : Hp) (hs w0 k0 h0 : Addr) (bs : List Bool) (krs : List Addr) (hv : List V) : Prop where
  nw : H w0 = none
  nk : H k0 = none
  wk : w0 ≠ k0
  hw : H' w0 = some (.lst (vB bs))
  hk : H' k0 = some (.lst (krs.map V.ref))
  hh : H' h0 = some (.tup [.ref w0, .ref k0])
  hs : H' hs = some (.lst (hv ++ [.ref h0]))
structure Sn (st dw kp hs : Addr) : Prop where
  sd : st ≠ dw
  sk : st ≠ kp
  sh : st ≠ hs
  dk : dw ≠ kp
  dh : dw ≠ hs
  kh : kp ≠ hs
def sp_moved : Sp := fun vs H Q _ => ∃ (sg lt ly st dw kp hs hl : Addr) (rs : List Addr) (th : List Int) (tss : List (List Int)) (bs : List Bool) (krs : List Addr) (hv : List V) (way letter : Str) (z : Int), vs = [.ref sg, .ref st, .str way, .int z, .str letter] ∧ Sta H st dw kp hs hl bs krs hv ∧ Sn st dw kp hs ∧ H sg = some (.tup [.ref lt, .ref ly]) ∧ H lt = some (.lst (vI th)) ∧ NL H ly rs tss ∧ bs.length = tss.length ∧ tss.length ≤ 40 ∧ th.length ≤ 40 ∧ (∀ ks ∈ tss, Rs ks ∧ ks.length ≤ 40) ∧ lt ∉ [st, dw, kp, hs] ∧ (ly ∉ [st, dw, kp, hs] ∧ ∀ r ∈ rs, r ∉ [st, dw, kp, hs]) ∧ krs.length ≤ 40 ∧ hv.length ≤ 900 ∧
  (((way = "press" ∧ (¬ ∃ k : Nat, z = (k : Int) ∧ bs[k]? = some false) ∨ way = "lift" ∧ (¬ ∃ k : Nat, z = (k : Int) ∧ bs[k]? = some true) ∨ way = "unthrow" ∧ krs = [] ∨ way = "undo" ∧ hv = []) ∧ ∀ (d : Addr) (H' : Hp), Same H H' → H' d = some (.tup [.str "refused", .str "NoDeed"]) → Q (.ref d) H') ∨
   (way = "throw" ∧ krs.length = 40 ∧ ∀ (d : Addr) (H' : Hp), Same H H' → H' d = some (.tup [.str "refused", .str "TooLarge"]) → Q (.ref d) H') ∨
   (∃ (h w' k' : Addr) (hv0 : List V), way = "undo" ∧ hv = hv0 ++ [.ref h] ∧ H h = some (.tup [.ref w', .ref k']) ∧ ∀ (d : Addr) (H' : Hp), ButL [st, hs] H H' → H' hs = some (.lst hv0) → H' st = some (.lst [.ref w', .ref k', .ref hs, .ref hl]) → H' d = some (.tup [.non]) → Q (.ref d) H') ∨
   (∃ (k : Nat) (b : Bool), (way = "press" ∧ b = false ∨ way = "lift" ∧ b = true) ∧ z = (k : Int) ∧ bs[k]? = some b ∧ ∀ (d w0 k0 h0 : Addr) (H' : Hp), ButL [dw, hs] H H' → Svd H H' hs w0 k0 h0 bs krs hv → H' dw = some (.lst (vB (bs.set k (!b)))) → H' d = some (.tup [.non]) → Q (.ref d) H') ∨
   (way = "throw" ∧ krs.length < 40 ∧ ∀ (d w0 k0 h0 r : Addr) (ks : List Int) (H' : Hp), ButL [kp, hs] H H' → Svd H H' hs w0 k0 h0 bs krs hv → H r = none → H' kp = some (.lst ((krs ++ [r]).map V.ref)) → H' r = some (.tup [.str (tx (shd th ks)), .str letter]) → (∀ y, y ∈ ks ↔ Mk tss bs tss.length y) → H' d = some (.tup [.non]) → Q (.ref d) H') ∨
   (∃ (kr0 : List Addr) (r : Addr) (x : V) (y : Str), way = "unthrow" ∧ krs = kr0 ++ [r] ∧ H r = some (.tup [x, .str y]) ∧ ∀ (d w0 k0 h0 : Addr) (H' : Hp), ButL [kp, hs] H H' → Svd H H' hs w0 k0 h0 bs krs hv → H' kp = some (.lst (kr0.map V.ref)) → H' d = some (.tup [.str y]) → Q (.ref d) H'))
theorem ok_law_moved_on (T : Txt K mg t) : FnOk P w K mg base CX0 2 t.f_law_moved_on t.d_law_moved_on ["setting", "state", "way", "at", "letter"] sp_moved := by
  have G_law_cannot : FnOk P w K mg base CX0 1 t.f_law_cannot t.d_law_cannot _ _ := ok_law_cannot T
  have G_law_shed : FnOk P w K mg base CX0 1 t.f_law_shed t.d_law_shed _ _ := ok_law_shed T
  have G_law_lifted : FnOk P w K mg base CX0 1 t.f_law_lifted t.d_law_lifted _ _ := ok_law_lifted T
  refine T.law_moved_on.F.ok sc_law_moved_on (fun vs H Q E h => ?_) (fun cdv A outer s H vs Q E hr h => ?_)
  · obtain ⟨sg, lt, ly, st, dw, kp, hs, hl, rs, th, tss, bs, krs, hv, way, letter, z, rfl, _⟩ := h
    rfl
  · obtain ⟨sg, lt, ly, st, dw, kp, hs, hl, rs, th, tss, bs, krs, hv, way, letter, z, rfl, S, N, hsg, hlt, NY, bl, n40, t40, hti, nlt, nly, k40, hvl, k⟩ := h
    have hsz : sizeLine = 16777216 := sizeLine_eq
    refine ⟨_, (pss_cons (ps_if (pt_val (pe_call (G_law_cannot.mono (by decide)) hr rfl T.law_cannot.m T.law_cannot.F.kp T.law_cannot.b .nil pass0 (pa_cons (pv 1) (pa_cons (pv 2) (pa_cons (pv 3) pa_nil)))))
        (pss_one (ps_ret (pe_tup (pa_cons pe_str (pa_cons pe_str pa_nil)))))
        pss_nil)
      (pss_cons (ps_if (PW.pt (pw_and (pt_cmpR op_eq (pv 2) pe_str (nomark _)) (pw_and1 (pt_cmpR op_eq (pe_callB (call_len_seqK (K := K)) rfl T.b_len bt_len (pa_cons (pe_ix (ix_listK (K := K)) (pv 1) pe_int (fun _ _ => rfl)) pa_nil)) pe_int (nomark _)))))
        (pss_one (ps_ret (pe_tup (pa_cons pe_str (pa_cons pe_str pa_nil)))))
        pss_nil)
      (pss_cons (ps_if (pt_cmpR op_eq (pv 2) pe_str (nomark _))
        (pss_cons (ps_set (i := 5) sc_law_moved_on.nd rfl (Or.inl rfl) (pe_bm0K (K := K) PySem.F.plainAttrs_list PySem.F.slot_list_pop PySem.F.type_list_pop mt_pop (pe_ix (ix_listK (K := K)) (pv 1) pe_int (fun _ _ => rfl))))
        (pss_cons (ps_asg (pe_ix (ix_tupK (K := K)) (pv 5) pe_int (fun _ _ => rfl)) (pg_sub (pv 1) pe_int set_list))
        (pss_cons (ps_asg (pe_ix (ix_tupK (K := K)) (pv 5) pe_int (fun _ _ => rfl)) (pg_sub (pv 1) pe_int set_list))
        (pss_one (ps_ret (pe_tup (pa_cons pe_non pa_nil)))))))
        pss_nil)
      (pss_cons (ps_expr (pe_bmK (K := K) PySem.F.plainAttrs_list PySem.F.slot_list_append PySem.F.type_list_append mt_append (pe_ix (ix_listK (K := K)) (pv 1) pe_int (fun _ _ => rfl)) (pa_cons (pe_tup (pa_cons (pe_callTy (call_list_ofK (K := K)) rfl T.b_list bt_list (pa_cons (pe_ix (ix_listK (K := K)) (pv 1) pe_int (fun _ _ => rfl)) pa_nil)) (pa_cons (pe_callTy (call_list_ofK (K := K)) rfl T.b_list bt_list (pa_cons (pe_ix (ix_listK (K := K)) (pv 1) pe_int (fun _ _ => rfl)) pa_nil)) pa_nil))) pa_nil)))
      (pss_cons (ps_if (pt_cmpR op_eq (pv 2) pe_str (nomark _))
        (pss_one (ps_ret (pe_tup (pa_cons (pe_ix (ix_tupK (K := K)) (pe_bm0K (K := K) PySem.F.plainAttrs_list PySem.F.slot_list_pop PySem.F.type_list_pop mt_pop (pe_ix (ix_listK (K := K)) (pv 1) pe_int (fun _ _ => rfl))) pe_int (fun _ _ => rfl)) pa_nil))))
        pss_nil)
      (pss_cons (ps_if (pt_cmpR op_eq (pv 2) pe_str (nomark _))
        (pss_one (ps_expr (pe_bmK (K := K) PySem.F.plainAttrs_list PySem.F.slot_list_append PySem.F.type_list_append mt_append (pe_ix (ix_listK (K := K)) (pv 1) pe_int (fun _ _ => rfl)) (pa_cons (pe_tup (pa_cons (pe_call (G_law_shed.mono (by decide)) hr rfl T.law_shed.m T.law_shed.F.kp T.law_shed.b .nil pass0 (pa_cons (pe_ix (ix_tupK (K := K)) (pv 0) pe_int (fun _ _ => rfl)) (pa_cons (pe_call (G_law_lifted.mono (by decide)) hr rfl T.law_lifted.m T.law_lifted.F.kp T.law_lifted.b .nil pass0 (pa_cons (pe_ix (ix_tupK (K := K)) (pv 0) pe_int (fun _ _ => rfl)) (pa_cons (pe_ix (ix_listK (K := K)) (pv 1) pe_int (fun _ _ => rfl)) pa_nil))) pa_nil))) (pa_cons (pv 4) pa_nil))) pa_nil))))
        (pss_one (ps_asg (pe_cmpR op_eq (pv 2) pe_str (nomark _)) (pg_sub (pe_ix (ix_listK (K := K)) (pv 1) pe_int (fun _ _ => rfl)) (pv 3) set_list))))
      (pss_one (ps_ret (pe_tup (pa_cons pe_non pa_nil)))))))))), ?_⟩
    have bF : ∀ {b : Bool} {p : Prop}, (b = false ↔ p) → ¬ p → b = true := fun {b p} h n => by cases b with | true => rfl | false => exact absurd (h.mp rfl) n
    rcases k with ⟨hw, k⟩ | ⟨rfl, kl, k⟩ | ⟨h, w', k', hv0, rfl, ehv, hh, k⟩ | ⟨j, b, hw, rfl, hbj, k⟩ | ⟨rfl, kl, k⟩ | ⟨kr0, r, x, y, rfl, ekr, hr', k⟩
    ·
      refine ⟨_, rfl, _, rfl, _, rfl, st, dw, kp, hs, hl, bs, krs, hv, way, z, rfl, S, by omega, by omega, by omega, ?_⟩
      rcases hw with ⟨e, hw⟩ | ⟨e, hw⟩ | ⟨e, hw⟩ | ⟨e, hw⟩
      · refine .inl ⟨e, fun b hb => ?_⟩
        rw [bF hb hw]
        refine ⟨_, rfl, iteT ?_⟩
        exact ⟨(by show 2 ≤ sizeLine; decide), fun d nd => k d _ (.upd nd) upd_same⟩
      · refine .inr (.inl ⟨e, fun b hb => ?_⟩)
        rw [bF hb hw]
        refine ⟨_, rfl, iteT ?_⟩
        exact ⟨(by show 2 ≤ sizeLine; decide), fun d nd => k d _ (.upd nd) upd_same⟩
      · refine .inr (.inr (.inl ⟨e, ?_⟩))
        rw [hw]
        refine ⟨_, rfl, iteT ?_⟩
        exact ⟨(by show 2 ≤ sizeLine; decide), fun d nd => k d _ (.upd nd) upd_same⟩
      · refine .inr (.inr (.inr (.inl ⟨e, ?_⟩)))
        rw [hw]
        refine ⟨_, rfl, iteT ?_⟩
        exact ⟨(by show 2 ≤ sizeLine; decide), fun d nd => k d _ (.upd nd) upd_same⟩
    ·
      refine ⟨_, rfl, _, rfl, _, rfl, st, dw, kp, hs, hl, bs, krs, hv, _, z, rfl, S, by omega, by omega, by omega, .inr (.inr (.inr (.inr ⟨rfl, ?_⟩)))⟩
      refine ⟨_, rfl, iteF ?_⟩
      refine ⟨_, rfl, rfl, _, rfl, ?_⟩
      refine iteDp rfl ?_
      refine ⟨_, rfl, _, _, _, _, rfl, rfl, SqL.of S.o, rfl, _, _, rfl, .inl (SqL.of S.k), rfl, _, rfl, ?_⟩
      refine iteDp (by rw [List.length_map, kl]; rfl) ?_
      exact ⟨(by show 2 ≤ sizeLine; decide), fun d nd => k d _ (.upd nd) upd_same⟩
    ·
      refine ⟨_, rfl, _, rfl, _, rfl, st, dw, kp, hs, hl, bs, krs, hv, _, z, rfl, S, by omega, by omega, by omega, .inr (.inr (.inr (.inl ⟨rfl, ?_⟩)))⟩
      rw [show decide (hv.length = 0) = false from decide_eq_false (by rw [ehv]; simp)]
      refine ⟨_, rfl, iteF ?_⟩
      refine ⟨_, rfl, rfl, _, rfl, ?_⟩
      refine iteDn (by decide +kernel) ?_
      refine iteF ?_
      refine ⟨_, rfl, rfl, _, rfl, ?_⟩
      refine iteDp rfl ?_
      have hs0 := S.h
      rw [ehv] at hs0
      refine ⟨_, rfl, _, _, _, _, rfl, rfl, SqL.of S.o, rfl, .inl ⟨rfl, _, SqL.of hs0⟩, _, _, _, rfl, rfl, hs0, (show (hv0 ++ [V.ref h])[(hv0 ++ [V.ref h]).length - 1]? = some (V.ref h) by simp), ?_⟩
      rw [List.dropLast_concat]
      have k5 : ∀ y o, y ≠ hs → H y = some o → (upd H hs (.lst hv0)) y = some o := fun y o ny q => by rw [upd_ne ny]; exact q
      have hs5 : (upd H hs (.lst hv0)) hs = some (.lst hv0) := upd_same
      generalize upd H hs (.lst hv0) = H5 at k5 hs5 ⊢
      refine at_set (σ' := [some (.ref sg), some (.ref st), some (.str "undo"), some (.int z), some (.str letter), some (.ref h)]) rfl ?_
      have nhs : h ≠ hs := fun e => by rw [e, S.h] at hh; cases hh
      have nst : h ≠ st := fun e => by rw [e, S.o] at hh; cases hh
      have xh5 := k5 _ _ nhs hh
      have st5 := k5 _ _ N.sh S.o
      refine ⟨_, rfl, _, _, _, _, rfl, rfl, SqT.of xh5, rfl, _, rfl, _, _, _, _, rfl, rfl, st5, ixN_of (by decide) (by show (0 : Int) < 4; decide), ?_⟩
      have k6 : ∀ y o, y ≠ st → H5 y = some o → (upd H5 st (.lst (([.ref dw, .ref kp, .ref hs, .ref hl] : List V).set (Int.toNat 0) (.ref w')))) y = some o := fun y o ny q => by rw [upd_ne ny]; exact q
      have st6 : (upd H5 st (.lst (([.ref dw, .ref kp, .ref hs, .ref hl] : List V).set (Int.toNat 0) (.ref w')))) st = some (.lst [.ref w', .ref kp, .ref hs, .ref hl]) := upd_same
      generalize upd H5 st (.lst (([.ref dw, .ref kp, .ref hs, .ref hl] : List V).set (Int.toNat 0) (.ref w'))) = H6 at k6 st6 ⊢
      refine ⟨_, rfl, _, _, _, _, rfl, rfl, SqT.of (k6 _ _ nst xh5), rfl, _, rfl, _, _, _, _, rfl, rfl, st6, ixN_of (by decide) (by show (1 : Int) < 4; decide), ?_⟩
      have k7 : ∀ y o, y ≠ st → H6 y = some o → (upd H6 st (.lst (([.ref w', .ref kp, .ref hs, .ref hl] : List V).set (Int.toNat 1) (.ref k')))) y = some o := fun y o ny q => by rw [upd_ne ny]; exact q
      have st7 : (upd H6 st (.lst (([.ref w', .ref kp, .ref hs, .ref hl] : List V).set (Int.toNat 1) (.ref k')))) st = some (.lst [.ref w', .ref k', .ref hs, .ref hl]) := upd_same
      generalize upd H6 st (.lst (([.ref w', .ref kp, .ref hs, .ref hl] : List V).set (Int.toNat 1) (.ref k'))) = H7 at k7 st7 ⊢
      refine ⟨(by show 1 ≤ sizeLine; decide), fun d nd => ?_⟩
      have s8 : Same H7 (upd H7 d (.tup [.non])) := .upd nd
      refine k d _ (fun y o ny q => ?_) (s8 _ _ (k7 _ _ N.sh.symm (k6 _ _ N.sh.symm hs5))) (s8 _ _ st7) upd_same
      simp only [List.mem_cons, List.not_mem_nil, or_false, not_or] at ny
      exact s8 _ _ (k7 _ _ ny.1 (k6 _ _ ny.1 (k5 _ _ ny.2 q)))
    ·
      have can0 : ∃ k : Nat, (j : Int) = (k : Int) ∧ bs[k]? = some b := ⟨j, rfl, hbj⟩
      have jl : j < bs.length := (List.getElem?_eq_some_iff.mp hbj).1
      have nth : ¬ V.str way = V.str "throw" := by rcases hw with ⟨rfl, _⟩ | ⟨rfl, _⟩ <;> decide +kernel
      have nud : ¬ V.str way = V.str "undo" := by rcases hw with ⟨rfl, _⟩ | ⟨rfl, _⟩ <;> decide +kernel
      have nun : ¬ V.str way = V.str "unthrow" := by rcases hw with ⟨rfl, _⟩ | ⟨rfl, _⟩ <;> decide +kernel
      have ewp : decide (V.str way = V.str "press") = !b := by rcases hw with ⟨rfl, rfl⟩ | ⟨rfl, rfl⟩ <;> decide +kernel
      have bT : ∀ {b' : Bool} {p : Prop}, (b' = false ↔ p) → p → b' = false := fun h n => h.mpr n
      apply by_rest0
      · intro rest
        refine ⟨_, rfl, _, rfl, _, rfl, st, dw, kp, hs, hl, bs, krs, hv, way, _, rfl, S, by omega, by omega, by omega, ?_⟩
        rcases hw with ⟨e, eb⟩ | ⟨e, eb⟩
        · rw [eb] at can0
          refine .inl ⟨e, fun b' hb' => ?_⟩
          rw [bT hb' can0]
          exact ⟨_, rfl, iteF (rest ())⟩
        · rw [eb] at can0
          refine .inr (.inl ⟨e, fun b' hb' => ?_⟩)
          rw [bT hb' can0]
          exact ⟨_, rfl, iteF (rest ())⟩
      refine ⟨_, rfl, rfl, _, rfl, ?_⟩
      refine iteDn nth ?_
      refine iteF ?_
      refine ⟨_, rfl, rfl, _, rfl, ?_⟩
      refine iteDn nud ?_
      apply by_restHp (fun H4 => ∃ w0 k0 h0 : Addr, ButL [hs] H H4 ∧ Svd H H4 hs w0 k0 h0 bs krs hv)
      · intro rest
        refine ⟨_, rfl, _, _, _, _, rfl, rfl, SqL.of S.o, rfl, .inl ⟨rfl, _, SqL.of S.h⟩, _, rfl, _, _, _, _, rfl, rfl, SqL.of S.o, rfl, _, _, rfl, .inl (SqL.of S.w), fun w0 nw0 => ?_⟩
        have s1 : Same H (upd H w0 (.lst (vB bs))) := .upd nw0
        have gw1 : (upd H w0 (.lst (vB bs))) w0 = some (.lst (vB bs)) := upd_same
        generalize upd H w0 (.lst (vB bs)) = H1 at s1 gw1 ⊢
        refine ⟨_, rfl, _, _, _, _, rfl, rfl, SqL.of (s1 _ _ S.o), rfl, _, _, rfl, .inl (SqL.of (s1 _ _ S.k)), fun k0 nk0 => ?_⟩
        have s2 : Same H1 (upd H1 k0 (.lst (krs.map V.ref))) := .upd nk0
        have gk2 : (upd H1 k0 (.lst (krs.map V.ref))) k0 = some (.lst (krs.map V.ref)) := upd_same
        generalize upd H1 k0 (.lst (krs.map V.ref)) = H2 at s2 gk2 ⊢
        refine ⟨(by show 2 ≤ sizeLine; decide), fun h0 nh0 => ?_⟩
        have s3 : Same H2 (upd H2 h0 (.tup [.ref w0, .ref k0])) := .upd nh0
        have gh3 : (upd H2 h0 (.tup [.ref w0, .ref k0])) h0 = some (.tup [.ref w0, .ref k0]) := upd_same
        generalize upd H2 h0 (.tup [.ref w0, .ref k0]) = H3 at s3 gh3 ⊢
        have u3 := (s1.trans s2).trans s3
        refine ⟨_, _, _, rfl, rfl, u3 _ _ S.h, (by omega), ?_⟩
        have nk := s1.free nk0
        have nh := (s1.trans s2).free nh0
        have ne : ∀ {y : Addr}, H y = none → y ≠ hs := fun h z => by rw [z, S.h] at h; cases h
        have wk : w0 ≠ k0 := fun z => by rw [← z, gw1] at nk0; cases nk0
        refine rest _ ⟨w0, k0, h0, fun y o ny q => ?_, nw0, nk, wk, ?_, ?_, ?_, upd_same⟩
        · rw [upd_ne (fun z => ny (by simp [z]))]; exact u3 _ _ q
        · rw [upd_ne (ne nw0)]; exact s3 _ _ (s2 _ _ gw1)
        · rw [upd_ne (ne nk)]; exact s3 _ _ gk2
        · rw [upd_ne (ne nh)]; exact gh3
      rintro H4 ⟨w0, k0, h0, b4, V4⟩
      have e1 : ∀ {y : Addr}, y ≠ hs → y ∉ [hs] := fun ny => by simp [ny]
      have st4 := b4 _ _ (e1 N.sh) S.o
      have dw4 := b4 _ _ (e1 N.dh) S.w
      have kp4 := b4 _ _ (e1 N.kh) S.k
      have nwd : ∀ {y : Addr} {xs : List V}, H y = some (.lst xs) → w0 ≠ y ∧ k0 ≠ y := fun {y xs} h => ⟨fun z => (by have := V4.nw; rw [z, h] at this; cases this), fun z => (by have := V4.nk; rw [z, h] at this; cases this)⟩
      have nhd : ∀ {y : Addr} {xs : List V}, H4 y = some (.lst xs) → h0 ≠ y := fun {y xs} h z => by have := V4.hh; rw [z, h] at this; cases this
      refine ⟨_, rfl, rfl, _, rfl, ?_⟩
      refine iteDn nun ?_
      refine ⟨_, rfl, rfl, _, rfl, ?_⟩
      refine iteDn nth ?_
      refine ⟨_, rfl, rfl, _, rfl, _, _, _, _, rfl, rfl, SqL.of st4, rfl, _, rfl, _, _, _, _, rfl, rfl, dw4, ixN_of (by omega) (by rw [vB_len]; omega), ?_⟩
      rw [ewp, Int.toNat_natCast, show (vB bs).set j (V.bl (!b)) = vB (bs.set j (!b)) by unfold vB; rw [List.map_set]]
      have k5 : ∀ {y : Addr} {o : HO}, y ≠ dw → H4 y = some o → (upd H4 dw (.lst (vB (bs.set j (!b))))) y = some o := fun ny q => by rw [upd_ne ny]; exact q
      have dw5 : (upd H4 dw (.lst (vB (bs.set j (!b))))) dw = some (.lst (vB (bs.set j (!b)))) := upd_same
      generalize upd H4 dw (.lst (vB (bs.set j (!b)))) = H5 at k5 dw5 ⊢
      refine ⟨(by show 1 ≤ sizeLine; decide), fun d nd => ?_⟩
      have s6 : Same H5 (upd H5 d (.tup [.non])) := .upd nd
      refine k d w0 k0 h0 _ (fun y o ny q => ?_) ⟨V4.nw, V4.nk, V4.wk, s6 _ _ (k5 (nwd S.w).1 V4.hw), s6 _ _ (k5 (nwd S.w).2 V4.hk), s6 _ _ (k5 (nhd dw4) V4.hh), s6 _ _ (k5 N.dh.symm V4.hs)⟩ (s6 _ _ dw5) upd_same
      simp only [List.mem_cons, List.not_mem_nil, or_false, not_or] at ny
      exact s6 _ _ (k5 ny.1 (b4 _ _ (e1 ny.2) q))
    ·
      refine ⟨_, rfl, _, rfl, _, rfl, st, dw, kp, hs, hl, bs, krs, hv, _, z, rfl, S, by omega, by omega, by omega, .inr (.inr (.inr (.inr ⟨rfl, ?_⟩)))⟩
      refine ⟨_, rfl, iteF ?_⟩
      refine ⟨_, rfl, rfl, _, rfl, ?_⟩
      refine iteDp rfl ?_
      refine ⟨_, rfl, _, _, _, _, rfl, rfl, SqL.of S.o, rfl, _, _, rfl, .inl (SqL.of S.k), rfl, _, rfl, ?_⟩
      refine iteDn (fun q => by have := V.int.inj q; rw [List.length_map] at this; have : (krs.length : Int) = 40 := this; omega) ?_
      refine ⟨_, rfl, rfl, _, rfl, ?_⟩
      refine iteDn (by decide +kernel) ?_
      apply by_restHp (fun H4 => ∃ w0 k0 h0 : Addr, ButL [hs] H H4 ∧ Svd H H4 hs w0 k0 h0 bs krs hv)
      · intro rest
        refine ⟨_, rfl, _, _, _, _, rfl, rfl, SqL.of S.o, rfl, .inl ⟨rfl, _, SqL.of S.h⟩, _, rfl, _, _, _, _, rfl, rfl, SqL.of S.o, rfl, _, _, rfl, .inl (SqL.of S.w), fun w0 nw0 => ?_⟩
        have s1 : Same H (upd H w0 (.lst (vB bs))) := .upd nw0
        have gw1 : (upd H w0 (.lst (vB bs))) w0 = some (.lst (vB bs)) := upd_same
        generalize upd H w0 (.lst (vB bs)) = H1 at s1 gw1 ⊢
        refine ⟨_, rfl, _, _, _, _, rfl, rfl, SqL.of (s1 _ _ S.o), rfl, _, _, rfl, .inl (SqL.of (s1 _ _ S.k)), fun k0 nk0 => ?_⟩
        have s2 : Same H1 (upd H1 k0 (.lst (krs.map V.ref))) := .upd nk0
        have gk2 : (upd H1 k0 (.lst (krs.map V.ref))) k0 = some (.lst (krs.map V.ref)) := upd_same
        generalize upd H1 k0 (.lst (krs.map V.ref)) = H2 at s2 gk2 ⊢
        refine ⟨(by show 2 ≤ sizeLine; decide), fun h0 nh0 => ?_⟩
        have s3 : Same H2 (upd H2 h0 (.tup [.ref w0, .ref k0])) := .upd nh0
        have gh3 : (upd H2 h0 (.tup [.ref w0, .ref k0])) h0 = some (.tup [.ref w0, .ref k0]) := upd_same
        generalize upd H2 h0 (.tup [.ref w0, .ref k0]) = H3 at s3 gh3 ⊢
        have u3 := (s1.trans s2).trans s3
        refine ⟨_, _, _, rfl, rfl, u3 _ _ S.h, (by omega), ?_⟩
        have nk := s1.free nk0
        have nh := (s1.trans s2).free nh0
        have ne : ∀ {y : Addr}, H y = none → y ≠ hs := fun h z => by rw [z, S.h] at h; cases h
        have wk : w0 ≠ k0 := fun z => by rw [← z, gw1] at nk0; cases nk0
        refine rest _ ⟨w0, k0, h0, fun y o ny q => ?_, nw0, nk, wk, ?_, ?_, ?_, upd_same⟩
        · rw [upd_ne (fun z => ny (by simp [z]))]; exact u3 _ _ q
        · rw [upd_ne (ne nw0)]; exact s3 _ _ (s2 _ _ gw1)
        · rw [upd_ne (ne nk)]; exact s3 _ _ gk2
        · rw [upd_ne (ne nh)]; exact gh3
      rintro H4 ⟨w0, k0, h0, b4, V4⟩
      have e1 : ∀ {y : Addr}, y ≠ hs → y ∉ [hs] := fun ny => by simp [ny]
      have st4 := b4 _ _ (e1 N.sh) S.o
      have dw4 := b4 _ _ (e1 N.dh) S.w
      have kp4 := b4 _ _ (e1 N.kh) S.k
      have nwd : ∀ {y : Addr} {xs : List V}, H y = some (.lst xs) → w0 ≠ y ∧ k0 ≠ y := fun {y xs} h => ⟨fun z => (by have := V4.nw; rw [z, h] at this; cases this), fun z => (by have := V4.nk; rw [z, h] at this; cases this)⟩
      have nhd : ∀ {y : Addr} {xs : List V}, H4 y = some (.lst xs) → h0 ≠ y := fun {y xs} h z => by have := V4.hh; rw [z, h] at this; cases this
      refine ⟨_, rfl, rfl, _, rfl, ?_⟩
      refine iteDn (by decide +kernel) ?_
      refine ⟨_, rfl, rfl, _, rfl, ?_⟩
      refine iteDp rfl ?_
      have o4 : ∀ {y : Addr} {o : HO}, y ∉ [st, dw, kp, hs] → H y = some o → H4 y = some o := fun ny q => b4 _ _ (fun z => ny (by simp only [List.mem_cons, List.not_mem_nil, or_false] at z ⊢; simp [z])) q
      have nsg : sg ≠ hs := fun q => by rw [q, S.h] at hsg; cases hsg
      have sg4 := b4 _ _ (e1 nsg) hsg
      have lt4 := o4 nlt hlt
      have NY4 : NL H4 ly rs tss := ⟨o4 nly.1 NY.h, NY.l, fun i y q g1 g2 => o4 (nly.2 y (List.mem_of_getElem? g1)) (NY.r i y q g1 g2)⟩
      refine ⟨_, rfl, _, _, _, _, rfl, rfl, SqL.of st4, rfl, .inl ⟨rfl, _, SqL.of kp4⟩, _, rfl, _, _, _, _, rfl, rfl, SqT.of sg4, rfl, _, rfl, _, _, _, _, rfl, rfl, SqT.of sg4, rfl, _, rfl, _, _, _, _, rfl, rfl, SqL.of st4, rfl, ly, dw, rs, tss, bs, rfl, NY4, dw4, bl, n40, hti, fun l ks H5 s5 nl hl5 hm hp => ?_⟩
      refine ⟨lt, l, th, ks, rfl, s5 _ _ lt4, hl5, t40, fun H6 s6 => ?_⟩
      refine ⟨_, rfl, (by show 2 ≤ sizeLine; decide), fun r nr => ?_⟩
      have s7 : Same H6 (upd H6 r (.tup [.str (tx (shd th ks)), .str letter])) := .upd nr
      have gr7 : (upd H6 r (.tup [.str (tx (shd th ks)), .str letter])) r = some (.tup [.str (tx (shd th ks)), .str letter]) := upd_same
      generalize upd H6 r (.tup [.str (tx (shd th ks)), .str letter]) = H7 at s7 gr7 ⊢
      have u47 := (s5.trans s6).trans s7
      have kp7 := u47 _ _ kp4
      refine ⟨_, _, _, rfl, rfl, kp7, (by rw [List.length_map]; omega), ?_⟩
      rw [show krs.map V.ref ++ [V.ref r] = (krs ++ [r]).map V.ref by rw [List.map_append]; rfl]
      have nr4 := (s5.trans s6).free nr
      have nrs : r ≠ hs := fun q => by rw [q, V4.hs] at nr4; cases nr4
      have nrk : r ≠ kp := fun q => by rw [q, kp4] at nr4; cases nr4
      have k8 : ∀ {y : Addr} {o : HO}, y ≠ kp → H7 y = some o → (upd H7 kp (.lst ((krs ++ [r]).map V.ref))) y = some o := fun ny q => by rw [upd_ne ny]; exact q
      have kp8 : (upd H7 kp (.lst ((krs ++ [r]).map V.ref))) kp = some (.lst ((krs ++ [r]).map V.ref)) := upd_same
      generalize upd H7 kp (.lst ((krs ++ [r]).map V.ref)) = H8 at k8 kp8 ⊢
      refine ⟨(by show 1 ≤ sizeLine; decide), fun d nd => ?_⟩
      have s9 : Same H8 (upd H8 d (.tup [.non])) := .upd nd
      refine k d w0 k0 h0 r ks _ (fun y o ny q => ?_) ⟨V4.nw, V4.nk, V4.wk, s9 _ _ (k8 (nwd S.k).1 (u47 _ _ V4.hw)), s9 _ _ (k8 (nwd S.k).2 (u47 _ _ V4.hk)), s9 _ _ (k8 (nhd kp4) (u47 _ _ V4.hh)), s9 _ _ (k8 N.kh.symm (u47 _ _ V4.hs))⟩ (b4.free (e1 nrs) nr4) (s9 _ _ kp8) (s9 _ _ (k8 nrk gr7)) hm upd_same
      simp only [List.mem_cons, List.not_mem_nil, or_false, not_or] at ny
      exact s9 _ _ (k8 ny.1 (u47 _ _ (b4 _ _ (e1 ny.2) q)))
    ·
      refine ⟨_, rfl, _, rfl, _, rfl, st, dw, kp, hs, hl, bs, krs, hv, _, z, rfl, S, by omega, by omega, by omega, .inr (.inr (.inl ⟨rfl, ?_⟩))⟩
      rw [show decide (krs.length = 0) = false from decide_eq_false (by rw [ekr]; simp)]
      refine ⟨_, rfl, iteF ?_⟩
      refine ⟨_, rfl, rfl, _, rfl, ?_⟩
      refine iteDn (by decide +kernel) ?_
      refine iteF ?_
      refine ⟨_, rfl, rfl, _, rfl, ?_⟩
      refine iteDn (by decide +kernel) ?_
      apply by_restHp (fun H4 => ∃ w0 k0 h0 : Addr, ButL [hs] H H4 ∧ Svd H H4 hs w0 k0 h0 bs krs hv)
      · intro rest
        refine ⟨_, rfl, _, _, _, _, rfl, rfl, SqL.of S.o, rfl, .inl ⟨rfl, _, SqL.of S.h⟩, _, rfl, _, _, _, _, rfl, rfl, SqL.of S.o, rfl, _, _, rfl, .inl (SqL.of S.w), fun w0 nw0 => ?_⟩
        have s1 : Same H (upd H w0 (.lst (vB bs))) := .upd nw0
        have gw1 : (upd H w0 (.lst (vB bs))) w0 = some (.lst (vB bs)) := upd_same
        generalize upd H w0 (.lst (vB bs)) = H1 at s1 gw1 ⊢
        refine ⟨_, rfl, _, _, _, _, rfl, rfl, SqL.of (s1 _ _ S.o), rfl, _, _, rfl, .inl (SqL.of (s1 _ _ S.k)), fun k0 nk0 => ?_⟩
        have s2 : Same H1 (upd H1 k0 (.lst (krs.map V.ref))) := .upd nk0
        have gk2 : (upd H1 k0 (.lst (krs.map V.ref))) k0 = some (.lst (krs.map V.ref)) := upd_same
        generalize upd H1 k0 (.lst (krs.map V.ref)) = H2 at s2 gk2 ⊢
        refine ⟨(by show 2 ≤ sizeLine; decide), fun h0 nh0 => ?_⟩
        have s3 : Same H2 (upd H2 h0 (.tup [.ref w0, .ref k0])) := .upd nh0
        have gh3 : (upd H2 h0 (.tup [.ref w0, .ref k0])) h0 = some (.tup [.ref w0, .ref k0]) := upd_same
        generalize upd H2 h0 (.tup [.ref w0, .ref k0]) = H3 at s3 gh3 ⊢
        have u3 := (s1.trans s2).trans s3
        refine ⟨_, _, _, rfl, rfl, u3 _ _ S.h, (by omega), ?_⟩
        have nk := s1.free nk0
        have nh := (s1.trans s2).free nh0
        have ne : ∀ {y : Addr}, H y = none → y ≠ hs := fun h z => by rw [z, S.h] at h; cases h
        have wk : w0 ≠ k0 := fun z => by rw [← z, gw1] at nk0; cases nk0
        refine rest _ ⟨w0, k0, h0, fun y o ny q => ?_, nw0, nk, wk, ?_, ?_, ?_, upd_same⟩
        · rw [upd_ne (fun z => ny (by simp [z]))]; exact u3 _ _ q
        · rw [upd_ne (ne nw0)]; exact s3 _ _ (s2 _ _ gw1)
        · rw [upd_ne (ne nk)]; exact s3 _ _ gk2
        · rw [upd_ne (ne nh)]; exact gh3
      rintro H4 ⟨w0, k0, h0, b4, V4⟩
      have e1 : ∀ {y : Addr}, y ≠ hs → y ∉ [hs] := fun ny => by simp [ny]
      have st4 := b4 _ _ (e1 N.sh) S.o
      have dw4 := b4 _ _ (e1 N.dh) S.w
      have kp4 := b4 _ _ (e1 N.kh) S.k
      have nwd : ∀ {y : Addr} {xs : List V}, H y = some (.lst xs) → w0 ≠ y ∧ k0 ≠ y := fun {y xs} h => ⟨fun z => (by have := V4.nw; rw [z, h] at this; cases this), fun z => (by have := V4.nk; rw [z, h] at this; cases this)⟩
      have nhd : ∀ {y : Addr} {xs : List V}, H4 y = some (.lst xs) → h0 ≠ y := fun {y xs} h z => by have := V4.hh; rw [z, h] at this; cases this
      refine ⟨_, rfl, rfl, _, rfl, ?_⟩
      refine iteDp rfl ?_
      rw [ekr] at kp4
      have nrs : r ≠ hs := fun q => by rw [q, S.h] at hr'; cases hr'
      have nrk : r ≠ kp := fun q => by rw [q, S.k] at hr'; cases hr'
      refine ⟨_, rfl, _, _, _, _, rfl, rfl, SqL.of st4, rfl, .inl ⟨rfl, _, SqL.of kp4⟩, _, _, _, rfl, rfl, kp4, (show ((kr0 ++ [r]).map V.ref)[((kr0 ++ [r]).map V.ref).length - 1]? = some (V.ref r) by simp), ?_⟩
      rw [show ((kr0 ++ [r]).map V.ref).dropLast = kr0.map V.ref by rw [List.map_append]; simp]
      have k8 : ∀ {y : Addr} {o : HO}, y ≠ kp → H4 y = some o → (upd H4 kp (.lst (kr0.map V.ref))) y = some o := fun ny q => by rw [upd_ne ny]; exact q
      have kp8 : (upd H4 kp (.lst (kr0.map V.ref))) kp = some (.lst (kr0.map V.ref)) := upd_same
      generalize upd H4 kp (.lst (kr0.map V.ref)) = H8 at k8 kp8 ⊢
      have r8 := k8 nrk (b4 _ _ (e1 nrs) hr')
      refine ⟨_, _, _, _, rfl, rfl, SqT.of r8, rfl, (by show 1 ≤ sizeLine; decide), fun d nd => ?_⟩
      have s9 : Same H8 (upd H8 d (.tup [.str y])) := .upd nd
      refine k d w0 k0 h0 _ (fun y o ny q => ?_) ⟨V4.nw, V4.nk, V4.wk, s9 _ _ (k8 (nwd S.k).1 V4.hw), s9 _ _ (k8 (nwd S.k).2 V4.hk), s9 _ _ (k8 (nhd kp4) V4.hh), s9 _ _ (k8 N.kh.symm V4.hs)⟩ (s9 _ _ kp8) upd_same
      simp only [List.mem_cons, List.not_mem_nil, or_false, not_or] at ny
      exact s9 _ _ (k8 ny.1 (b4 _ _ (e1 ny.2) q))
def sp_try (t : Adr) : Sp := fun vs H Q _ => ∃ (m dx a b c e g : Addr) (qs : List Addr) (th : List Int) (tss : List (List Int)) (dn : List Int) (tn ds : List V) (way letter : Str) (z : Int), vs = [.ref m, .str way, .int z, .str letter] ∧ LM t H m dx a b c e g qs th tss dn tn ds ∧ (∀ ks ∈ tss, Rs ks) ∧ (∀ d ∈ dn, 0 ≤ d ∧ d < (tss.length : Int)) ∧ dn.length ≤ 64 ∧ ds.length ≤ 900 ∧ tn.length ≤ 40 ∧
  (((way = "press" ∧ ¬ (0 ≤ z ∧ z < (tss.length : Int) ∧ z ∉ dn) ∨ way = "lift" ∧ z ∉ dn ∨ way = "unthrow" ∧ tn = [] ∨ way = "undo" ∧ ds = []) ∧ ∀ (d : Addr) (H' : Hp), Same H H' → H' d = some (.tup [.str "refused", .str "NoDeed"]) → Q (.ref d) H') ∨
   (way = "throw" ∧ tn.length = 40 ∧ ∀ (d : Addr) (H' : Hp), Same H H' → H' d = some (.tup [.str "refused", .str "TooLarge"]) → Q (.ref d) H') ∨
   (way = "press" ∧ (0 ≤ z ∧ z < (tss.length : Int) ∧ z ∉ dn) ∧ ∀ (p d : Addr) (H' : Hp), H p = none → H' p = some (.tup [.str "press", .int z]) → ButL [c, e, g] H H' → LM t H' m dx a b c e g qs th tss (dn ++ [z]) tn (ds ++ [.ref p]) → H' d = some (.tup [.non]) → Q (.ref d) H') ∨
   (way = "lift" ∧ z ∈ dn ∧ ∀ (j : Nat) (p d : Addr) (H' : Hp), dn[j]? = some z → H p = none → H' p = some (.tup [.str "lift", .int z]) → ButL [c, e, g] H H' → LM t H' m dx a b c e g qs th tss (dn.eraseIdx j) tn (ds ++ [.ref p]) → H' d = some (.tup [.non]) → Q (.ref d) H') ∨
   (way = "throw" ∧ tn.length < 40 ∧ ∀ (p sl u d : Addr) (ks : List Int) (H' : Hp), ButL [c, e, g] H H' → H p = none → H sl = none → H u = none → LM t H' m dx a b c e g qs th tss dn (tn ++ [.ref p]) (ds ++ [.ref u]) → H' p = some (.tup [.ref sl, .str letter]) → H' sl = some (.lst (vI ks)) → H' u = some (.tup [.str "throw", .non]) → (∀ y, y ∈ ks ↔ y ∈ lifts tss dn) → H' d = some (.tup [.non]) → Q (.ref d) H') ∨
   (∃ (p sl : Addr) (tn0 : List V) (y : Str), way = "unthrow" ∧ tn = tn0 ++ [.ref p] ∧ H p = some (.tup [.ref sl, .str y]) ∧ ∀ (u d : Addr) (H' : Hp), ButL [c, e, g] H H' → H u = none → H' u = some (.tup [.str "unthrow", .ref p]) → LM t H' m dx a b c e g qs th tss dn tn0 (ds ++ [.ref u]) → H' d = some (.tup [.str y]) → Q (.ref d) H') ∨
   (∃ (u : Addr) (ds0 : List V), way = "undo" ∧ ds = ds0 ++ [.ref u] ∧
    ((∃ y : Int, H u = some (.tup [.str "press", .int y]) ∧ y ∈ dn ∧ ∀ (j : Nat) (d : Addr) (H' : Hp), dn[j]? = some y → ButL [c, e, g] H H' → LM t H' m dx a b c e g qs th tss (dn.eraseIdx j) tn ds0 → H' d = some (.tup [.non]) → Q (.ref d) H') ∨
     (∃ y : Int, H u = some (.tup [.str "lift", .int y]) ∧ ∀ (d : Addr) (H' : Hp), ButL [c, e, g] H H' → LM t H' m dx a b c e g qs th tss (dn ++ [y]) tn ds0 → H' d = some (.tup [.non]) → Q (.ref d) H') ∨
     (∃ (tn0 : List V) (x : V), H u = some (.tup [.str "throw", .non]) ∧ tn = tn0 ++ [x] ∧ ∀ (d : Addr) (H' : Hp), ButL [c, e, g] H H' → LM t H' m dx a b c e g qs th tss dn tn0 ds0 → H' d = some (.tup [.non]) → Q (.ref d) H') ∨
     (∃ p : Addr, H u = some (.tup [.str "unthrow", .ref p]) ∧ ∀ (d : Addr) (H' : Hp), ButL [c, e, g] H H' → LM t H' m dx a b c e g qs th tss dn (tn ++ [.ref p]) ds0 → H' d = some (.tup [.non]) → Q (.ref d) H'))))
theorem ok_law_try (T : Txt K mg t) : FnOk P w K mg base CX0 3 t.f_law_try t.d_law_try ["made", "way", "at", "letter"] (sp_try t) := by
  have G_Loom_lift : FnOk P w K mg base (CX1 P w) 1 t.f_Loom_lift t.d_Loom_lift _ _ := okx_Loom_lift T
  have G_Loom_press : FnOk P w K mg base (CX1 P w) 1 t.f_Loom_press t.d_Loom_press _ _ := okx_Loom_press T
  have G_Loom_throw : FnOk P w K mg base (CX1 P w) 2 t.f_Loom_throw t.d_Loom_throw _ _ := okx_Loom_throw T
  have G_Loom_unthrow : FnOk P w K mg base (CX1 P w) 1 t.f_Loom_unthrow t.d_Loom_unthrow _ _ := okx_Loom_unthrow T
  have G_Loom_undo : FnOk P w K mg base (CX1 P w) 1 t.f_Loom_undo t.d_Loom_undo _ _ := okx_Loom_undo T
  refine T.law_try.F.ok sc_law_try (fun vs H Q E h => ?_) (fun cdv A outer s H vs Q E hr h => ?_)
  · obtain ⟨m, dx, a, b, c, e, g, qs, th, tss, dn, tn, ds, way, letter, z, rfl, _⟩ := h
    rfl
  · obtain ⟨m, dx, a, b, c, e, g, qs, th, tss, dn, tn, ds, way, letter, z, rfl, L, hR, hd, dl, dsl, tl, k⟩ := h
    have hsz : sizeLine = 16777216 := sizeLine_eq
    refine ⟨_, (pss_cons (ps_set (i := 4) sc_law_try.nd rfl (Or.inl rfl) pe_non)
      (pss_cons (ps_set (i := 5) sc_law_try.nd rfl (Or.inl rfl) (pe_tup pa_nil))
      (pss_cons (ps_try (j := 6) ⟨rfl, rfl, rfl⟩ rfl (psxs_one (psx_if (pt_cmpR op_eq (pv 1) pe_str (nomark _)) (psxs_one (psx_set (i := 5) sc_law_try.nd rfl (Or.inl rfl) (pex_tup1 (pex_meth (pv 0) T.o_Loom.c T.m_Loom_press.m (G_Loom_press.mono (by decide)) hr T.m_Loom_press.b .nil (pa_cons (pv 2) pa_nil))))) (psxs_one (psx_if (pt_cmpR op_eq (pv 1) pe_str (nomark _)) (psxs_one (psx_set (i := 5) sc_law_try.nd rfl (Or.inl rfl) (pex_tup1 (pex_meth (pv 0) T.o_Loom.c T.m_Loom_lift.m (G_Loom_lift.mono (by decide)) hr T.m_Loom_lift.b .nil (pa_cons (pv 2) pa_nil))))) (psxs_one (psx_if (pt_cmpR op_eq (pv 1) pe_str (nomark _)) (psxs_one (psx_set (i := 5) sc_law_try.nd rfl (Or.inl rfl) (pex_tup1 (pex_meth (pv 0) T.o_Loom.c T.m_Loom_throw.m (G_Loom_throw.mono (by decide)) hr T.m_Loom_throw.b .nil (pa_cons (pv 3) pa_nil))))) (psxs_one (psx_if (pt_cmpR op_eq (pv 1) pe_str (nomark _)) (psxs_one (psx_set (i := 5) sc_law_try.nd rfl (Or.inl rfl) (pex_tup1 (pex_meth0 (pv 0) T.o_Loom.c T.m_Loom_unthrow.m (G_Loom_unthrow.mono (by decide)) hr T.m_Loom_unthrow.b .nil)))) (psxs_one (psx_set (i := 5) sc_law_try.nd rfl (Or.inl rfl) (pex_tup1 (pex_meth0 (pv 0) T.o_Loom.c T.m_Loom_undo.m (G_Loom_undo.mono (by decide)) hr T.m_Loom_undo.b .nil)))))))))))) sc_law_try.nd rfl rfl rfl T.k_WeaveError T.x_WeaveError.q has_base (fun _ => (pss_one (ps_set (i := 4) sc_law_try.nd rfl (Or.inl rfl) (pv 6)))))
      (pss_cons (ps_if (pt_cmpR op_isN (pv 4) pe_non (nomark _))
        (pss_one (ps_ret (pv 5)))
        pss_nil)
      (pss_cons (ps_if (PW.pt (pw_and (pt_val (pe_callB (call_isx (K := K)) rfl T.b_isinstance bt_isinstance (pa_cons (pv 4) (pa_cons (pe_glob (v := .ref t.e_NoDeed) rfl T.k_NoDeed rfl) pa_nil)))) (pw_and1 (pt_not (pt_val (pe_callB (call_isx (K := K)) rfl T.b_isinstance bt_isinstance (pa_cons (pv 4) (pa_cons (pe_glob (v := .ref t.e_TooLarge) rfl T.k_TooLarge rfl) pa_nil))))))))
        (pss_one (ps_ret (pe_tup (pa_cons pe_str (pa_cons pe_str pa_nil)))))
        pss_nil)
      (pss_cons (ps_if (PW.pt (pw_and (pt_val (pe_callB (call_isx (K := K)) rfl T.b_isinstance bt_isinstance (pa_cons (pv 4) (pa_cons (pe_glob (v := .ref t.e_TooLarge) rfl T.k_TooLarge rfl) pa_nil)))) (pw_and1 (pt_not (pt_val (pe_callB (call_isx (K := K)) rfl T.b_isinstance bt_isinstance (pa_cons (pv 4) (pa_cons (pe_glob (v := .ref t.e_NoDeed) rfl T.k_NoDeed rfl) pa_nil))))))))
        (pss_one (ps_ret (pe_tup (pa_cons pe_str (pa_cons pe_str pa_nil)))))
        pss_nil)
      (pss_one (ps_ret (pe_tup (pa_cons pe_str (pa_cons pe_str pa_nil))))))))))), ?_⟩
    refine ⟨Nat.zero_le _, fun tp ntp => ?_⟩
    have s0 : Same H (upd H tp (.tup [])) := .upd ntp
    generalize upd H tp (.tup []) = H0 at s0 ⊢
    refine at_set (σ' := [some (.ref m), some (.str way), some (.int z), some (.str letter), some .non, some (.ref tp), none]) rfl ?_
    have L0 := L.same s0
    have M0 := L0.M
    have b2 : ∀ {H1 H2 : Hp}, But2 c g H1 H2 → ButL [c, e, g] H1 H2 := fun b u o nu q => b u o (fun z => nu (by simp [z])) (fun z => nu (by simp [z])) q
    have b3 : ∀ {H1 H2 : Hp}, ButL [e, g] H1 H2 → ButL [c, e, g] H1 H2 := fun b u o nu q => b u o (fun z => nu (by simp only [List.mem_cons, List.not_mem_nil, or_false] at z ⊢; rcases z with z | z <;> simp [z])) q
    have bs : ∀ {H1 H2 : Hp}, ButL [c, e, g] H0 H1 → Same H1 H2 → ButL [c, e, g] H H2 := fun b q u o nu h => q _ _ (b u o nu (s0 _ _ h))
    rcases k with ⟨hw, k⟩ | ⟨rfl, tl40, k⟩ | ⟨rfl, hz, k⟩ | ⟨rfl, hz, k⟩ | ⟨rfl, tl', k⟩ | ⟨p, sl, tn0, y, rfl, et, hp, k⟩ | ⟨u, ds0, rfl, et, k⟩
    ·
      apply by_rest0
      · intro rest
        rcases hw with ⟨rfl, hw⟩ | ⟨rfl, hw⟩ | ⟨rfl, hw⟩ | ⟨rfl, hw⟩
        · refine ⟨_, rfl, rfl, _, rfl, ?_⟩
          refine iteDp rfl ?_
          exact ⟨_, rfl, _, _, _, rfl, M0.o, rfl, _, rfl, m, dx, a, b, c, e, g, qs, th, tss, dn, tn, ds, z, rfl, L0, by omega, dsl, fun q => absurd q hw, fun _ => rest ()⟩
        · refine ⟨_, rfl, rfl, _, rfl, ?_⟩
          refine iteDn (by decide +kernel) ?_
          refine ⟨_, rfl, rfl, _, rfl, ?_⟩
          refine iteDp rfl ?_
          exact ⟨_, rfl, _, _, _, rfl, M0.o, rfl, _, rfl, m, dx, a, b, c, e, g, qs, th, tss, dn, tn, ds, z, rfl, L0, by omega, dsl, fun j p H' hj => absurd (List.mem_of_getElem? hj) hw, fun _ => rest ()⟩
        · refine ⟨_, rfl, rfl, _, rfl, ?_⟩
          refine iteDn (by decide +kernel) ?_
          refine ⟨_, rfl, rfl, _, rfl, ?_⟩
          refine iteDn (by decide +kernel) ?_
          refine ⟨_, rfl, rfl, _, rfl, ?_⟩
          refine iteDn (by decide +kernel) ?_
          refine ⟨_, rfl, rfl, _, rfl, ?_⟩
          refine iteDp rfl ?_
          exact ⟨_, rfl, _, _, _, rfl, M0.o, rfl, m, dx, a, b, c, e, g, qs, th, tss, dn, tn, ds, rfl, L0, dsl, .inr ⟨hw, rest ()⟩⟩
        · refine ⟨_, rfl, rfl, _, rfl, ?_⟩
          refine iteDn (by decide +kernel) ?_
          refine ⟨_, rfl, rfl, _, rfl, ?_⟩
          refine iteDn (by decide +kernel) ?_
          refine ⟨_, rfl, rfl, _, rfl, ?_⟩
          refine iteDn (by decide +kernel) ?_
          refine ⟨_, rfl, rfl, _, rfl, ?_⟩
          refine iteDn (by decide +kernel) ?_
          exact ⟨_, rfl, _, _, _, rfl, M0.o, rfl, m, dx, a, b, c, e, g, qs, th, tss, dn, tn, ds, rfl, L0, by omega, by omega, .inl ⟨hw, rest ()⟩⟩
      refine ⟨_, rfl, T.x_NoDeed.sub T.r_NoDeed_WeaveError, fun ea ne => ?_⟩
      have se := Same.upd (o := exH t.e_NoDeed ea) ne
      have he : (upd H0 ea (exH t.e_NoDeed ea)) ea = some (exH t.e_NoDeed ea) := upd_same
      generalize upd H0 ea (exH t.e_NoDeed ea) = H2 at se he ⊢
      refine ⟨_, rfl, ?_⟩
      refine ⟨_, rfl, rfl, _, rfl, ?_⟩
      refine iteF ?_
      refine ⟨_, rfl, ea, t.e_NoDeed, true, he, T.x_NoDeed.c, .inr ⟨t.e_NoDeed, rfl, kit_ref T.r_NoDeed_NoDeed T.x_NoDeed T.r_NoDeed_NoDeed⟩, _, rfl, ?_⟩
      refine iteT ?_
      refine ⟨_, rfl, ea, t.e_NoDeed, false, he, T.x_NoDeed.c, .inr ⟨t.e_TooLarge, rfl, kit_ref T.r_NoDeed_NoDeed T.x_TooLarge T.r_NoDeed_TooLarge⟩, _, rfl, ?_⟩
      refine iteT ?_
      refine ⟨(by show 2 ≤ sizeLine; decide), fun d nd => ?_⟩
      exact k d _ ((s0.trans se).new nd) upd_same
    ·
      refine ⟨_, rfl, rfl, _, rfl, ?_⟩
      refine iteDn (by decide +kernel) ?_
      refine ⟨_, rfl, rfl, _, rfl, ?_⟩
      refine iteDn (by decide +kernel) ?_
      refine ⟨_, rfl, rfl, _, rfl, ?_⟩
      refine iteDp rfl ?_
      refine ⟨_, rfl, _, _, _, rfl, M0.o, rfl, _, rfl, m, dx, a, b, c, e, g, qs, th, tss, dn, tn, ds, letter, rfl, L0, hR, hd, dl, dsl, tl, fun q => absurd q (by omega), fun _ => ?_⟩
      refine ⟨_, rfl, T.x_TooLarge.sub T.r_TooLarge_WeaveError, fun ea ne => ?_⟩
      have se := Same.upd (o := exH t.e_TooLarge ea) ne
      have he : (upd H0 ea (exH t.e_TooLarge ea)) ea = some (exH t.e_TooLarge ea) := upd_same
      generalize upd H0 ea (exH t.e_TooLarge ea) = H2 at se he ⊢
      refine ⟨_, rfl, ?_⟩
      refine ⟨_, rfl, rfl, _, rfl, ?_⟩
      refine iteF ?_
      refine ⟨_, rfl, ea, t.e_TooLarge, false, he, T.x_TooLarge.c, .inr ⟨t.e_NoDeed, rfl, kit_ref T.r_TooLarge_TooLarge T.x_NoDeed T.r_TooLarge_NoDeed⟩, _, rfl, ?_⟩
      refine iteF ?_
      refine iteF ?_
      refine ⟨_, rfl, ea, t.e_TooLarge, true, he, T.x_TooLarge.c, .inr ⟨t.e_TooLarge, rfl, kit_ref T.r_TooLarge_TooLarge T.x_TooLarge T.r_TooLarge_TooLarge⟩, _, rfl, ?_⟩
      refine iteT ?_
      refine ⟨_, rfl, ea, t.e_TooLarge, false, he, T.x_TooLarge.c, .inr ⟨t.e_NoDeed, rfl, kit_ref T.r_TooLarge_TooLarge T.x_NoDeed T.r_TooLarge_NoDeed⟩, _, rfl, ?_⟩
      refine iteT ?_
      refine ⟨(by show 2 ≤ sizeLine; decide), fun d nd => ?_⟩
      exact k d _ ((s0.trans se).new nd) upd_same
    ·
      refine ⟨_, rfl, rfl, _, rfl, ?_⟩
      refine iteDp rfl ?_
      refine ⟨_, rfl, _, _, _, rfl, M0.o, rfl, _, rfl, m, dx, a, b, c, e, g, qs, th, tss, dn, tn, ds, z, rfl, L0, by omega, dsl, fun _ p H1 np hp b1 L1 => ?_, fun q => absurd hz q⟩
      refine ⟨(by show 1 ≤ sizeLine; decide), fun d nd => ?_⟩
      have sd : Same H1 (upd H1 d (.tup [.non])) := .upd nd
      refine ⟨_, rfl, rfl, _, rfl, ?_⟩
      refine iteT ?_
      exact ⟨_, rfl, k p d _ (s0.free np) (sd _ _ hp) (bs (b2 b1) sd) (L1.same sd) upd_same⟩
    ·
      refine ⟨_, rfl, rfl, _, rfl, ?_⟩
      refine iteDn (by decide +kernel) ?_
      refine ⟨_, rfl, rfl, _, rfl, ?_⟩
      refine iteDp rfl ?_
      refine ⟨_, rfl, _, _, _, rfl, M0.o, rfl, _, rfl, m, dx, a, b, c, e, g, qs, th, tss, dn, tn, ds, z, rfl, L0, by omega, dsl, fun j p H1 hj np hp b1 L1 => ?_, fun q => absurd hz q⟩
      refine ⟨(by show 1 ≤ sizeLine; decide), fun d nd => ?_⟩
      have sd : Same H1 (upd H1 d (.tup [.non])) := .upd nd
      refine ⟨_, rfl, rfl, _, rfl, ?_⟩
      refine iteT ?_
      exact ⟨_, rfl, k j p d _ hj (s0.free np) (sd _ _ hp) (bs (b2 b1) sd) (L1.same sd) upd_same⟩
    ·
      refine ⟨_, rfl, rfl, _, rfl, ?_⟩
      refine iteDn (by decide +kernel) ?_
      refine ⟨_, rfl, rfl, _, rfl, ?_⟩
      refine iteDn (by decide +kernel) ?_
      refine ⟨_, rfl, rfl, _, rfl, ?_⟩
      refine iteDp rfl ?_
      refine ⟨_, rfl, _, _, _, rfl, M0.o, rfl, _, rfl, m, dx, a, b, c, e, g, qs, th, tss, dn, tn, ds, letter, rfl, L0, hR, hd, dl, dsl, tl, fun _ p sl u ks H1 b1 np nsl nu L1 hp hsl hu hm _ => ?_, fun q => absurd tl' q⟩
      refine ⟨(by show 1 ≤ sizeLine; decide), fun d nd => ?_⟩
      have sd : Same H1 (upd H1 d (.tup [.non])) := .upd nd
      refine ⟨_, rfl, rfl, _, rfl, ?_⟩
      refine iteT ?_
      exact ⟨_, rfl, k p sl u d ks _ (bs (b3 b1) sd) (s0.free np) (s0.free nsl) (s0.free nu) (L1.same sd) (sd _ _ hp) (sd _ _ hsl) (sd _ _ hu) hm upd_same⟩
    ·
      refine ⟨_, rfl, rfl, _, rfl, ?_⟩
      refine iteDn (by decide +kernel) ?_
      refine ⟨_, rfl, rfl, _, rfl, ?_⟩
      refine iteDn (by decide +kernel) ?_
      refine ⟨_, rfl, rfl, _, rfl, ?_⟩
      refine iteDn (by decide +kernel) ?_
      refine ⟨_, rfl, rfl, _, rfl, ?_⟩
      refine iteDp rfl ?_
      refine ⟨_, rfl, _, _, _, rfl, M0.o, rfl, m, dx, a, b, c, e, g, qs, th, tss, dn, tn, ds, rfl, L0, dsl, .inl ⟨p, sl, tn0, y, et, s0 _ _ hp, fun u H1 b1 nu hu L1 => ?_⟩⟩
      refine ⟨(by show 1 ≤ sizeLine; decide), fun d nd => ?_⟩
      have sd : Same H1 (upd H1 d (.tup [.str y])) := .upd nd
      refine ⟨_, rfl, rfl, _, rfl, ?_⟩
      refine iteT ?_
      exact ⟨_, rfl, k u d _ (bs (b3 b1) sd) (s0.free nu) (sd _ _ hu) (L1.same sd) upd_same⟩
    ·
      refine ⟨_, rfl, rfl, _, rfl, ?_⟩
      refine iteDn (by decide +kernel) ?_
      refine ⟨_, rfl, rfl, _, rfl, ?_⟩
      refine iteDn (by decide +kernel) ?_
      refine ⟨_, rfl, rfl, _, rfl, ?_⟩
      refine iteDn (by decide +kernel) ?_
      refine ⟨_, rfl, rfl, _, rfl, ?_⟩
      refine iteDn (by decide +kernel) ?_
      refine ⟨_, rfl, _, _, _, rfl, M0.o, rfl, m, dx, a, b, c, e, g, qs, th, tss, dn, tn, ds, rfl, L0, by omega, by omega, .inr ⟨u, ds0, et, ?_⟩⟩
      rcases k with ⟨y, hu, hy, k⟩ | ⟨y, hu, k⟩ | ⟨tn0, x, hu, etn, k⟩ | ⟨p, hu, k⟩
      · refine .inl ⟨y, s0 _ _ hu, hy, fun j H1 hj b1 L1 => ?_⟩
        refine ⟨(by show 1 ≤ sizeLine; decide), fun d nd => ?_⟩
        have sd : Same H1 (upd H1 d (.tup [.non])) := .upd nd
        refine ⟨_, rfl, rfl, _, rfl, ?_⟩
        refine iteT ?_
        exact ⟨_, rfl, k j d _ hj (bs b1 sd) (L1.same sd) upd_same⟩
      · refine .inr (.inl ⟨y, s0 _ _ hu, fun H1 b1 L1 => ?_⟩)
        refine ⟨(by show 1 ≤ sizeLine; decide), fun d nd => ?_⟩
        have sd : Same H1 (upd H1 d (.tup [.non])) := .upd nd
        refine ⟨_, rfl, rfl, _, rfl, ?_⟩
        refine iteT ?_
        exact ⟨_, rfl, k d _ (bs b1 sd) (L1.same sd) upd_same⟩
      · refine .inr (.inr (.inl ⟨tn0, x, s0 _ _ hu, etn, fun H1 b1 L1 => ?_⟩))
        refine ⟨(by show 1 ≤ sizeLine; decide), fun d nd => ?_⟩
        have sd : Same H1 (upd H1 d (.tup [.non])) := .upd nd
        refine ⟨_, rfl, rfl, _, rfl, ?_⟩
        refine iteT ?_
        exact ⟨_, rfl, k d _ (bs b1 sd) (L1.same sd) upd_same⟩
      · refine .inr (.inr (.inr ⟨p, s0 _ _ hu, fun H1 b1 L1 => ?_⟩))
        refine ⟨(by show 1 ≤ sizeLine; decide), fun d nd => ?_⟩
        have sd : Same H1 (upd H1 d (.tup [.non])) := .upd nd
        refine ⟨_, rfl, rfl, _, rfl, ?_⟩
        refine iteT ?_
        exact ⟨_, rfl, k d _ (bs b1 sd) (L1.same sd) upd_same⟩
theorem two_at {a b z : Int} (h0 : 0 ≤ z) (h2 : z < 2) : ∃ c : Int, atI [V.int a, V.int b] z = some (.int c) := by
  have : z = 0 ∨ z = 1 := by omega
  rcases this with q | q <;> subst q
  · exact ⟨a, rfl⟩
  · exact ⟨b, rfl⟩
def sp_treadle : Sp := fun vs H Q _ => ∃ (n : Int) (m : Nat), vs = [.int n, .int (m : Int)] ∧ 1 ≤ m ∧ m ≤ 40 ∧ ∀ (z : Int) (H' : Hp), Same H H' → Q (.int z) H'
theorem ok_law_treadle (T : Txt K mg t) : FnOk P w K mg base CX0 1 t.f_law_treadle t.d_law_treadle ["number", "treadles"] sp_treadle := by
  refine T.law_treadle.F.ok sc_law_treadle (fun vs H Q E h => ?_) (fun cdv A outer s H vs Q E hr h => ?_)
  · obtain ⟨n, m, rfl, _⟩ := h
    rfl
  · obtain ⟨n, m, rfl, m1, m40, k⟩ := h
    have hsz : sizeLine = 16777216 := sizeLine_eq
    refine ⟨_, (pss_cons (ps_set (i := 2) sc_law_treadle.nd rfl (Or.inl rfl) (pe_op op_sub (pe_op op_mod (pv 0) (pe_op op_add (pv 1) pe_int)) pe_int))
      (pss_cons (ps_if (pt_cmpR op_eq (pv 2) (pe_op op_add (pv 1) pe_int) (nomark _))
        (pss_cons (ps_set (i := 3) sc_law_treadle.nd rfl (Or.inl rfl) (pe_op op_fdiv (pv 0) (pe_op op_add (pv 1) pe_int)))
        (pss_one (ps_ret (pe_ix (ix_listK (K := K)) (pe_lst (pa_cons (pe_op op_add (pv 1) (pe_op op_mod (pe_op op_fdiv (pv 3) pe_int) (pe_op op_pow pe_int pe_int))) (pa_cons (pe_op op_sub (pe_un un_neg pe_int) (pe_op op_mod (pe_op op_fdiv (pv 3) pe_int) (pe_op op_pow pe_int pe_int))) pa_nil))) (pe_op op_mod (pv 3) pe_int) (fun _ _ => rfl)))))
        pss_nil)
      (pss_one (ps_ret (pv 2))))), ?_⟩
    refine ⟨_, rfl, _, rfl, _, _, rfl, rfl, _, _, rfl, rfl, (by show (0 : Int) < (m : Int) + 3; omega), _, _, rfl, rfl, ?_⟩
    refine at_set (σ' := [some (.int n), some (.int (m : Int)), some (.int (n % ((m : Int) + 3) - 1)), none]) rfl ?_
    refine ⟨_, rfl, _, rfl, _, _, rfl, rfl, rfl, _, rfl, ?_⟩
    refine ite2D (fun _ => ?_) (fun _ => ⟨_, rfl, k _ _ (.refl _)⟩)
    refine ⟨_, rfl, _, rfl, _, _, rfl, rfl, _, _, rfl, rfl, ⟨by show (0 : Int) < (m : Int) + 3; omega, by show (m : Int) + 3 < 1073741824; omega⟩, ?_⟩
    refine at_set (σ' := [some (.int n), some (.int (m : Int)), some (.int (n % ((m : Int) + 3) - 1)), some (.int (n / ((m : Int) + 3)))]) rfl ?_
    refine ⟨_, rfl, _, rfl, _, _, rfl, rfl, ⟨by decide, by decide⟩, _, _, rfl, rfl, ⟨by decide, by decide, by decide⟩, _, _, rfl, rfl, (by show (0 : Int) < 10 ^ 60; decide), _, _, rfl, rfl, ?_⟩
    refine ⟨_, rfl, _, rfl, _, _, rfl, rfl, ⟨by decide, by decide⟩, _, _, rfl, rfl, ⟨by decide, by decide, by decide⟩, _, _, rfl, rfl, (by show (0 : Int) < 10 ^ 60; decide), _, _, rfl, rfl, ?_⟩
    refine ⟨(by show 2 ≤ sizeLine; decide), fun l nl => ?_⟩
    obtain ⟨r, er⟩ := two_at (a := (m : Int) + n / ((m : Int) + 3) / 2 % 10 ^ 60) (b := -1 - n / ((m : Int) + 3) / 2 % 10 ^ 60) (z := n / ((m : Int) + 3) % 2) (Int.emod_nonneg _ (by decide)) (Int.emod_lt_of_pos _ (by decide))
    exact ⟨_, rfl, _, _, rfl, rfl, (by show (0 : Int) < 2; decide), _, _, _, _, rfl, rfl, SqL.of upd_same, er, k _ _ (.upd nl)⟩
def Tp (xs : List V) : Prop := xs = [.non] ∨ (∃ z, xs = [.str z]) ∨ ∃ y z, xs = [.str y, .str z]
def sp_same (K : PySem.W.Frag) : Sp := fun vs H Q _ => ∃ (p q : Addr) (xs : List V), vs = [.ref p, .ref q] ∧ H p = some (.tup xs) ∧ H q = some (.tup xs) ∧ Tp xs ∧ Q (.bl true) H
theorem ok_law_same (T : Txt K mg t) : FnOk P w K mg base CX0 1 t.f_law_same t.d_law_same ["told", "due"] (sp_same K) := by
  refine T.law_same.F.ok sc_law_same (fun vs H Q E h => ?_) (fun cdv A outer s H vs Q E hr h => ?_)
  · obtain ⟨p, q, xs, rfl, _⟩ := h
    rfl
  · obtain ⟨p, q, xs, rfl, hp, hq, hx, k⟩ := h
    refine ⟨_, (pss_cons (ps_if (PW.pt (pw_or (pt_not (pt_val (pe_callB (call_isiK (K := K)) rfl T.b_isinstance bt_isinstance (pa_cons (pv 0) (pa_cons (pe_bltn (v := .ty "tuple") rfl T.b_tuple bt_tuple rfl) pa_nil))))) (pw_or1 (pt_cmpR op_ne (pe_callB (call_len_seqK (K := K)) rfl T.b_len bt_len (pa_cons (pv 0) pa_nil)) (pe_callB (call_len_seqK (K := K)) rfl T.b_len bt_len (pa_cons (pv 1) pa_nil)) (nomark _)))))
        (pss_one (ps_ret pe_bl))
        pss_nil)
      (pss_cons (ps_if (pt_cmpR op_isN (pe_ix (ix_tupK (K := K)) (pv 1) pe_int (fun _ _ => rfl)) pe_non (nomark _))
        (pss_one (ps_ret (pe_cmpR op_isN (pe_ix (ix_tupK (K := K)) (pv 0) pe_int (fun _ _ => rfl)) pe_non (nomark _))))
        pss_nil)
      (pss_one (ps_ret (pe_and (pe_callB (call_isiK (K := K)) rfl T.b_isinstance bt_isinstance (pa_cons (pe_ix (ix_tupK (K := K)) (pv 0) pe_int (fun _ _ => rfl)) (pa_cons (pe_bltn (v := .ty "str") rfl T.b_str bt_str rfl) pa_nil))) (pe_one (pe_cmpR (op_eqTS (K := K) (hr.units100)) (pv 0) (pv 1) (nomark _)))))))), ?_⟩
    refine ⟨_, rfl, _, _, true, .tup hp, .inl ⟨_, rfl, kit_same K _⟩, _, rfl, ?_⟩
    refine iteF ?_
    refine ⟨_, rfl, _, _, rfl, .inr (SqT.of hp), _, rfl, _, _, rfl, .inr (SqT.of hq), rfl, _, rfl, ?_⟩
    refine iteNS rfl ?_
    rcases hx with rfl | ⟨z, rfl⟩ | ⟨y, z, rfl⟩
    · refine ⟨_, rfl, _, _, _, _, rfl, rfl, SqT.of hq, rfl, rfl, _, rfl, ?_⟩
      refine iteDp rfl ?_
      exact ⟨_, rfl, _, _, _, _, rfl, rfl, SqT.of hp, rfl, rfl, k⟩
    · refine ⟨_, rfl, _, _, _, _, rfl, rfl, SqT.of hq, rfl, rfl, _, rfl, ?_⟩
      refine iteDn (fun q => by cases q) ?_
      refine ⟨_, rfl, _, _, _, _, rfl, rfl, SqT.of hp, rfl, _, _, true, .str _, .inl ⟨_, rfl, kit_same K _⟩, _, rfl, ?_⟩
      refine iteT ?_
      refine ⟨_, rfl, _, rfl, _, _, _, _, rfl, rfl, SqT.of hp, SqT.of hq, rfl, fun i x y g1 g2 => ?_, k⟩
      rw [g1] at g2
      cases g2
      match i, g1 with
      | 0, g1 => cases g1; exact .flat rfl
      | _ + 1, g1 => simp at g1
    · refine ⟨_, rfl, _, _, _, _, rfl, rfl, SqT.of hq, rfl, rfl, _, rfl, ?_⟩
      refine iteDn (fun q => by cases q) ?_
      refine ⟨_, rfl, _, _, _, _, rfl, rfl, SqT.of hp, rfl, _, _, true, .str _, .inl ⟨_, rfl, kit_same K _⟩, _, rfl, ?_⟩
      refine iteT ?_
      refine ⟨_, rfl, _, rfl, _, _, _, _, rfl, rfl, SqT.of hp, SqT.of hq, rfl, fun i x y g1 g2 => ?_, k⟩
      rw [g1] at g2
      cases g2
      match i, g1 with
      | 0, g1 => cases g1; exact .flat rfl
      | 1, g1 => cases g1; exact .flat rfl
      | _ + 2, g1 => simp at g1
theorem kit_ib (K : PySem.W.Frag) : PySem.W.kitOne K (.type "int") (.type "bool") = some false := rfl
theorem kit_sb (K : PySem.W.Frag) : PySem.W.kitOne K (.type "str") (.type "bool") = some false := rfl
def NbV (x : V) : Prop := (∃ i, x = .int i) ∨ ∃ z, x = .str z
def sp_list : Sp := fun vs H Q _ => ∃ (u v hl : Addr) (xs hv : List V), vs = [.ref u, .ref v, .ref hl] ∧ H u = some (.lst xs) ∧ H v = some (.lst xs) ∧ H hl = some (.lst hv) ∧ (∀ x ∈ xs, NbV x) ∧ xs.length ≤ 1000 ∧ hv.length ≤ 1000 ∧
  ∀ (q : Addr) (H' : Hp), ButL [hl] H H' → H q = none → H' q = some (.tup [.ref u, .ref v]) → H' hl = some (.lst (hv ++ [.ref q])) → Q (.bl true) H'
theorem nb_flat {xs : List V} (h : ∀ x ∈ xs, NbV x) : xs.all flatV = true := List.all_eq_true.mpr fun x hx => by
  rcases h x hx with ⟨i, rfl⟩ | ⟨z, rfl⟩ <;> rfl
theorem ok_law_list (T : Txt K mg t) : FnOk P w K mg base CX0 1 t.f_law_list t.d_law_list ["told", "due", "held"] sp_list := by
  refine T.law_list.F.ok sc_law_list (fun vs H Q E h => ?_) (fun cdv A outer s H vs Q E hr h => ?_)
  · obtain ⟨u, v, hl, xs, hv, rfl, _⟩ := h
    rfl
  · obtain ⟨u, v, hl, xs, hv, rfl, hu, hv', hh, hn, l1, l2, k⟩ := h
    have hsz : sizeLine = 16777216 := sizeLine_eq
    refine ⟨_, (pss_cons (ps_if (PW.pt (pw_or (pt_not (pt_val (pe_callB (call_isiK (K := K)) rfl T.b_isinstance bt_isinstance (pa_cons (pv 0) (pa_cons (pe_bltn (v := .ty "list") rfl T.b_list bt_list rfl) pa_nil))))) (pw_or1 (pt_cmpR (op_neLK (K := K) (hr.units0)) (pv 0) (pv 1) (nomark _)))))
        (pss_one (ps_ret pe_bl))
        pss_nil)
      (pss_cons (ps_for PassesOwn.never rfl (pi_listK (K := K) (pv 0)) (pg_name (i := 3) sc_law_list.nd rfl (Or.inl rfl))
        (pss_one (ps_if (pt_val (pe_callB (call_isiK (K := K)) rfl T.b_isinstance bt_isinstance (pa_cons (pv 3) (pa_cons (pe_bltn (v := .ty "bool") rfl T.b_bool bt_bool rfl) pa_nil))))
          (pss_one (ps_ret pe_bl))
          pss_nil)))
      (pss_cons (ps_expr (pe_bmK (K := K) PySem.F.plainAttrs_list PySem.F.slot_list_append PySem.F.type_list_append mt_append (pv 2) (pa_cons (pe_tup (pa_cons (pv 0) (pa_cons (pv 1) pa_nil))) pa_nil)))
      (pss_one (ps_ret pe_bl))))), ?_⟩
    refine ⟨_, rfl, _, _, true, .lst hu, .inl ⟨_, rfl, kit_same K _⟩, _, rfl, ?_⟩
    refine iteF ?_
    refine ⟨_, rfl, _, rfl, _, _, _, _, rfl, rfl, SqL.of hu, SqL.of hv', nb_flat hn, nb_flat hn, _, rfl, ?_⟩
    rw [eqL_refl (nb_flat hn)]
    refine iteF ?_
    refine ⟨_, rfl, _, rfl, ⟨_, SqL.of hu⟩, for_list (K := K) (a := u) (xs := xs) (fun i σ H2 => ∃ w', σ = [some (.ref u), some (.ref v), some (.ref hl), w'] ∧ H2 = H) ⟨none, rfl, rfl⟩ (fun i σ H2 _ ⟨_, _, q⟩ => q ▸ SqL.of hu) ?_ ?_⟩
    · rintro i x σ H2 hx ⟨w', rfl, rfl⟩
      rcases hn x (List.mem_of_getElem? hx) with ⟨j, rfl⟩ | ⟨z, rfl⟩
      · refine ⟨_, rfl, _, _, false, .int _, .inl ⟨_, rfl, kit_ib K⟩, _, rfl, ?_⟩
        exact iteF ⟨_, rfl, rfl⟩
      · refine ⟨_, rfl, _, _, false, .str _, .inl ⟨_, rfl, kit_sb K⟩, _, rfl, ?_⟩
        exact iteF ⟨_, rfl, rfl⟩
    · rintro σ H2 ⟨w', rfl, rfl⟩
      refine ⟨_, rfl, .inl ⟨rfl, _, SqL.of hh⟩, _, rfl, _, rfl, (by show 2 ≤ sizeLine; decide), fun q nq => ?_⟩
      have s1 : Same H2 (upd H2 q (.tup [.ref u, .ref v])) := .upd nq
      refine ⟨_, _, _, rfl, rfl, s1 _ _ hh, (by omega), ?_⟩
      have nqh : q ≠ hl := fun z => by rw [z, hh] at nq; cases nq
      exact k q _ (fun y o ny h => by rw [upd_ne (fun z => ny (by simp [z]))]; exact s1 _ _ h) nq (by rw [upd_ne nqh]; exact upd_same) upd_same
theorem Wv.hold {HB H H2 H3 : Hp} {f : Fx} {s : Sd} {n : Nat} {Y : List Addr} {u v q : Addr} {xs : List V} (W : Wv t HB f s H n Y) (q2 : Same H H2) (nu : H u = none) (nv : H v = none) (hu : H2 u = some (.lst xs)) (hv : H2 v = some (.lst xs)) (hf : xs.all flatV = true) (b : ButL [f.hl] H2 H3) (nq : H2 q = none) (hq : H3 q = some (.tup [.ref u, .ref v])) (hl : H3 f.hl = some (.lst ((s.hd.map fun x => V.ref x.q) ++ [.ref q]))) : Wv t HB f { s with hd := s.hd ++ [⟨q, u, v, xs⟩] } H3 (n + 1) Y ∧ Nx f s H { s with hd := s.hd ++ [⟨q, u, v, xs⟩] } H3 := by
  have ne : ∀ {y : Addr}, H y = none → y ∉ [f.hl] := fun {y} h => by
    have : y ≠ f.hl := fun z => by rw [z, W.hhl] at h; cases h
    simp [this]
  refine ⟨(W.same q2).held (x := ⟨q, u, v, xs⟩) b hl fun S => ⟨off_some hq (W.newA (q2.free nq)), off_some (b _ _ (ne nu) hu) (W.newA nu), off_some (b _ _ (ne nv) hv) (W.newA nv), hf⟩, fun y o ny h => b _ _ (fun z => ny ?_) (q2 _ _ h), fun y hy => .inl hy⟩
  unfold Fx.mu
  simp only [List.mem_cons, List.not_mem_nil, or_false] at z ⊢
  simp [z]
theorem rise_of {l : List Int} (h : l.Pairwise (· ≤ ·)) (n : l.Nodup) : l.Pairwise (· < ·) := by
  have := h.and n
  exact this.imp fun ⟨a, b⟩ => by omega
structure Stg (HB : Hp) (sg lt ly : Addr) (rs : List Addr) (f : Fx) : Prop where
  sg : HB sg = some (.tup [.ref lt, .ref ly])
  lt : HB lt = some (.lst (vI f.th))
  ly : NL HB ly rs f.tss
  n1 : 1 ≤ f.tss.length
  n40 : f.tss.length ≤ 40
  t40 : f.th.length ≤ 40
  ti : ∀ ks ∈ f.tss, Rs ks ∧ ks.length ≤ 40
def sp_answered (t : Adr) : Sp := fun vs H Q _ => ∃ (HB : Hp) (f : Fx) (s : Sd) (n : Nat) (Y : List Addr) (sg lt ly : Addr) (rs : List Addr) (way : Int), vs = [.ref f.m, .ref sg, .ref f.st, .int way] ∧ Wv t HB f s H n Y ∧ Stg HB sg lt ly rs f ∧ n ≤ 800 ∧
  ∀ (s' : Sd) (H' : Hp), Wv t HB f s' H' (n + 1) Y → Nx f s H s' H' → Q (.bl true) H'
theorem ok_law_answered (T : Txt K mg t) : FnOk P w K mg base CX0 3 t.f_law_answered t.d_law_answered ["made", "setting", "state", "way"] (sp_answered t) := by
  have G_law_list : FnOk P w K mg base CX0 1 t.f_law_list t.d_law_list _ _ := ok_law_list T
  have G_law_shed : FnOk P w K mg base CX0 1 t.f_law_shed t.d_law_shed _ _ := ok_law_shed T
  have G_law_lifted : FnOk P w K mg base CX0 1 t.f_law_lifted t.d_law_lifted _ _ := ok_law_lifted T
  have G_Loom_deeds_done : FnOk P w K mg base CX0 1 t.f_Loom_deeds_done t.d_Loom_deeds_done _ _ := ok_Loom_deeds_done T
  have G_Loom_treadles_down : FnOk P w K mg base CX0 1 t.f_Loom_treadles_down t.d_Loom_treadles_down _ _ := ok_Loom_treadles_down T
  have G_Loom_shed : FnOk P w K mg base CX0 2 t.f_Loom_shed t.d_Loom_shed _ _ := ok_Loom_shed T
  have G_Loom_cloth : FnOk P w K mg base CX0 2 t.f_Loom_cloth t.d_Loom_cloth _ _ := ok_Loom_cloth T
  have G_Loom_colours : FnOk P w K mg base CX0 1 t.f_Loom_colours t.d_Loom_colours _ _ := ok_Loom_colours T
  refine T.law_answered.F.ok sc_law_answered (fun vs H Q E h => ?_) (fun cdv A outer s H vs Q E hr h => ?_)
  · obtain ⟨HB, f, sd, n, Y, sg, lt, ly, rs, way, rfl, _⟩ := h
    rfl
  · obtain ⟨HB, f, ⟨dn, ps, pk, bs, dw, kp, krs, es, hd⟩, n, Y, sg, lt, ly, rs, way, rfl, W, G, nl, k⟩ := h
    have hsz : sizeLine = 16777216 := sizeLine_eq
    refine ⟨_, (pss_cons (ps_if (pt_cmpR op_eq (pv 3) pe_int (nomark _))
        (pss_cons (ps_set (i := 4) sc_law_answered.nd rfl (Or.inl rfl) (pe_meth0 (pv 0) T.o_Loom.c T.m_Loom_deeds_done.m (G_Loom_deeds_done.mono (by decide)) hr T.m_Loom_deeds_done.b .nil pass0))
        (pss_one (ps_ret (pe_and (pe_callB (call_isiK (K := K)) rfl T.b_isinstance bt_isinstance (pa_cons (pv 4) (pa_cons (pe_bltn (v := .ty "int") rfl T.b_int bt_int rfl) pa_nil))) (pe_and (pe_not (pe_callB (call_isiK (K := K)) rfl T.b_isinstance bt_isinstance (pa_cons (pv 4) (pa_cons (pe_bltn (v := .ty "bool") rfl T.b_bool bt_bool rfl) pa_nil)))) (pe_one (pe_cmpR op_eq (pv 4) (pe_callB (call_len_seqK (K := K)) rfl T.b_len bt_len (pa_cons (pe_ix (ix_listK (K := K)) (pv 2) pe_int (fun _ _ => rfl)) pa_nil)) (nomark _))))))))
        pss_nil)
      (pss_cons (ps_if (pt_cmpR op_eq (pv 3) pe_int (nomark _))
        (pss_cons (ps_setC (i := 5) (CompOk.mk (caps := [2]) (Nc := ["k", "state"]) rfl (by decide +kernel) (by decide +kernel) (comp_fr (sc0 := defScope s_law_answered) rfl (by decide +kernel)) rfl rfl rfl (by decide +kernel) (fun k j h => match k, h with | 0, h => by obtain rfl := Option.some.inj h; exact ⟨_, rfl, rfl, rfl⟩ | _ + 1, h => by simp at h)) rfl sc_law_answered.nd rfl rfl (pi_range1 rfl T.b_range (pa_cons (pe_callB (call_len_seqK (K := K)) rfl T.b_len bt_len (pa_cons (pe_ix (ix_listK (K := K)) (pv 2) pe_int (fun _ _ => rfl)) pa_nil)) pa_nil)) (fun _ _ _ _ _ => .one (pt_val (pe_ix (ix_listK (K := K)) (pe_ix (ix_listK (K := K)) (pv 1) pe_int (fun _ _ => rfl)) (pv 0) (fun _ _ => rfl)))) (fun _ _ _ _ _ => (pv 0)) rfl)
        (pss_one (ps_ret (pe_call (G_law_list.mono (by decide)) hr rfl T.law_list.m T.law_list.F.kp T.law_list.b .nil pass0 (pa_cons (pe_meth0 (pv 0) T.o_Loom.c T.m_Loom_treadles_down.m (G_Loom_treadles_down.mono (by decide)) hr T.m_Loom_treadles_down.b .nil pass0) (pa_cons (pv 5) (pa_cons (pe_ix (ix_listK (K := K)) (pv 2) pe_int (fun _ _ => rfl)) pa_nil)))))))
        pss_nil)
      (pss_cons (ps_if (pt_cmpR op_eq (pv 3) pe_int (nomark _))
        (pss_cons (ps_set (i := 4) sc_law_answered.nd rfl (Or.inl rfl) (pe_meth0 (pv 0) T.o_Loom.c T.m_Loom_shed.m (G_Loom_shed.mono (by decide)) hr T.m_Loom_shed.b .nil pass0))
        (pss_one (ps_ret (pe_and (pe_callB (call_isiK (K := K)) rfl T.b_isinstance bt_isinstance (pa_cons (pv 4) (pa_cons (pe_bltn (v := .ty "str") rfl T.b_str bt_str rfl) pa_nil))) (pe_one (pe_cmpR op_eq (pv 4) (pe_call (G_law_shed.mono (by decide)) hr rfl T.law_shed.m T.law_shed.F.kp T.law_shed.b .nil pass0 (pa_cons (pe_ix (ix_tupK (K := K)) (pv 1) pe_int (fun _ _ => rfl)) (pa_cons (pe_call (G_law_lifted.mono (by decide)) hr rfl T.law_lifted.m T.law_lifted.F.kp T.law_lifted.b .nil pass0 (pa_cons (pe_ix (ix_tupK (K := K)) (pv 1) pe_int (fun _ _ => rfl)) (pa_cons (pe_ix (ix_listK (K := K)) (pv 2) pe_int (fun _ _ => rfl)) pa_nil))) pa_nil))) (nomark _)))))))
        pss_nil)
      (pss_cons (ps_if (pt_cmpR op_eq (pv 3) pe_int (nomark _))
        (pss_one (ps_ret (pe_call (G_law_list.mono (by decide)) hr rfl T.law_list.m T.law_list.F.kp T.law_list.b .nil pass0 (pa_cons (pe_meth0 (pv 0) T.o_Loom.c T.m_Loom_cloth.m (G_Loom_cloth.mono (by decide)) hr T.m_Loom_cloth.b .nil pass0) (pa_cons (pe_comp (CompOk.mk (caps := []) (Nc := ["one"]) rfl (by decide +kernel) (by decide +kernel) (comp_fr (sc0 := defScope s_law_answered) rfl (by decide +kernel)) rfl rfl rfl (by decide +kernel) (fun _ _ h => by simp at h)) rfl (pi_listK (K := K) (pe_ix (ix_listK (K := K)) (pv 2) pe_int (fun _ _ => rfl))) (fun _ _ _ _ _ => .nil) (fun _ _ _ _ _ => (pe_ix (ix_tupK (K := K)) (pv 0) pe_int (fun _ _ => rfl)))) (pa_cons (pe_ix (ix_listK (K := K)) (pv 2) pe_int (fun _ _ => rfl)) pa_nil))))))
        pss_nil)
      (pss_one (ps_ret (pe_call (G_law_list.mono (by decide)) hr rfl T.law_list.m T.law_list.F.kp T.law_list.b .nil pass0 (pa_cons (pe_meth0 (pv 0) T.o_Loom.c T.m_Loom_colours.m (G_Loom_colours.mono (by decide)) hr T.m_Loom_colours.b .nil pass0) (pa_cons (pe_comp (CompOk.mk (caps := []) (Nc := ["one"]) rfl (by decide +kernel) (by decide +kernel) (comp_fr (sc0 := defScope s_law_answered) rfl (by decide +kernel)) rfl rfl rfl (by decide +kernel) (fun _ _ h => by simp at h)) rfl (pi_listK (K := K) (pe_ix (ix_listK (K := K)) (pv 2) pe_int (fun _ _ => rfl))) (fun _ _ _ _ _ => .nil) (fun _ _ _ _ _ => (pe_ix (ix_tupK (K := K)) (pv 0) pe_int (fun _ _ => rfl)))) (pa_cons (pe_ix (ix_listK (K := K)) (pv 2) pe_int (fun _ _ => rfl)) pa_nil)))))))))), ?_⟩
    have M := W.LM.M
    have R : Rel dn bs f.tss.length := W.R
    have dl := R.len
    have bl := R.l
    have n40 := G.n40
    have n1 := G.n1
    have t40 := G.t40
    have kl : krs.length = pk.length := W.Kr.l
    have pl : ps.length = pk.length := W.P.l
    have p40 : pk.length ≤ 40 := W.p40
    have hnl : hd.length ≤ n := W.hn
    have el : es.length ≤ n := W.en
    have R0 : ∀ ks ∈ f.tss, Rs ks := fun ks h => (G.ti ks h).1
    have base : ∀ {H' : Hp}, Same H H' → Same HB H' := fun q => (W.base.trans off_same).trans q
    refine ⟨_, rfl, rfl, _, rfl, ?_⟩
    by_cases w0 : way = 0
    · refine iteDp (by rw [w0]) ?_
      refine ⟨_, rfl, _, _, _, rfl, M.o, rfl, f.m, f.dx, f.a, f.b, f.c, f.e, f.g, f.qs, f.th, f.tss, dn, pvs ps, uvs es, rfl, M, ?_⟩
      rw [uvs_len]
      refine ⟨_, rfl, _, _, true, .int _, .inl ⟨_, rfl, kit_same K _⟩, _, rfl, ?_⟩
      refine iteT ?_
      refine ⟨_, rfl, _, _, false, .int _, .inl ⟨_, rfl, kit_ib K⟩, _, rfl, _, rfl, ?_⟩
      refine iteT ?_
      refine ⟨_, rfl, _, rfl, _, _, _, _, rfl, rfl, SqL.of W.st, rfl, _, _, rfl, .inl (SqL.of W.hhs), rfl, ?_⟩
      rw [hvs_len, decide_eq_true rfl]
      exact k _ _ (W.mono (Nat.le_succ _)) (.same (.refl _))
    refine iteDn (fun q => w0 (V.int.inj q)) ?_
    refine ⟨_, rfl, rfl, _, rfl, ?_⟩
    by_cases w1 : way = 1
    · refine iteDp (by rw [w1]) ?_
      refine ⟨_, rfl, _, _, _, _, rfl, rfl, SqL.of W.st, rfl, _, _, rfl, .inl (SqL.of W.hdw), _, rfl, (by omega), (by rw [vB_len]; show (bs.length : Int) < _; omega), ?_⟩
      rw [Int.toNat_natCast, vB_len]
      refine comp_range (lo := 0) (n := bs.length) (fun i ys H3 => H3 = H ∧ ∃ zs : List Int, ys = vI zs ∧ zs.length ≤ i ∧ zs.Pairwise (· < ·) ∧ ∀ z, z ∈ zs ↔ ∃ k : Nat, k < i ∧ z = (k : Int) ∧ bs[k]? = some true) ⟨rfl, [], rfl, Nat.le_refl _, .nil, fun z => ?_⟩ ?_ ?_ ?_ ?_
      · constructor
        · intro q; cases q
        · rintro ⟨k, hk, _⟩; omega
      · rintro i ys H3 hi ⟨rfl, zs, rfl, hz, _⟩
        rw [vI_len]; exact hz
      · omega
      · rintro i ys H3 hi ⟨rfl, zs, rfl, hz, hp, hm⟩
        have e1 : atI (vB bs) (0 + (i : Int)) = some (.bl bs[i]) := by rw [Int.zero_add]; exact vB_at hi
        refine ⟨_, rfl, _, _, _, _, rfl, rfl, SqL.of W.st, rfl, _, rfl, _, _, _, _, rfl, rfl, SqL.of W.hdw, e1, _, rfl, ?_⟩
        cases hb : bs[i] with
        | true =>
          refine iteT ?_
          refine ⟨_, rfl, CN.of hi ⟨rfl, zs ++ [_], vI_app .., by rw [List.length_append, List.length_singleton]; omega, rise_snoc hp (fun y hy => ?_), fun z => ?_⟩⟩
          · obtain ⟨k, hk, e, _⟩ := (hm y).mp hy
            omega
          · rw [List.mem_append, hm z, List.mem_singleton]
            constructor
            · rintro (⟨k, hk, e, q⟩ | q)
              · exact ⟨k, by omega, e, q⟩
              · exact ⟨i, by omega, by omega, by rw [List.getElem?_eq_getElem hi, hb]⟩
            · rintro ⟨k, hk, e, q⟩
              by_cases c : k = i
              · exact .inr (by omega)
              · exact .inl ⟨k, by omega, e, q⟩
        | false =>
          refine iteF (CN.of hi ⟨rfl, zs, rfl, by omega, hp, fun z => ?_⟩)
          rw [hm z]
          constructor
          · rintro ⟨k, hk, e, q⟩
            exact ⟨k, by omega, e, q⟩
          · rintro ⟨k, hk, e, q⟩
            by_cases c : k = i
            · rw [c, List.getElem?_eq_getElem hi, hb] at q; cases q
            · exact ⟨k, by omega, e, q⟩
      rintro ys H3 v ⟨rfl, zs, rfl, hz, hp, hm⟩ nv
      have s1 : Same H3 (upd H3 v (.lst (vI zs))) := .upd nv
      have gv : (upd H3 v (.lst (vI zs))) v = some (.lst (vI zs)) := upd_same
      generalize upd H3 v (.lst (vI zs)) = H4 at s1 gv ⊢
      have W4 := W.same s1
      refine ⟨_, rfl, _, _, _, rfl, W4.LM.M.o, rfl, f.m, f.dx, f.a, f.b, f.c, f.e, f.g, f.qs, f.th, f.tss, dn, pvs ps, uvs es, rfl, W4.LM.M, by omega, fun u ks H5 s5 nu hu pm pr => ?_⟩
      have ek : ks = zs := rise_ext (rise_of pr (pm.nodup_iff.mpr R.nd)) hp fun z => by
        rw [pm.mem_iff, hm z]
        constructor
        · intro q
          have := R.b z q
          exact ⟨z.toNat, by omega, by omega, (R.m _).mpr (by rw [Int.toNat_of_nonneg this.1]; exact q)⟩
        · rintro ⟨k, hk, e, q⟩
          rw [e]; exact (R.m k).mp q
      subst ek
      have u5 := s1.trans s5
      have W5 := W.same u5
      refine ⟨_, rfl, _, rfl, _, _, _, _, rfl, rfl, SqL.of W5.st, rfl, u, v, f.hl, vI ks, _, rfl, hu, s5 _ _ gv, W5.hhl, fun x hx => ?_, by rw [vI_len]; omega, by rw [List.length_map]; show hd.length ≤ 1000; omega, fun q H6 b6 nq hq hh => ?_⟩
      · unfold vI at hx
        obtain ⟨z, _, rfl⟩ := List.mem_map.mp hx
        exact .inl ⟨z, rfl⟩
      obtain ⟨W6, X6⟩ := W.hold u5 (s1.free nu) nv hu (s5 _ _ gv) (vI_flat _) b6 nq hq hh
      exact k _ _ W6 X6
    refine iteDn (fun q => w1 (V.int.inj q)) ?_
    refine ⟨_, rfl, rfl, _, rfl, ?_⟩
    by_cases w2 : way = 2
    · refine iteDp (by rw [w2]) ?_
      refine ⟨_, rfl, _, _, _, rfl, M.o, rfl, f.m, f.dx, f.a, f.b, f.c, f.e, f.g, f.qs, f.th, f.tss, dn, pvs ps, uvs es, rfl, M, R0, R.b, by omega, t40, fun H1 s1 => ?_⟩
      refine ⟨_, rfl, _, _, true, .str _, .inl ⟨_, rfl, kit_same K _⟩, _, rfl, ?_⟩
      refine iteT ?_
      have W1 := W.same s1
      have b1 := base s1
      refine ⟨_, rfl, _, rfl, _, _, _, _, rfl, rfl, SqT.of (b1 _ _ G.sg), rfl, _, rfl, _, _, _, _, rfl, rfl, SqT.of (b1 _ _ G.sg), rfl, _, rfl, _, _, _, _, rfl, rfl, SqL.of W1.st, rfl, ly, dw, rs, f.tss, bs, rfl, G.ly.same b1, W1.hdw, bl, n40, G.ti, fun l ks H2 s2 nl hl hm hp => ?_⟩
      refine ⟨lt, l, f.th, ks, rfl, s2 _ _ (b1 _ _ G.lt), hl, t40, fun H3 s3 => ?_⟩
      rw [shd_mem (k1 := ks) (k2 := lifts f.tss dn) fun z => by rw [hm z]; exact R.mk_iff z]
      refine ⟨rfl, ?_⟩
      rw [decide_eq_true rfl]
      have u3 := (s1.trans s2).trans s3
      exact k _ _ ((W.same u3).mono (Nat.le_succ _)) (.same u3)
    refine iteDn (fun q => w2 (V.int.inj q)) ?_
    refine ⟨_, rfl, rfl, _, rfl, ?_⟩
    have KT : ∀ {H' : Hp} {j : Nat} {xv : V}, Same H H' → (krs.map V.ref)[j]? = some xv → ∃ r ks z, xv = .ref r ∧ pk[j]? = some (ks, z) ∧ H' r = some (.tup [.str (tx (shd f.th ks)), .str z]) := fun {H' j xv} q hx => by
      rw [List.getElem?_map] at hx
      obtain ⟨r, hr', rfl⟩ := Option.map_eq_some_iff.mp hx
      have hj : j < pk.length := by rw [← kl]; exact (List.getElem?_eq_some_iff.mp hr').1
      exact ⟨r, pk[j].1, pk[j].2, rfl, List.getElem?_eq_getElem hj, q _ _ (off_same _ _ (W.Kr.r j r pk[j].1 pk[j].2 hr' (List.getElem?_eq_getElem hj)))⟩
    by_cases w3 : way = 3
    · refine iteDp (by rw [w3]) ?_
      refine ⟨_, rfl, _, _, _, rfl, M.o, rfl, f.m, f.dx, f.a, f.b, f.c, f.e, f.g, f.qs, f.th, f.tss, dn, uvs es, ps, pk, rfl, M, W.P.same off_same, by omega, t40, fun u H1 s1 nu hu => ?_⟩
      have W1 := W.same s1
      refine ⟨_, rfl, _, _, _, _, rfl, rfl, SqL.of W1.st, rfl, _, rfl, ⟨_, SqL.of W1.hkp⟩, comp_list (K := K) (a := kp) (xs := krs.map V.ref) (fun i ys H2 => H2 = H1 ∧ ys = (pk.take i).map fun q => V.str (tx (shd f.th q.1))) ⟨rfl, rfl⟩ ?_ ?_ ?_ ?_⟩
      · rintro i ys H2 hi ⟨rfl, rfl⟩
        exact ⟨SqL.of W1.hkp, by rw [List.length_map, List.length_take]; omega⟩
      · rw [List.length_map]; omega
      · rintro i xv ys H2 hi hx ⟨rfl, rfl⟩
        obtain ⟨r, ks, z, rfl, hp1, hr'⟩ := KT s1 hx
        refine CTurn.no ?_
        refine ⟨_, rfl, _, _, _, _, rfl, rfl, SqT.of hr', rfl, CN.of hi ⟨rfl, ?_⟩⟩
        rw [List.take_add_one, hp1, List.map_append]
        rfl
      rintro ys H2 v ⟨rfl, rfl⟩ nv
      rw [List.length_map, kl, List.take_length]
      have s3 : Same H2 (upd H2 v (.lst (pk.map fun q => V.str (tx (shd f.th q.1))))) := .upd nv
      have gv : (upd H2 v (.lst (pk.map fun q => V.str (tx (shd f.th q.1))))) v = some (.lst (pk.map fun q => V.str (tx (shd f.th q.1)))) := upd_same
      generalize upd H2 v (.lst (pk.map fun q => V.str (tx (shd f.th q.1)))) = H3 at s3 gv ⊢
      have u3 := s1.trans s3
      have W3 := W.same u3
      have nb : ∀ x ∈ pk.map fun q => V.str (tx (shd f.th q.1)), NbV x := fun x hx => by
        obtain ⟨q, _, rfl⟩ := List.mem_map.mp hx
        exact .inr ⟨_, rfl⟩
      refine ⟨_, rfl, _, _, _, _, rfl, rfl, SqL.of W3.st, rfl, u, v, f.hl, _, _, rfl, s3 _ _ hu, gv, W3.hhl, nb, by rw [List.length_map]; omega, by rw [List.length_map]; show hd.length ≤ 1000; omega, fun q H6 b6 nq hq hh => ?_⟩
      obtain ⟨W6, X6⟩ := W.hold u3 nu (s1.free nv) (s3 _ _ hu) gv (nb_flat nb) b6 nq hq hh
      exact k _ _ W6 X6
    · refine iteDn (fun q => w3 (V.int.inj q)) ?_
      refine ⟨_, rfl, _, _, _, rfl, M.o, rfl, f.m, f.dx, f.a, f.b, f.c, f.e, f.g, f.qs, f.th, f.tss, dn, uvs es, ps, pk, rfl, M, W.P.same off_same, by omega, fun u H1 s1 nu hu => ?_⟩
      have W1 := W.same s1
      refine ⟨_, rfl, _, _, _, _, rfl, rfl, SqL.of W1.st, rfl, _, rfl, ⟨_, SqL.of W1.hkp⟩, comp_list (K := K) (a := kp) (xs := krs.map V.ref) (fun i ys H2 => H2 = H1 ∧ ys = (pk.take i).map fun q => V.str q.2) ⟨rfl, rfl⟩ ?_ ?_ ?_ ?_⟩
      · rintro i ys H2 hi ⟨rfl, rfl⟩
        exact ⟨SqL.of W1.hkp, by rw [List.length_map, List.length_take]; omega⟩
      · rw [List.length_map]; omega
      · rintro i xv ys H2 hi hx ⟨rfl, rfl⟩
        obtain ⟨r, ks, z, rfl, hp1, hr'⟩ := KT s1 hx
        refine CTurn.no ?_
        refine ⟨_, rfl, _, _, _, _, rfl, rfl, SqT.of hr', rfl, CN.of hi ⟨rfl, ?_⟩⟩
        rw [List.take_add_one, hp1, List.map_append]
        rfl
      rintro ys H2 v ⟨rfl, rfl⟩ nv
      rw [List.length_map, kl, List.take_length]
      have s3 : Same H2 (upd H2 v (.lst (pk.map fun q => V.str q.2))) := .upd nv
      have gv : (upd H2 v (.lst (pk.map fun q => V.str q.2))) v = some (.lst (pk.map fun q => V.str q.2)) := upd_same
      generalize upd H2 v (.lst (pk.map fun q => V.str q.2)) = H3 at s3 gv ⊢
      have u3 := s1.trans s3
      have W3 := W.same u3
      have nb : ∀ x ∈ pk.map fun q => V.str q.2, NbV x := fun x hx => by
        obtain ⟨q, _, rfl⟩ := List.mem_map.mp hx
        exact .inr ⟨_, rfl⟩
      refine ⟨_, rfl, _, _, _, _, rfl, rfl, SqL.of W3.st, rfl, u, v, f.hl, _, _, rfl, s3 _ _ hu, gv, W3.hhl, nb, by rw [List.length_map]; omega, by rw [List.length_map]; show hd.length ≤ 1000; omega, fun q H6 b6 nq hq hh => ?_⟩
      obtain ⟨W6, X6⟩ := W.hold u3 nu (s1.free nv) (s3 _ _ hu) gv (nb_flat nb) b6 nq hq hh
      exact k _ _ W6 X6
section
variable {HB H H4 : Hp} {f : Fx} {s : Sd} {n : Nat} {Y : List Addr}
theorem Wv.fin (W : Wv t HB f s H n Y) {d : Dd} {u h0 w0 k0 : Addr} {dn' : List Int} {ps' : List (Addr × Addr)} {pk' : List (List Int × Str)} {bs' : List Bool} {krs' : List Addr}
    (b : ButL [f.c, f.e, f.g, f.hs, s.dw, s.kp] H H4) (Vd : Svd H H4 f.hs w0 k0 h0 s.bs s.krs (hvs s.es)) (hu : H4 u = some (.tup d.vs))
    (hc : H4 f.c = some (.lst (vI dn'))) (he : H4 f.e = some (.lst (pvs ps'))) (hg : H4 f.g = some (.lst (uvs s.es ++ [.ref u]))) (hdw : H4 s.dw = some (.lst (vB bs'))) (hkp : H4 s.kp = some (.lst (krs'.map V.ref)))
    (fr : ∀ F' : Hp, Same (off (f.mu s.dw s.kp s.es ++ Y) H) F' → (∀ y o, H4 y = some o → H y = none → y ≠ w0 → y ≠ k0 → F' y = some o) → Pk F' ps' pk' ∧ KT F' f.th krs' pk' ∧ ∀ p sl ks z, d = .unthrow p sl ks z → F' p = some (.tup [.ref sl, .str z]) ∧ F' sl = some (.lst (vI ks)))
    (stp : Stp s.bs s.pk d bs' pk') (R : Rel dn' bs' f.tss.length) (p40 : pk'.length ≤ 40) :
    ∃ s', Wv t HB f s' H4 (n + 1) Y ∧ Nx f s H s' H4 := by
  have key : ∀ y o, H4 y = some o → H y = none → y ≠ w0 → y ≠ k0 → off (f.mu s.dw s.kp (⟨d, u, h0, w0, k0, s.bs, s.krs, s.pk⟩ :: s.es) ++ Y) H4 y = some o := fun y o q ny yw yk => by
    have nm := W.newA ny
    refine off_some q fun hm => ?_
    rcases List.mem_append.mp hm with hm | hm
    · have nm' : y ∉ f.mu s.dw s.kp s.es := fun z => nm (List.mem_append_left _ z)
      unfold Fx.mu at nm'
      simp only [List.mem_cons, not_or] at nm'
      obtain ⟨o1, o2, o3, o4, o5, o6, o7, o8, o9⟩ := nm'
      have mu : f.mu s.dw s.kp (⟨d, u, h0, w0, k0, s.bs, s.krs, s.pk⟩ :: s.es) = f.c :: f.e :: f.g :: f.st :: f.hs :: f.hl :: s.dw :: s.kp :: w0 :: k0 :: s.es.flatMap fun x => [x.w, x.k] := rfl
      rw [mu] at hm
      simp only [List.mem_cons] at hm
      rcases hm with z | z | z | z | z | z | z | z | z | z | z
      · exact o1 z
      · exact o2 z
      · exact o3 z
      · exact o4 z
      · exact o5 z
      · exact o6 z
      · exact o7 z
      · exact o8 z
      · exact yw z
      · exact yk z
      · exact o9 z
    · exact nm (List.mem_append_right _ hm)
  obtain ⟨W', sub⟩ := W.push (d := d) (u := u) b Vd.nw Vd.nk Vd.wk Vd.hw Vd.hk Vd.hh hu hc he hg hdw hkp Vd.hs (fun S => fr _ S key) stp R p40
  refine ⟨_, W', fun y o ny q => b y o (fun z => ny ?_) q, sub⟩
  unfold Fx.mu
  simp only [List.mem_cons, List.not_mem_nil, or_false] at z ⊢
  rcases z with z | z | z | z | z | z <;> simp [z]
theorem Wv.LMb (W : Wv t HB f s H n Y) (b : ButL [f.st, f.hs, s.dw, s.kp] H H4) : Mine.LM t H4 f.m f.dx f.a f.b f.c f.e f.g f.qs f.th f.tss s.dn (pvs s.ps) (uvs s.es) := by
  have N := W.nes
  have k : ∀ {y : Addr} {o : HO}, off (f.mu s.dw s.kp s.es ++ Y) H y = some o → H4 y = some o := fun {y o} h => by
    have ny : y ∉ f.mu s.dw s.kp s.es := fun z => off_not h (List.mem_append_left _ z)
    unfold Fx.mu at ny
    simp only [List.mem_cons, not_or] at ny
    exact b _ _ (by simp only [List.mem_cons, List.not_mem_nil, or_false, not_or]; exact ⟨ny.2.2.2.1, ny.2.2.2.2.1, ny.2.2.2.2.2.2.1, ny.2.2.2.2.2.2.2.1⟩) (off_same _ _ h)
  have e4 : ∀ {y : Addr}, y ≠ f.st → y ≠ f.hs → y ≠ s.dw → y ≠ s.kp → y ∉ [f.st, f.hs, s.dw, s.kp] := fun a b c d => by simp [a, b, c, d]
  exact ⟨⟨k W.o, k W.ha, ⟨k W.hb.h, W.hb.l, fun i y ks h1 h2 => k (W.hb.r i y ks h1 h2)⟩, b _ _ (e4 N.cs N.ch N.cd N.ck) W.hc, b _ _ (e4 N.es N.eh N.ed N.ek) W.he, b _ _ (e4 N.gs N.gh N.gd N.gk) W.hg⟩, W.nl⟩
end
theorem by_rest3 {G : Prop} {R : Addr → Addr → Hp → Prop} (C : Addr → Addr → Hp → Prop) (main : (∀ a b H, C a b H → R a b H) → G) (rest : ∀ a b H, C a b H → R a b H) : G := main rest
theorem words_at {z : Int} (h0 : 0 ≤ z) (h8 : z < 8) : ∃ w : Str, atI [V.str "press", V.str "press", V.str "lift", V.str "throw", V.str "throw", V.str "unthrow", V.str "undo", V.str "undo"] z = some (.str w) ∧ (w = "press" ∨ w = "lift" ∨ w = "throw" ∨ w = "unthrow" ∨ w = "undo") := by
  have : z = 0 ∨ z = 1 ∨ z = 2 ∨ z = 3 ∨ z = 4 ∨ z = 5 ∨ z = 6 ∨ z = 7 := by omega
  rcases this with q | q | q | q | q | q | q | q <;> subst q
  · exact ⟨_, rfl, .inl rfl⟩
  · exact ⟨_, rfl, .inl rfl⟩
  · exact ⟨_, rfl, .inr (.inl rfl)⟩
  · exact ⟨_, rfl, .inr (.inr (.inl rfl))⟩
  · exact ⟨_, rfl, .inr (.inr (.inl rfl))⟩
  · exact ⟨_, rfl, .inr (.inr (.inr (.inl rfl)))⟩
  · exact ⟨_, rfl, .inr (.inr (.inr (.inr rfl)))⟩
  · exact ⟨_, rfl, .inr (.inr (.inr (.inr rfl)))⟩
theorem ltr_at (c : Int) : ∃ n : Nat, atI (("abcdefghijklmnopqrstuvwxyz" : Str)).cps.toList (c % 26) = some n := by
  have h0 := Int.emod_nonneg c (show (26 : Int) ≠ 0 by decide)
  have h1 := Int.emod_lt_of_pos c (show (0 : Int) < 26 by decide)
  have hl : (("abcdefghijklmnopqrstuvwxyz" : Str)).cps.toList.length = 26 := by decide +kernel
  refine ⟨_, atI_of h0 (List.getElem?_eq_getElem (by rw [hl]; omega))⟩
def sp_done (t : Adr) : Sp := fun vs H Q _ => ∃ (HB : Hp) (f : Fx) (s : Sd) (n : Nat) (Y : List Addr) (sg lt ly : Addr) (rs : List Addr) (cell : Int), vs = [.ref f.m, .ref sg, .ref f.st, .int cell] ∧ Wv t HB f s H n Y ∧ Stg HB sg lt ly rs f ∧ n ≤ 700 ∧
  ∀ (s' : Sd) (H' : Hp), Wv t HB f s' H' (n + 2) Y → Nx f s H s' H' → Q (.bl true) H'
theorem ok_law_done (T : Txt K mg t) : FnOk P w K mg base CX0 4 t.f_law_done t.d_law_done ["made", "setting", "state", "cell"] (sp_done t) := by
  have G_law_treadle : FnOk P w K mg base CX0 1 t.f_law_treadle t.d_law_treadle _ _ := ok_law_treadle T
  have G_law_moved_on : FnOk P w K mg base CX0 2 t.f_law_moved_on t.d_law_moved_on _ _ := ok_law_moved_on T
  have G_law_try : FnOk P w K mg base CX0 3 t.f_law_try t.d_law_try _ _ := ok_law_try T
  have G_law_same : FnOk P w K mg base CX0 1 t.f_law_same t.d_law_same _ _ := ok_law_same T
  have G_law_answered : FnOk P w K mg base CX0 3 t.f_law_answered t.d_law_answered _ _ := ok_law_answered T
  refine T.law_done.F.ok sc_law_done (fun vs H Q E h => ?_) (fun cdv A outer s H vs Q E hr h => ?_)
  · obtain ⟨HB, f, sd, n, Y, sg, lt, ly, rs, cell, rfl, _⟩ := h
    rfl
  · obtain ⟨HB, f, ⟨dn, ps, pk, bs, dw, kp, krs, es, hd⟩, n, Y, sg, lt, ly, rs, cell, rfl, W, G, nl, k⟩ := h
    have hsz : sizeLine = 16777216 := sizeLine_eq
    refine ⟨_, (pss_cons (ps_set (i := 4) sc_law_done.nd rfl (Or.inl rfl) (pe_lst (pa_cons pe_str (pa_cons pe_str (pa_cons pe_str (pa_cons pe_str (pa_cons pe_str (pa_cons pe_str (pa_cons pe_str (pa_cons pe_str pa_nil))))))))))
      (pss_cons (ps_set (i := 5) sc_law_done.nd rfl (Or.inl rfl) (pe_op op_mod (pe_op op_mul (pv 3) pe_int) pe_int))
      (pss_cons (ps_set (i := 6) sc_law_done.nd rfl (Or.inl rfl) (pe_ix ix_str pe_str (pe_op op_mod (pe_op op_fdiv (pv 5) pe_int) pe_int) (fun _ _ => rfl)))
      (pss_cons (ps_set (i := 7) sc_law_done.nd rfl (Or.inl rfl) (pe_call (G_law_treadle.mono (by decide)) hr rfl T.law_treadle.m T.law_treadle.F.kp T.law_treadle.b .nil pass0 (pa_cons (pe_op op_fdiv (pv 3) pe_int) (pa_cons (pe_callB (call_len_seqK (K := K)) rfl T.b_len bt_len (pa_cons (pe_ix (ix_listK (K := K)) (pv 2) pe_int (fun _ _ => rfl)) pa_nil)) pa_nil))))
      (pss_cons (ps_set (i := 8) sc_law_done.nd rfl (Or.inl rfl) (pe_call (G_law_moved_on.mono (by decide)) hr rfl T.law_moved_on.m T.law_moved_on.F.kp T.law_moved_on.b .nil pass0 (pa_cons (pv 1) (pa_cons (pv 2) (pa_cons (pe_ix (ix_listK (K := K)) (pv 4) (pe_op op_mod (pv 3) pe_int) (fun _ _ => rfl)) (pa_cons (pv 7) (pa_cons (pv 6) pa_nil)))))))
      (pss_cons (ps_set (i := 9) sc_law_done.nd rfl (Or.inl rfl) (pe_call (G_law_try.mono (by decide)) hr rfl T.law_try.m T.law_try.F.kp T.law_try.b .nil pass0 (pa_cons (pv 0) (pa_cons (pe_ix (ix_listK (K := K)) (pv 4) (pe_op op_mod (pv 3) pe_int) (fun _ _ => rfl)) (pa_cons (pv 7) (pa_cons (pv 6) pa_nil))))))
      (pss_one (ps_ret (pe_and (pe_call (G_law_same.mono (by decide)) hr rfl T.law_same.m T.law_same.F.kp T.law_same.b .nil pass0 (pa_cons (pv 9) (pa_cons (pv 8) pa_nil))) (pe_one (pe_call (G_law_answered.mono (by decide)) hr rfl T.law_answered.m T.law_answered.F.kp T.law_answered.b .nil pass0 (pa_cons (pv 0) (pa_cons (pv 1) (pa_cons (pv 2) (pa_cons (pe_op op_mod (pe_op op_fdiv (pv 5) pe_int) pe_int) pa_nil))))))))))))))), ?_⟩
    have R : Rel dn bs f.tss.length := W.R
    have dl := R.len
    have bl := R.l
    have n40 := G.n40
    have n1 := G.n1
    have t40 := G.t40
    have kl : krs.length = pk.length := W.Kr.l
    have pl : ps.length = pk.length := W.P.l
    have p40 : pk.length ≤ 40 := W.p40
    have el : es.length ≤ n := W.en
    have R0 : ∀ ks ∈ f.tss, Rs ks := fun ks h => (G.ti ks h).1
    have m8 : (0 : Int) < 8 := by decide
    refine ⟨(by show 8 ≤ sizeLine; decide), fun lw nlw => ?_⟩
    have s1 : Same H (upd H lw (.lst [V.str "press", V.str "press", V.str "lift", V.str "throw", V.str "throw", V.str "unthrow", V.str "undo", V.str "undo"])) := .upd nlw
    have hlw1 : (upd H lw (.lst [V.str "press", V.str "press", V.str "lift", V.str "throw", V.str "throw", V.str "unthrow", V.str "undo", V.str "undo"])) lw = some (.lst [V.str "press", V.str "press", V.str "lift", V.str "throw", V.str "throw", V.str "unthrow", V.str "undo", V.str "undo"]) := upd_same
    generalize upd H lw (.lst [V.str "press", V.str "press", V.str "lift", V.str "throw", V.str "throw", V.str "unthrow", V.str "undo", V.str "undo"]) = H1 at s1 hlw1 ⊢
    refine at_set (σ' := [some (.ref f.m), some (.ref sg), some (.ref f.st), some (.int cell), some (.ref lw), none, none, none, none, none]) rfl ?_
    refine ⟨_, rfl, _, _, rfl, rfl, .inr ⟨by decide, by decide⟩, _, _, rfl, rfl, (by show (0 : Int) < 2147483647; decide), ?_⟩
    obtain ⟨mx, emx⟩ : ∃ mx, mx = cell * 48271 % 2147483647 := ⟨_, rfl⟩
    refine at_set (σ' := [some (.ref f.m), some (.ref sg), some (.ref f.st), some (.int cell), some (.ref lw), some (.int mx), none, none, none, none]) (by rw [emx]; rfl) ?_
    obtain ⟨ln, eln⟩ := ltr_at (mx / 2)
    refine ⟨_, rfl, _, _, rfl, rfl, ⟨by decide, by decide⟩, _, _, rfl, rfl, (by show (0 : Int) < 26; decide), _, _, _, rfl, rfl, (by decide +kernel), eln, ?_⟩
    refine at_set (σ' := [some (.ref f.m), some (.ref sg), some (.ref f.st), some (.int cell), some (.ref lw), some (.int mx), some (.str ⟨#[ln]⟩), none, none, none]) rfl ?_
    have W1 := W.same s1
    refine ⟨_, rfl, _, _, rfl, rfl, ⟨by decide, by decide⟩, _, rfl, _, _, _, _, rfl, rfl, SqL.of W1.st, rfl, _, _, rfl, .inl (SqL.of W1.hdw), cell / 8, bs.length, (by rw [vB_len] <;> rfl), by omega, by omega, fun z H2 s2 => ?_⟩
    refine at_set (σ' := [some (.ref f.m), some (.ref sg), some (.ref f.st), some (.int cell), some (.ref lw), some (.int mx), some (.str ⟨#[ln]⟩), some (.int z), none, none]) rfl ?_
    have u2 := s1.trans s2
    have W2 := W.same u2
    have hlw2 := s2 _ _ hlw1
    have Ns : Nes f dw kp := W.nes
    have ST : Sta H2 f.st dw kp f.hs f.hl bs krs (hvs es) := ⟨W2.st, W2.hdw, W2.hkp, W2.hhs⟩
    have SN : Sn f.st dw kp f.hs := ⟨Ns.sd, Ns.sk, Ns.sh, Ns.dk, Ns.hd.symm, Ns.hk.symm⟩
    have base : Same HB H2 := W2.base.trans off_same
    have out : ∀ {y : Addr} {o : HO}, HB y = some o → y ∉ [f.st, dw, kp, f.hs] := fun {y o} h z => by
      refine off_not (W2.base _ _ h) (List.mem_append_left _ ?_)
      unfold Fx.mu
      simp only [List.mem_cons, List.not_mem_nil, or_false] at z ⊢
      rcases z with z | z | z | z <;> simp [z]
    have sg2 := base _ _ G.sg
    have lt2 := base _ _ G.lt
    have ly2 := G.ly.same base
    have nlt := out G.lt
    have nly : ly ∉ [f.st, dw, kp, f.hs] ∧ ∀ r ∈ rs, r ∉ [f.st, dw, kp, f.hs] := ⟨out G.ly.h, fun r hr' => by
      obtain ⟨i, hi, e⟩ := List.getElem_of_mem hr'
      have hit : i < f.tss.length := by rw [← G.ly.l]; exact hi
      exact out (G.ly.r i r f.tss[i] (by rw [← e]; exact List.getElem?_eq_getElem hi) (List.getElem?_eq_getElem hit))⟩
    have lwf : H lw = none := nlw
    have nlw' : ∀ {y : Addr} {o : HO}, H y = some o → lw ≠ y := fun h q => by rw [q, h] at lwf; cases lwf
    have lwS : ∀ {H' : Hp}, ButL [f.st, f.hs, dw, kp] H2 H' → H' lw = some (.lst [V.str "press", V.str "press", V.str "lift", V.str "throw", V.str "throw", V.str "unthrow", V.str "undo", V.str "undo"]) := fun b => b _ _ (by
      simp only [List.mem_cons, List.not_mem_nil, or_false, not_or]
      exact ⟨nlw' W.st, nlw' W.hhs, nlw' W.hdw, nlw' W.hkp⟩) hlw2
    have e3 : ∀ {y : Addr}, y ≠ f.c → y ≠ f.e → y ≠ f.g → y ∉ [f.c, f.e, f.g] := fun a b c => by simp [a, b, c]
    have zof : ∀ {b : Bool}, (¬ ∃ k : Nat, z = (k : Int) ∧ bs[k]? = some b) → 0 ≤ z → z < (f.tss.length : Int) → bs[z.toNat]? = some (!b) := fun {b} h h0 h1 => by
      have hj : z.toNat < bs.length := by omega
      rw [List.getElem?_eq_getElem hj]
      cases hb : bs[z.toNat] with
      | true => cases b with
        | true => exact absurd ⟨z.toNat, by omega, by rw [List.getElem?_eq_getElem hj, hb]⟩ h
        | false => rfl
      | false => cases b with
        | true => rfl
        | false => exact absurd ⟨z.toNat, by omega, by rw [List.getElem?_eq_getElem hj, hb]⟩ h
    apply by_rest3 (fun d d2 H' => ∃ (s' : Sd) (xs : List V), Wv t HB f s' H' (n + 1) Y ∧ Nx f ⟨dn, ps, pk, bs, dw, kp, krs, es, hd⟩ H s' H' ∧ H' d = some (.tup xs) ∧ H' d2 = some (.tup xs) ∧ Tp xs)
    · intro rest
      obtain ⟨way, ew, hway⟩ := words_at (z := cell % 8) (Int.emod_nonneg _ (by decide)) (Int.emod_lt_of_pos _ (by decide))
      rcases hway with rfl | rfl | rfl | rfl | rfl
      ·
        by_cases can : ∃ k : Nat, z = (k : Int) ∧ bs[k]? = some false
        · obtain ⟨j, ej, hbj⟩ := can
          have jl : j < bs.length := (List.getElem?_eq_some_iff.mp hbj).1
          have nin : z ∉ dn := fun q => by
            have := (R.m j).mpr (by rw [← ej]; exact q)
            rw [hbj] at this; cases this
          refine ⟨_, rfl, _, rfl, _, rfl, _, rfl, _, _, rfl, rfl, m8, _, _, _, _, rfl, rfl, SqL.of (hlw2), ew, _, rfl, _, rfl, sg, lt, ly, f.st, dw, kp, f.hs, f.hl, rs, f.th, f.tss, bs, krs, hvs es, _, _, z, rfl, ST, SN, sg2, lt2, ly2, bl, n40, t40, G.ti, nlt, nly, by omega, by rw [hvs_len]; omega, .inr (.inr (.inr (.inl ⟨j, false, .inl ⟨rfl, rfl⟩, ej, hbj, fun d w0 k0 h0 H3 b3 V3 dw3 hd3 => ?_⟩)))⟩
          refine at_set (σ' := [some (.ref f.m), some (.ref sg), some (.ref f.st), some (.int cell), some (.ref lw), some (.int mx), some (.str ⟨#[ln]⟩), some (.int z), some (.ref d), none]) rfl ?_
          have b3' : ButL [f.st, f.hs, dw, kp] H2 H3 := fun y o ny q => b3 y o (fun z => ny (by simp only [List.mem_cons, List.not_mem_nil, or_false] at z ⊢; rcases z with z | z <;> simp [z])) q
          have L3 := W2.LMb b3'
          refine ⟨_, rfl, _, rfl, _, rfl, _, _, rfl, rfl, m8, _, _, _, _, rfl, rfl, SqL.of (lwS b3'), ew, _, rfl, _, rfl, f.m, f.dx, f.a, f.b, f.c, f.e, f.g, f.qs, f.th, f.tss, dn, pvs ps, uvs es, _, _, z, rfl, L3, R0, R.b, by omega, by rw [uvs_len]; omega, by rw [pvs_len]; omega, .inr (.inr (.inl ⟨rfl, ⟨by omega, by omega, nin⟩, fun u d2 H4 nu hu4 b4 L4 hd4 => ?_⟩))⟩
          refine at_set (σ' := [some (.ref f.m), some (.ref sg), some (.ref f.st), some (.int cell), some (.ref lw), some (.int mx), some (.str ⟨#[ln]⟩), some (.int z), some (.ref d), some (.ref d2)]) rfl ?_
          have M4 := L4.M
          have M3 := L3.M
          have ne3 : ∀ {y : Addr}, H2 y = none → y ∉ [f.c, f.e, f.g] := fun {y} h => e3 (fun q => by rw [q, W2.hc] at h; cases h) (fun q => by rw [q, W2.he] at h; cases h) (fun q => by rw [q, W2.hg] at h; cases h)
          have nt3 : ∀ {y : Addr} {xs : List V}, H3 y = some (.tup xs) → y ∉ [f.c, f.e, f.g] := fun {y xs} h => e3 (fun q => by rw [q, M3.hc] at h; cases h) (fun q => by rw [q, M3.he] at h; cases h) (fun q => by rw [q, M3.hg] at h; cases h)
          have kp3 := b3 _ _ (by simp [Ns.dk.symm, Ns.hk.symm]) W2.hkp
          obtain ⟨s', W4, X4⟩ := W2.fin (d := .press j) (u := u) (bs' := bs.set j (!bs[j])) (ps' := ps) (pk' := pk) (krs' := krs) (fun y o ny q => b4 _ _ (fun q' => ny (by simp only [List.mem_cons, List.not_mem_nil, or_false] at q' ⊢; rcases q' with q' | q' | q' <;> simp [q'])) (b3 _ _ (fun q' => ny (by simp only [List.mem_cons, List.not_mem_nil, or_false] at q' ⊢; rcases q' with q' | q' <;> simp [q'])) q)) ⟨V3.nw, V3.nk, V3.wk, b4 _ _ (ne3 V3.nw) V3.hw, b4 _ _ (ne3 V3.nk) V3.hk, b4 _ _ (nt3 V3.hh) V3.hh, b4 _ _ (e3 Ns.ch.symm Ns.eh.symm Ns.gh.symm) V3.hs⟩ (by rw [ej] at hu4; exact hu4) (by rw [ej] at M4; exact M4.hc) M4.he M4.hg (by
            have eb : bs[j] = false := Option.some.inj ((List.getElem?_eq_getElem jl).symm.trans hbj)
            rw [eb]
            exact b4 _ _ (e3 Ns.cd.symm Ns.ed.symm Ns.gd.symm) dw3) (b4 _ _ (e3 Ns.ck.symm Ns.ek.symm Ns.gk.symm) kp3) (fun F' S _ => ⟨W2.P.same S, W2.Kr.same S, fun _ _ _ _ e => by cases e⟩) (by
            have eb : bs[j] = false := Option.some.inj ((List.getElem?_eq_getElem jl).symm.trans hbj)
            rw [eb]
            exact ⟨hbj, rfl, rfl⟩) (by
            have eb : bs[j] = false := Option.some.inj ((List.getElem?_eq_getElem jl).symm.trans hbj)
            rw [eb]
            exact R.press (by omega) hbj) p40
          exact rest d d2 H4 ⟨s', [.non], W4, (Nx.same u2).trans X4, b4 _ _ (nt3 hd3) hd3, hd4, .inl rfl⟩
        · refine ⟨_, rfl, _, rfl, _, rfl, _, rfl, _, _, rfl, rfl, m8, _, _, _, _, rfl, rfl, SqL.of (hlw2), ew, _, rfl, _, rfl, sg, lt, ly, f.st, dw, kp, f.hs, f.hl, rs, f.th, f.tss, bs, krs, hvs es, _, _, z, rfl, ST, SN, sg2, lt2, ly2, bl, n40, t40, G.ti, nlt, nly, by omega, by rw [hvs_len]; omega, .inl ⟨.inl ⟨rfl, can⟩, fun d H3 s3 hd3 => ?_⟩⟩
          refine at_set (σ' := [some (.ref f.m), some (.ref sg), some (.ref f.st), some (.int cell), some (.ref lw), some (.int mx), some (.str ⟨#[ln]⟩), some (.int z), some (.ref d), none]) rfl ?_
          have L3 := W2.LM.same s3
          refine ⟨_, rfl, _, rfl, _, rfl, _, _, rfl, rfl, m8, _, _, _, _, rfl, rfl, SqL.of (s3 _ _ hlw2), ew, _, rfl, _, rfl, f.m, f.dx, f.a, f.b, f.c, f.e, f.g, f.qs, f.th, f.tss, dn, pvs ps, uvs es, _, _, z, rfl, L3, R0, R.b, by omega, by rw [uvs_len]; omega, by rw [pvs_len]; omega, .inl ⟨.inl ⟨rfl, fun q => by
            have := zof can q.1 q.2.1
            exact q.2.2 (by have h := (R.m z.toNat).mp this; rwa [Int.toNat_of_nonneg q.1] at h)⟩, fun d2 H4 s4 hd4 => ?_⟩⟩
          refine at_set (σ' := [some (.ref f.m), some (.ref sg), some (.ref f.st), some (.int cell), some (.ref lw), some (.int mx), some (.str ⟨#[ln]⟩), some (.int z), some (.ref d), some (.ref d2)]) rfl ?_
          exact rest d d2 H4 ⟨_, _, ((W2.same s3).same s4).mono (Nat.le_succ _), .same ((u2.trans s3).trans s4), s4 _ _ hd3, hd4, .inr (.inr ⟨_, _, rfl⟩)⟩
      ·
        by_cases can : ∃ k : Nat, z = (k : Int) ∧ bs[k]? = some true
        · obtain ⟨j, ej, hbj⟩ := can
          have jl : j < bs.length := (List.getElem?_eq_some_iff.mp hbj).1
          have hin : z ∈ dn := by rw [ej]; exact (R.m j).mp hbj
          refine ⟨_, rfl, _, rfl, _, rfl, _, rfl, _, _, rfl, rfl, m8, _, _, _, _, rfl, rfl, SqL.of (hlw2), ew, _, rfl, _, rfl, sg, lt, ly, f.st, dw, kp, f.hs, f.hl, rs, f.th, f.tss, bs, krs, hvs es, _, _, z, rfl, ST, SN, sg2, lt2, ly2, bl, n40, t40, G.ti, nlt, nly, by omega, by rw [hvs_len]; omega, .inr (.inr (.inr (.inl ⟨j, true, .inr ⟨rfl, rfl⟩, ej, hbj, fun d w0 k0 h0 H3 b3 V3 dw3 hd3 => ?_⟩)))⟩
          refine at_set (σ' := [some (.ref f.m), some (.ref sg), some (.ref f.st), some (.int cell), some (.ref lw), some (.int mx), some (.str ⟨#[ln]⟩), some (.int z), some (.ref d), none]) rfl ?_
          have b3' : ButL [f.st, f.hs, dw, kp] H2 H3 := fun y o ny q => b3 y o (fun z => ny (by simp only [List.mem_cons, List.not_mem_nil, or_false] at z ⊢; rcases z with z | z <;> simp [z])) q
          have L3 := W2.LMb b3'
          refine ⟨_, rfl, _, rfl, _, rfl, _, _, rfl, rfl, m8, _, _, _, _, rfl, rfl, SqL.of (lwS b3'), ew, _, rfl, _, rfl, f.m, f.dx, f.a, f.b, f.c, f.e, f.g, f.qs, f.th, f.tss, dn, pvs ps, uvs es, _, _, z, rfl, L3, R0, R.b, by omega, by rw [uvs_len]; omega, by rw [pvs_len]; omega, .inr (.inr (.inr (.inl ⟨rfl, hin, fun j' u d2 H4 hj nu hu4 b4 L4 hd4 => ?_⟩)))⟩
          refine at_set (σ' := [some (.ref f.m), some (.ref sg), some (.ref f.st), some (.int cell), some (.ref lw), some (.int mx), some (.str ⟨#[ln]⟩), some (.int z), some (.ref d), some (.ref d2)]) rfl ?_
          have M4 := L4.M
          have M3 := L3.M
          have ne3 : ∀ {y : Addr}, H2 y = none → y ∉ [f.c, f.e, f.g] := fun {y} h => e3 (fun q => by rw [q, W2.hc] at h; cases h) (fun q => by rw [q, W2.he] at h; cases h) (fun q => by rw [q, W2.hg] at h; cases h)
          have nt3 : ∀ {y : Addr} {xs : List V}, H3 y = some (.tup xs) → y ∉ [f.c, f.e, f.g] := fun {y xs} h => e3 (fun q => by rw [q, M3.hc] at h; cases h) (fun q => by rw [q, M3.he] at h; cases h) (fun q => by rw [q, M3.hg] at h; cases h)
          have kp3 := b3 _ _ (by simp [Ns.dk.symm, Ns.hk.symm]) W2.hkp
          obtain ⟨s', W4, X4⟩ := W2.fin (d := .lift j) (u := u) (bs' := bs.set j (!bs[j])) (ps' := ps) (pk' := pk) (krs' := krs) (fun y o ny q => b4 _ _ (fun q' => ny (by simp only [List.mem_cons, List.not_mem_nil, or_false] at q' ⊢; rcases q' with q' | q' | q' <;> simp [q'])) (b3 _ _ (fun q' => ny (by simp only [List.mem_cons, List.not_mem_nil, or_false] at q' ⊢; rcases q' with q' | q' <;> simp [q'])) q)) ⟨V3.nw, V3.nk, V3.wk, b4 _ _ (ne3 V3.nw) V3.hw, b4 _ _ (ne3 V3.nk) V3.hk, b4 _ _ (nt3 V3.hh) V3.hh, b4 _ _ (e3 Ns.ch.symm Ns.eh.symm Ns.gh.symm) V3.hs⟩ (by rw [ej] at hu4; exact hu4) M4.hc M4.he M4.hg (by
            have eb : bs[j] = true := Option.some.inj ((List.getElem?_eq_getElem jl).symm.trans hbj)
            rw [eb]
            exact b4 _ _ (e3 Ns.cd.symm Ns.ed.symm Ns.gd.symm) dw3) (b4 _ _ (e3 Ns.ck.symm Ns.ek.symm Ns.gk.symm) kp3) (fun F' S _ => ⟨W2.P.same S, W2.Kr.same S, fun _ _ _ _ e => by cases e⟩) (by
            have eb : bs[j] = true := Option.some.inj ((List.getElem?_eq_getElem jl).symm.trans hbj)
            rw [eb]
            exact ⟨hbj, rfl, rfl⟩) (by
            have eb : bs[j] = true := Option.some.inj ((List.getElem?_eq_getElem jl).symm.trans hbj)
            rw [eb]
            exact R.lift (by omega) (by rw [← ej]; exact hj)) p40
          exact rest d d2 H4 ⟨s', [.non], W4, (Nx.same u2).trans X4, b4 _ _ (nt3 hd3) hd3, hd4, .inl rfl⟩
        · refine ⟨_, rfl, _, rfl, _, rfl, _, rfl, _, _, rfl, rfl, m8, _, _, _, _, rfl, rfl, SqL.of (hlw2), ew, _, rfl, _, rfl, sg, lt, ly, f.st, dw, kp, f.hs, f.hl, rs, f.th, f.tss, bs, krs, hvs es, _, _, z, rfl, ST, SN, sg2, lt2, ly2, bl, n40, t40, G.ti, nlt, nly, by omega, by rw [hvs_len]; omega, .inl ⟨.inr (.inl ⟨rfl, can⟩), fun d H3 s3 hd3 => ?_⟩⟩
          refine at_set (σ' := [some (.ref f.m), some (.ref sg), some (.ref f.st), some (.int cell), some (.ref lw), some (.int mx), some (.str ⟨#[ln]⟩), some (.int z), some (.ref d), none]) rfl ?_
          have L3 := W2.LM.same s3
          refine ⟨_, rfl, _, rfl, _, rfl, _, _, rfl, rfl, m8, _, _, _, _, rfl, rfl, SqL.of (s3 _ _ hlw2), ew, _, rfl, _, rfl, f.m, f.dx, f.a, f.b, f.c, f.e, f.g, f.qs, f.th, f.tss, dn, pvs ps, uvs es, _, _, z, rfl, L3, R0, R.b, by omega, by rw [uvs_len]; omega, by rw [pvs_len]; omega, .inl ⟨.inr (.inl ⟨rfl, fun q => by
            have hb := R.b z q
            exact can ⟨z.toNat, by omega, (R.m z.toNat).mpr (by rw [Int.toNat_of_nonneg hb.1]; exact q)⟩⟩), fun d2 H4 s4 hd4 => ?_⟩⟩
          refine at_set (σ' := [some (.ref f.m), some (.ref sg), some (.ref f.st), some (.int cell), some (.ref lw), some (.int mx), some (.str ⟨#[ln]⟩), some (.int z), some (.ref d), some (.ref d2)]) rfl ?_
          exact rest d d2 H4 ⟨_, _, ((W2.same s3).same s4).mono (Nat.le_succ _), .same ((u2.trans s3).trans s4), s4 _ _ hd3, hd4, .inr (.inr ⟨_, _, rfl⟩)⟩
      ·
        by_cases c40 : krs.length < 40
        · refine ⟨_, rfl, _, rfl, _, rfl, _, rfl, _, _, rfl, rfl, m8, _, _, _, _, rfl, rfl, SqL.of (hlw2), ew, _, rfl, _, rfl, sg, lt, ly, f.st, dw, kp, f.hs, f.hl, rs, f.th, f.tss, bs, krs, hvs es, _, _, z, rfl, ST, SN, sg2, lt2, ly2, bl, n40, t40, G.ti, nlt, nly, by omega, by rw [hvs_len]; omega, .inr (.inr (.inr (.inr (.inl ⟨rfl, c40, fun d w0 k0 h0 r ks H3 b3 V3 nr kp3 hr3 hm3 hd3 => ?_⟩))))⟩
          refine at_set (σ' := [some (.ref f.m), some (.ref sg), some (.ref f.st), some (.int cell), some (.ref lw), some (.int mx), some (.str ⟨#[ln]⟩), some (.int z), some (.ref d), none]) rfl ?_
          have b3' : ButL [f.st, f.hs, dw, kp] H2 H3 := fun y o ny q => b3 y o (fun z => ny (by simp only [List.mem_cons, List.not_mem_nil, or_false] at z ⊢; rcases z with z | z <;> simp [z])) q
          have L3 := W2.LMb b3'
          refine ⟨_, rfl, _, rfl, _, rfl, _, _, rfl, rfl, m8, _, _, _, _, rfl, rfl, SqL.of (lwS b3'), ew, _, rfl, _, rfl, f.m, f.dx, f.a, f.b, f.c, f.e, f.g, f.qs, f.th, f.tss, dn, pvs ps, uvs es, _, _, z, rfl, L3, R0, R.b, by omega, by rw [uvs_len]; omega, by rw [pvs_len]; omega, .inr (.inr (.inr (.inr (.inl ⟨rfl, by rw [pvs_len]; omega, fun p sl u d2 ks' H4 b4 np nsl nu L4 hp4 hsl4 hu4 hm4 hd4 => ?_⟩))))⟩
          refine at_set (σ' := [some (.ref f.m), some (.ref sg), some (.ref f.st), some (.int cell), some (.ref lw), some (.int mx), some (.str ⟨#[ln]⟩), some (.int z), some (.ref d), some (.ref d2)]) rfl ?_
          have M4 := L4.M
          have M3 := L3.M
          have ne3 : ∀ {y : Addr}, H2 y = none → y ∉ [f.c, f.e, f.g] := fun {y} h => e3 (fun q => by rw [q, W2.hc] at h; cases h) (fun q => by rw [q, W2.he] at h; cases h) (fun q => by rw [q, W2.hg] at h; cases h)
          have nt3 : ∀ {y : Addr} {xs : List V}, H3 y = some (.tup xs) → y ∉ [f.c, f.e, f.g] := fun {y xs} h => e3 (fun q => by rw [q, M3.hc] at h; cases h) (fun q => by rw [q, M3.he] at h; cases h) (fun q => by rw [q, M3.hg] at h; cases h)
          have es' : shd f.th ks = shd f.th ks' := shd_mem fun y => by rw [hm3 y, hm4 y]; exact R.mk_iff y
          have dw3 := b3 _ _ (by simp [Ns.dk, Ns.hd.symm]) W2.hdw
          have fr3 : ∀ {y : Addr}, H3 y = none → y ∉ [f.st, f.hs, dw, kp] → H2 y = none ∧ y ≠ w0 ∧ y ≠ k0 := fun {y} h ny => ⟨b3'.free ny h, fun q => (by rw [q, V3.hw] at h; cases h), fun q => (by rw [q, V3.hk] at h; cases h)⟩
          have st3 : H3 f.st = some (.lst [.ref dw, .ref kp, .ref f.hs, .ref f.hl]) := b3 _ _ (by simp [Ns.sk, Ns.sh]) W2.st
          have in3 : ∀ {y : Addr}, H3 y = none → y ∉ [f.st, f.hs, dw, kp] := fun {y} h => by
            simp only [List.mem_cons, List.not_mem_nil, or_false, not_or]
            exact ⟨fun q => (by rw [q, st3] at h; cases h), fun q => (by rw [q, V3.hs] at h; cases h), fun q => (by rw [q, dw3] at h; cases h), fun q => (by rw [q, kp3] at h; cases h)⟩
          obtain ⟨s', W4, X4⟩ := W2.fin (d := .throw) (u := u) (dn' := dn) (bs' := bs) (ps' := ps ++ [(p, sl)]) (pk' := pk ++ [(ks', ⟨#[ln]⟩)]) (krs' := krs ++ [r]) (fun y o ny q => b4 _ _ (fun q' => ny (by simp only [List.mem_cons, List.not_mem_nil, or_false] at q' ⊢; rcases q' with q' | q' | q' <;> simp [q'])) (b3 _ _ (fun q' => ny (by simp only [List.mem_cons, List.not_mem_nil, or_false] at q' ⊢; rcases q' with q' | q' <;> simp [q'])) q)) ⟨V3.nw, V3.nk, V3.wk, b4 _ _ (ne3 V3.nw) V3.hw, b4 _ _ (ne3 V3.nk) V3.hk, b4 _ _ (nt3 V3.hh) V3.hh, b4 _ _ (e3 Ns.ch.symm Ns.eh.symm Ns.gh.symm) V3.hs⟩ hu4 M4.hc (by rw [pvs_app]; exact M4.he) M4.hg (b4 _ _ (e3 Ns.cd.symm Ns.ed.symm Ns.gd.symm) dw3) (b4 _ _ (e3 Ns.ck.symm Ns.ek.symm Ns.gk.symm) kp3) (fun F' S Nw => by
            obtain ⟨p1, p2, p3⟩ := fr3 np (in3 np)
            obtain ⟨l1, l2, l3⟩ := fr3 nsl (in3 nsl)
            refine ⟨(W2.P.same S).snoc (Nw _ _ hp4 p1 p2 p3) (Nw _ _ hsl4 l1 l2 l3), (W2.Kr.same S).snoc (Nw _ _ ?_ nr ?_ ?_), fun _ _ _ _ e => by cases e⟩
            · rw [es'] at hr3
              exact b4 _ _ (nt3 hr3) hr3
            · intro q; have h := V3.hw; rw [← q, hr3] at h; cases h
            · intro q; have h := V3.hk; rw [← q, hr3] at h; cases h) ⟨rfl, _, rfl⟩ R (by rw [List.length_append, List.length_singleton]; omega)
          exact rest d d2 H4 ⟨s', [.non], W4, (Nx.same u2).trans X4, b4 _ _ (nt3 hd3) hd3, hd4, .inl rfl⟩
        · refine ⟨_, rfl, _, rfl, _, rfl, _, rfl, _, _, rfl, rfl, m8, _, _, _, _, rfl, rfl, SqL.of (hlw2), ew, _, rfl, _, rfl, sg, lt, ly, f.st, dw, kp, f.hs, f.hl, rs, f.th, f.tss, bs, krs, hvs es, _, _, z, rfl, ST, SN, sg2, lt2, ly2, bl, n40, t40, G.ti, nlt, nly, by omega, by rw [hvs_len]; omega, .inr (.inl ⟨rfl, by omega, fun d H3 s3 hd3 => ?_⟩)⟩
          refine at_set (σ' := [some (.ref f.m), some (.ref sg), some (.ref f.st), some (.int cell), some (.ref lw), some (.int mx), some (.str ⟨#[ln]⟩), some (.int z), some (.ref d), none]) rfl ?_
          have L3 := W2.LM.same s3
          refine ⟨_, rfl, _, rfl, _, rfl, _, _, rfl, rfl, m8, _, _, _, _, rfl, rfl, SqL.of (s3 _ _ hlw2), ew, _, rfl, _, rfl, f.m, f.dx, f.a, f.b, f.c, f.e, f.g, f.qs, f.th, f.tss, dn, pvs ps, uvs es, _, _, z, rfl, L3, R0, R.b, by omega, by rw [uvs_len]; omega, by rw [pvs_len]; omega, .inr (.inl ⟨rfl, by rw [pvs_len]; omega, fun d2 H4 s4 hd4 => ?_⟩)⟩
          refine at_set (σ' := [some (.ref f.m), some (.ref sg), some (.ref f.st), some (.int cell), some (.ref lw), some (.int mx), some (.str ⟨#[ln]⟩), some (.int z), some (.ref d), some (.ref d2)]) rfl ?_
          exact rest d d2 H4 ⟨_, _, ((W2.same s3).same s4).mono (Nat.le_succ _), .same ((u2.trans s3).trans s4), s4 _ _ hd3, hd4, .inr (.inr ⟨_, _, rfl⟩)⟩
      ·
        by_cases c0 : krs = []
        · have pe : ps = [] := List.length_eq_zero_iff.mp (by rw [pl, ← kl, c0]; rfl)
          refine ⟨_, rfl, _, rfl, _, rfl, _, rfl, _, _, rfl, rfl, m8, _, _, _, _, rfl, rfl, SqL.of (hlw2), ew, _, rfl, _, rfl, sg, lt, ly, f.st, dw, kp, f.hs, f.hl, rs, f.th, f.tss, bs, krs, hvs es, _, _, z, rfl, ST, SN, sg2, lt2, ly2, bl, n40, t40, G.ti, nlt, nly, by omega, by rw [hvs_len]; omega, .inl ⟨.inr (.inr (.inl ⟨rfl, c0⟩)), fun d H3 s3 hd3 => ?_⟩⟩
          refine at_set (σ' := [some (.ref f.m), some (.ref sg), some (.ref f.st), some (.int cell), some (.ref lw), some (.int mx), some (.str ⟨#[ln]⟩), some (.int z), some (.ref d), none]) rfl ?_
          have L3 := W2.LM.same s3
          refine ⟨_, rfl, _, rfl, _, rfl, _, _, rfl, rfl, m8, _, _, _, _, rfl, rfl, SqL.of (s3 _ _ hlw2), ew, _, rfl, _, rfl, f.m, f.dx, f.a, f.b, f.c, f.e, f.g, f.qs, f.th, f.tss, dn, pvs ps, uvs es, _, _, z, rfl, L3, R0, R.b, by omega, by rw [uvs_len]; omega, by rw [pvs_len]; omega, .inl ⟨.inr (.inr (.inl ⟨rfl, by rw [pe]; rfl⟩)), fun d2 H4 s4 hd4 => ?_⟩⟩
          refine at_set (σ' := [some (.ref f.m), some (.ref sg), some (.ref f.st), some (.int cell), some (.ref lw), some (.int mx), some (.str ⟨#[ln]⟩), some (.int z), some (.ref d), some (.ref d2)]) rfl ?_
          exact rest d d2 H4 ⟨_, _, ((W2.same s3).same s4).mono (Nat.le_succ _), .same ((u2.trans s3).trans s4), s4 _ _ hd3, hd4, .inr (.inr ⟨_, _, rfl⟩)⟩
        · obtain ⟨kr0, r, ekr⟩ := snoc_of c0
          obtain ⟨pk0, ⟨ks, y⟩, epk⟩ := snoc_of (l := pk) fun q => c0 (List.length_eq_zero_iff.mp (by rw [kl, q]; rfl))
          obtain ⟨ps0, ⟨p, sl⟩, eps⟩ := snoc_of (l := ps) fun q => c0 (List.length_eq_zero_iff.mp (by rw [kl, ← pl, q]; rfl))
          have hps : ps0.length = pk0.length := by rw [eps, epk] at pl; simp at pl; exact pl
          have hks : kr0.length = pk0.length := by rw [ekr, epk] at kl; simp at kl; exact kl
          have PW : Pk (off (f.mu dw kp es ++ Y) H2) ps pk := W2.P
          have KW : KT (off (f.mu dw kp es ++ Y) H2) f.th krs pk := W2.Kr
          rw [eps, epk] at PW
          rw [ekr, epk] at KW
          have pr := PW.r ps0.length p sl ks y (by simp) (by rw [hps]; simp)
          have kr := KW.r kr0.length r ks y (by simp) (by rw [hks]; simp)
          refine ⟨_, rfl, _, rfl, _, rfl, _, rfl, _, _, rfl, rfl, m8, _, _, _, _, rfl, rfl, SqL.of (hlw2), ew, _, rfl, _, rfl, sg, lt, ly, f.st, dw, kp, f.hs, f.hl, rs, f.th, f.tss, bs, krs, hvs es, _, _, z, rfl, ST, SN, sg2, lt2, ly2, bl, n40, t40, G.ti, nlt, nly, by omega, by rw [hvs_len]; omega, .inr (.inr (.inr (.inr (.inr ⟨kr0, r, _, y, rfl, ekr, off_same _ _ kr, fun d w0 k0 h0 H3 b3 V3 kp3 hd3 => ?_⟩))))⟩
          refine at_set (σ' := [some (.ref f.m), some (.ref sg), some (.ref f.st), some (.int cell), some (.ref lw), some (.int mx), some (.str ⟨#[ln]⟩), some (.int z), some (.ref d), none]) rfl ?_
          have b3' : ButL [f.st, f.hs, dw, kp] H2 H3 := fun y o ny q => b3 y o (fun z => ny (by simp only [List.mem_cons, List.not_mem_nil, or_false] at z ⊢; rcases z with z | z <;> simp [z])) q
          have L3 := W2.LMb b3'
          have np3 : p ∉ [f.st, f.hs, dw, kp] := fun q => off_not pr.1 (List.mem_append_left _ (by unfold Fx.mu; simp only [List.mem_cons, List.not_mem_nil, or_false] at q ⊢; rcases q with q | q | q | q <;> simp [q]))
          refine ⟨_, rfl, _, rfl, _, rfl, _, _, rfl, rfl, m8, _, _, _, _, rfl, rfl, SqL.of (lwS b3'), ew, _, rfl, _, rfl, f.m, f.dx, f.a, f.b, f.c, f.e, f.g, f.qs, f.th, f.tss, dn, pvs ps, uvs es, _, _, z, rfl, L3, R0, R.b, by omega, by rw [uvs_len]; omega, by rw [pvs_len]; omega, .inr (.inr (.inr (.inr (.inr (.inl ⟨p, sl, pvs ps0, y, rfl, by rw [eps, pvs_app], b3' _ _ np3 (off_same _ _ pr.1), fun u d2 H4 b4 nu hu4 L4 hd4 => ?_⟩)))))⟩
          refine at_set (σ' := [some (.ref f.m), some (.ref sg), some (.ref f.st), some (.int cell), some (.ref lw), some (.int mx), some (.str ⟨#[ln]⟩), some (.int z), some (.ref d), some (.ref d2)]) rfl ?_
          have M4 := L4.M
          have M3 := L3.M
          have ne3 : ∀ {y : Addr}, H2 y = none → y ∉ [f.c, f.e, f.g] := fun {y} h => e3 (fun q => by rw [q, W2.hc] at h; cases h) (fun q => by rw [q, W2.he] at h; cases h) (fun q => by rw [q, W2.hg] at h; cases h)
          have nt3 : ∀ {y : Addr} {xs : List V}, H3 y = some (.tup xs) → y ∉ [f.c, f.e, f.g] := fun {y xs} h => e3 (fun q => by rw [q, M3.hc] at h; cases h) (fun q => by rw [q, M3.he] at h; cases h) (fun q => by rw [q, M3.hg] at h; cases h)
          have dw3 := b3 _ _ (by simp [Ns.dk, Ns.hd.symm]) W2.hdw
          obtain ⟨s', W4, X4⟩ := W2.fin (d := .unthrow p sl ks y) (u := u) (dn' := dn) (bs' := bs) (ps' := ps0) (pk' := pk0) (krs' := kr0) (fun y o ny q => b4 _ _ (fun q' => ny (by simp only [List.mem_cons, List.not_mem_nil, or_false] at q' ⊢; rcases q' with q' | q' | q' <;> simp [q'])) (b3 _ _ (fun q' => ny (by simp only [List.mem_cons, List.not_mem_nil, or_false] at q' ⊢; rcases q' with q' | q' <;> simp [q'])) q)) ⟨V3.nw, V3.nk, V3.wk, b4 _ _ (ne3 V3.nw) V3.hw, b4 _ _ (ne3 V3.nk) V3.hk, b4 _ _ (nt3 V3.hh) V3.hh, b4 _ _ (e3 Ns.ch.symm Ns.eh.symm Ns.gh.symm) V3.hs⟩ hu4 M4.hc M4.he M4.hg (b4 _ _ (e3 Ns.cd.symm Ns.ed.symm Ns.gd.symm) dw3) (b4 _ _ (e3 Ns.ck.symm Ns.ek.symm Ns.gk.symm) kp3) (fun F' S _ => by
            refine ⟨(PW.same S).init, (KW.same S).init, fun p' sl' ks' z' e => ?_⟩
            cases e
            exact ⟨S _ _ pr.1, S _ _ pr.2⟩) ⟨rfl, epk⟩ R (by rw [epk, List.length_append] at p40; omega)
          exact rest d d2 H4 ⟨s', [.str y], W4, (Nx.same u2).trans X4, b4 _ _ (nt3 hd3) hd3, hd4, .inr (.inl ⟨_, rfl⟩)⟩
      ·
        cases es with
        | nil =>
          refine ⟨_, rfl, _, rfl, _, rfl, _, rfl, _, _, rfl, rfl, m8, _, _, _, _, rfl, rfl, SqL.of (hlw2), ew, _, rfl, _, rfl, sg, lt, ly, f.st, dw, kp, f.hs, f.hl, rs, f.th, f.tss, bs, krs, hvs [], _, _, z, rfl, ST, SN, sg2, lt2, ly2, bl, n40, t40, G.ti, nlt, nly, by omega, by rw [hvs_len]; omega, .inl ⟨.inr (.inr (.inr ⟨rfl, rfl⟩)), fun d H3 s3 hd3 => ?_⟩⟩
          refine at_set (σ' := [some (.ref f.m), some (.ref sg), some (.ref f.st), some (.int cell), some (.ref lw), some (.int mx), some (.str ⟨#[ln]⟩), some (.int z), some (.ref d), none]) rfl ?_
          have L3 := W2.LM.same s3
          refine ⟨_, rfl, _, rfl, _, rfl, _, _, rfl, rfl, m8, _, _, _, _, rfl, rfl, SqL.of (s3 _ _ hlw2), ew, _, rfl, _, rfl, f.m, f.dx, f.a, f.b, f.c, f.e, f.g, f.qs, f.th, f.tss, dn, pvs ps, uvs [], _, _, z, rfl, L3, R0, R.b, by omega, by rw [uvs_len]; omega, by rw [pvs_len]; omega, .inl ⟨.inr (.inr (.inr ⟨rfl, rfl⟩)), fun d2 H4 s4 hd4 => ?_⟩⟩
          refine at_set (σ' := [some (.ref f.m), some (.ref sg), some (.ref f.st), some (.int cell), some (.ref lw), some (.int mx), some (.str ⟨#[ln]⟩), some (.int z), some (.ref d), some (.ref d2)]) rfl ?_
          exact rest d d2 H4 ⟨_, _, ((W2.same s3).same s4).mono (Nat.le_succ _), .same ((u2.trans s3).trans s4), s4 _ _ hd3, hd4, .inr (.inr ⟨_, _, rfl⟩)⟩
        | cons x es =>
          have E0 : EnF _ f.th x := W2.ef x (List.mem_cons_self ..)
          have hst : Stp x.bs x.pk x.d bs pk := W2.ch.1
          refine ⟨_, rfl, _, rfl, _, rfl, _, rfl, _, _, rfl, rfl, m8, _, _, _, _, rfl, rfl, SqL.of (hlw2), ew, _, rfl, _, rfl, sg, lt, ly, f.st, dw, kp, f.hs, f.hl, rs, f.th, f.tss, bs, krs, hvs (x :: es), _, _, z, rfl, ST, SN, sg2, lt2, ly2, bl, n40, t40, G.ti, nlt, nly, by omega, by rw [hvs_len]; omega, .inr (.inr (.inl ⟨x.h, x.w, x.k, hvs es, rfl, hvs_cons x es, off_same _ _ E0.h, fun d H3 b3 hs3 st3 hd3 => ?_⟩))⟩
          refine at_set (σ' := [some (.ref f.m), some (.ref sg), some (.ref f.st), some (.int cell), some (.ref lw), some (.int mx), some (.str ⟨#[ln]⟩), some (.int z), some (.ref d), none]) rfl ?_
          have b3' : ButL [f.st, f.hs, dw, kp] H2 H3 := fun y o ny q => b3 y o (fun z => ny (by simp only [List.mem_cons, List.not_mem_nil, or_false] at z ⊢; rcases z with z | z <;> simp [z])) q
          have L3 := W2.LMb b3'
          have fin : ∀ (dn' : List Int) (ps' : List (Addr × Addr)) (d2 : Addr) (H4 : Hp), ButL [f.c, f.e, f.g] H3 H4 → LM t H4 f.m f.dx f.a f.b f.c f.e f.g f.qs f.th f.tss dn' (pvs ps') (uvs es) → H4 d2 = some (.tup [.non]) → Pk (off (f.mu dw kp (x :: es) ++ Y) H2) ps' x.pk → Rel dn' x.bs f.tss.length → ∃ (s' : Sd) (xs : List V), Wv t HB f s' H4 (n + 1) Y ∧ Nx f ⟨dn, ps, pk, bs, dw, kp, krs, x :: es, hd⟩ H s' H4 ∧ H4 d = some (.tup xs) ∧ H4 d2 = some (.tup xs) ∧ Tp xs := fun dn' ps' d2 H4 b4 L4 hd4 P4 R4 => by
            have M4 := L4.M
            have M3 := L3.M
            have nt3 : ∀ {y : Addr} {xs : List V}, H3 y = some (.tup xs) → y ∉ [f.c, f.e, f.g] := fun {y xs} h => e3 (fun q => by rw [q, M3.hc] at h; cases h) (fun q => by rw [q, M3.he] at h; cases h) (fun q => by rw [q, M3.hg] at h; cases h)
            have bb : ButL [f.c, f.e, f.g, f.hs, f.st] H2 H4 := fun y o ny q => b4 _ _ (fun q' => ny (by simp only [List.mem_cons, List.not_mem_nil, or_false] at q' ⊢; rcases q' with q' | q' | q' <;> simp [q'])) (b3 _ _ (fun q' => ny (by simp only [List.mem_cons, List.not_mem_nil, or_false] at q' ⊢; rcases q' with q' | q' <;> simp [q'])) q)
            obtain ⟨W4, sub⟩ := W2.undone (dn' := dn') (ps' := ps') bb M4.hc M4.he M4.hg (b4 _ _ (e3 Ns.ch.symm Ns.eh.symm Ns.gh.symm) hs3) (b4 _ _ (e3 Ns.cs.symm Ns.es.symm Ns.gs.symm) st3) P4 R4
            refine ⟨_, [.non], W4.mono (Nat.le_succ _), (Nx.same u2).trans ⟨fun y o ny q => bb y o (fun q' => ny ?_) q, sub⟩, b4 _ _ (nt3 hd3) hd3, hd4, .inl rfl⟩
            unfold Fx.mu
            simp only [List.mem_cons, List.not_mem_nil, or_false] at q' ⊢
            rcases q' with q' | q' | q' | q' | q' <;> simp [q']
          have nxu : x.u ∉ [f.st, f.hs, dw, kp] := fun q => off_not E0.u (List.mem_append_left _ (by unfold Fx.mu; simp only [List.mem_cons, List.not_mem_nil, or_false] at q ⊢; rcases q with q | q | q | q <;> simp [q]))
          have hu3 : H3 x.u = some (.tup x.d.vs) := b3' _ _ nxu (off_same _ _ E0.u)
          have go : ∀ {Q' : Addr → Hp → Prop}, (∀ (d2 : Addr) (H4 : Hp), (∃ (s' : Sd) (xs : List V), Wv t HB f s' H4 (n + 1) Y ∧ Nx f ⟨dn, ps, pk, bs, dw, kp, krs, x :: es, hd⟩ H s' H4 ∧ H4 d = some (.tup xs) ∧ H4 d2 = some (.tup xs) ∧ Tp xs) → Q' d2 H4) → ((∃ y : Int, H3 x.u = some (.tup [.str "press", .int y]) ∧ y ∈ dn ∧ ∀ (j : Nat) (d : Addr) (H' : Hp), dn[j]? = some y → ButL [f.c, f.e, f.g] H3 H' → LM t H' f.m f.dx f.a f.b f.c f.e f.g f.qs f.th f.tss (dn.eraseIdx j) (pvs ps) (uvs es) → H' d = some (.tup [.non]) → Q' d H') ∨
     (∃ y : Int, H3 x.u = some (.tup [.str "lift", .int y]) ∧ ∀ (d : Addr) (H' : Hp), ButL [f.c, f.e, f.g] H3 H' → LM t H' f.m f.dx f.a f.b f.c f.e f.g f.qs f.th f.tss (dn ++ [y]) (pvs ps) (uvs es) → H' d = some (.tup [.non]) → Q' d H') ∨
     (∃ (tn0 : List V) (v : V), H3 x.u = some (.tup [.str "throw", .non]) ∧ pvs ps = tn0 ++ [v] ∧ ∀ (d : Addr) (H' : Hp), ButL [f.c, f.e, f.g] H3 H' → LM t H' f.m f.dx f.a f.b f.c f.e f.g f.qs f.th f.tss dn tn0 (uvs es) → H' d = some (.tup [.non]) → Q' d H') ∨
     (∃ p : Addr, H3 x.u = some (.tup [.str "unthrow", .ref p]) ∧ ∀ (d : Addr) (H' : Hp), ButL [f.c, f.e, f.g] H3 H' → LM t H' f.m f.dx f.a f.b f.c f.e f.g f.qs f.th f.tss dn (pvs ps ++ [.ref p]) (uvs es) → H' d = some (.tup [.non]) → Q' d H')) := fun {Q'} kk => by
            obtain ⟨xd, exd⟩ : ∃ xd, xd = x.d := ⟨_, rfl⟩
            rw [← exd] at hst hu3
            cases xd with
            | press j =>
              obtain ⟨h1, h2, h3⟩ := hst
              have jb : bs[j]? = some true := by
                obtain ⟨hj, _⟩ := List.getElem?_eq_some_iff.mp h1
                rw [h2, List.getElem?_set, if_pos rfl, if_pos hj]
              have jl : j < f.tss.length := by rw [← bl]; exact (List.getElem?_eq_some_iff.mp jb).1
              refine .inl ⟨(j : Int), hu3, (R.m j).mp jb, fun i d2 H4 hi b4 L4 hd4 => kk d2 H4 (fin _ ps d2 H4 b4 L4 hd4 (by rw [← h3]; exact W2.P) ?_)⟩
              have := R.lift jl hi
              rw [h2, set_back h1] at this
              exact this
            | lift j =>
              obtain ⟨h1, h2, h3⟩ := hst
              have hj := (List.getElem?_eq_some_iff.mp h1).1
              have jb : bs[j]? = some false := by rw [h2, List.getElem?_set, if_pos rfl, if_pos hj]
              have jl : j < f.tss.length := by rw [← bl]; exact (List.getElem?_eq_some_iff.mp jb).1
              refine .inr (.inl ⟨(j : Int), hu3, fun d2 H4 b4 L4 hd4 => kk d2 H4 (fin _ ps d2 H4 b4 L4 hd4 (by rw [← h3]; exact W2.P) ?_)⟩)
              have := R.press jl jb
              rw [h2, set_back h1] at this
              exact this
            | throw =>
              obtain ⟨h1, ks, h2⟩ := hst
              obtain ⟨ps0, q, eq⟩ := snoc_of (l := ps) fun e => by rw [e, h2, List.length_append] at pl; simp at pl
              have P0 : Pk (off (f.mu dw kp (x :: es) ++ Y) H2) ps pk := W2.P
              rw [eq, h2] at P0
              exact .inr (.inr (.inl ⟨pvs ps0, .ref q.1, hu3, by rw [eq, pvs_app], fun d2 H4 b4 L4 hd4 => kk d2 H4 (fin dn ps0 d2 H4 b4 L4 hd4 P0.init (by rw [← h1]; exact R))⟩))
            | unthrow p sl ks y =>
              obtain ⟨h1, h2⟩ := hst
              have U := E0.d p sl ks y exd.symm
              refine .inr (.inr (.inr ⟨p, hu3, fun d2 H4 b4 L4 hd4 => kk d2 H4 (fin dn (ps ++ [(p, sl)]) d2 H4 b4 (by rw [pvs_app]; exact L4) hd4 ?_ (by rw [← h1]; exact R))⟩))
              rw [h2]
              exact Pk.snoc W2.P U.1 U.2
          refine ⟨_, rfl, _, rfl, _, rfl, _, _, rfl, rfl, m8, _, _, _, _, rfl, rfl, SqL.of (lwS b3'), ew, _, rfl, _, rfl, f.m, f.dx, f.a, f.b, f.c, f.e, f.g, f.qs, f.th, f.tss, dn, pvs ps, uvs (x :: es), _, _, z, rfl, L3, R0, R.b, by omega, by rw [uvs_len]; omega, by rw [pvs_len]; omega, .inr (.inr (.inr (.inr (.inr (.inr ⟨x.u, uvs es, rfl, uvs_cons x es, go fun d2 H4 c => ?_⟩)))))⟩
          refine at_set (σ' := [some (.ref f.m), some (.ref sg), some (.ref f.st), some (.int cell), some (.ref lw), some (.int mx), some (.str ⟨#[ln]⟩), some (.int z), some (.ref d), some (.ref d2)]) rfl ?_
          exact rest d d2 H4 c
    rintro d d2 H3 ⟨s', xs, W3, X3, hd1, hd2, tp⟩
    refine ⟨_, rfl, _, rfl, d2, d, xs, rfl, hd2, hd1, tp, _, rfl, ?_⟩
    refine iteT ?_
    exact ⟨_, rfl, _, rfl, _, rfl, _, rfl, _, _, rfl, rfl, ⟨by decide, by decide⟩, _, _, rfl, rfl, (by show (0 : Int) < 5; decide), HB, f, s', n + 1, Y, sg, lt, ly, rs, _, rfl, W3, G, by omega, fun s2 H4 W4 X4 => k _ _ W4 (X3.trans X4)⟩
def Cps (H0 H : Hp) (qs : List Addr) (tss : List (List Int)) (i : Nat) : Prop := qs.length = i ∧ (∀ q ∈ qs, H0 q = none) ∧ ∀ (j : Nat) (q : Addr) (ks : List Int), qs[j]? = some q → tss[j]? = some ks → H q = some (.lst (vI ks))
theorem Cps.nil (H0 H : Hp) (tss : List (List Int)) : Cps H0 H [] tss 0 := ⟨rfl, fun q hq => (by cases hq), fun j q ks h => (by simp at h)⟩
theorem Cps.add {H0 H : Hp} {qs : List Addr} {tss : List (List Int)} {i : Nat} (C : Cps H0 H qs tss i) {l : Addr} {ks' : List Int} (nl : H l = none) (n0 : H0 l = none) (hk : tss[i]? = some ks') : Cps H0 (upd H l (.lst (vI ks'))) (qs ++ [l]) tss (i + 1) := by
  obtain ⟨hq, nq, hqs⟩ := C
  refine ⟨by rw [List.length_append, hq]; rfl, fun q h => ?_, fun j q ks h1 h2 => ?_⟩
  · rcases List.mem_append.mp h with h | h
    · exact nq q h
    · rw [List.mem_singleton.mp h]; exact n0
  · by_cases hj : j < qs.length
    · rw [List.getElem?_append_left hj] at h1
      exact (Same.upd nl) _ _ (hqs j q ks h1 h2)
    · rw [List.getElem?_append_right (by omega)] at h1
      have e0 : j = i := by
        have := (List.getElem?_eq_some_iff.mp h1).1
        simp at this
        omega
      rw [show j - qs.length = 0 by omega] at h1
      have e1 : l = q := by simpa using h1
      rw [e0, hk] at h2
      cases h2
      rw [← e1]
      exact upd_same
def sp_law (K : PySem.W.Frag) : Sp := fun vs H Q _ => ∃ (a : Addr) (ns : List Int), vs = [.ref a] ∧ SqL K H a (vI ns) ∧ ns.length ≤ 63 ∧ ∀ H', Q (.bl true) H'
theorem sp_law_holds {K : PySem.W.Frag} {H : Hp} {a : Addr} {ns : List Int} (hl : ns.length ≤ 63) (hS : SqL K H a (ns.map V.int)) : sp_law K [.ref a] H (fun v _ => v = .bl true) fun _ _ _ => False := ⟨a, ns, rfl, hS, hl, fun _ => rfl⟩
theorem high_at {z : Int} (h0 : 0 ≤ z) (h3 : z < 3) : ∃ h : Nat, atI [V.int 4, V.int 8, V.int 40] z = some (.int (h : Int)) ∧ 1 ≤ h ∧ h ≤ 40 := by
  have : z = 0 ∨ z = 1 ∨ z = 2 := by omega
  rcases this with q | q | q <;> subst q
  · exact ⟨4, rfl, by decide, by decide⟩
  · exact ⟨8, rfl, by decide, by decide⟩
  · exact ⟨40, rfl, by decide, by decide⟩
theorem rel0 (n : Nat) : Rel [] (List.replicate n false) n := by
  refine ⟨.nil, fun d h => (by cases h), by rw [List.length_replicate], fun k => ?_⟩
  rw [List.getElem?_replicate]
  constructor
  · intro q
    split at q <;> cases q
  · intro q; cases q
set_option genInjectivity false in
structure St5 where
  st : Addr
  hs : Addr
  hl : Addr
  dw : Addr
  kp : Addr
def St5.l (x : St5) : List Addr := [x.st, x.hs, x.hl, x.dw, x.kp]
structure St5.F (x : St5) (H : Hp) (n : Nat) : Prop where
  st : H x.st = some (.lst [.ref x.dw, .ref x.kp, .ref x.hs, .ref x.hl])
  dw : H x.dw = some (.lst (vB (List.replicate n false)))
  kp : H x.kp = some (.lst [])
  hs : H x.hs = some (.lst [])
  hl : H x.hl = some (.lst [])
theorem St5.F.but {x : St5} {H H' : Hp} {n : Nat} {X : List Addr} (k : x.F H n) (b : ButL X H H') (h : ∀ u ∈ x.l, u ∉ X) : x.F H' n := by
  unfold St5.l at h
  exact ⟨b _ _ (h _ (by simp)) k.st, b _ _ (h _ (by simp)) k.dw, b _ _ (h _ (by simp)) k.kp, b _ _ (h _ (by simp)) k.hs, b _ _ (h _ (by simp)) k.hl⟩
theorem St5.F.is {x : St5} {H : Hp} {n : Nat} (k : x.F H n) : ∀ u ∈ x.l, ∃ xs, H u = some (.lst xs) := fun u hu => by
  unfold St5.l at hu
  simp only [List.mem_cons, List.not_mem_nil, or_false] at hu
  rcases hu with z | z | z | z | z <;> rw [z]
  · exact ⟨_, k.st⟩
  · exact ⟨_, k.hs⟩
  · exact ⟨_, k.hl⟩
  · exact ⟨_, k.dw⟩
  · exact ⟨_, k.kp⟩
theorem Wv.start {HB H : Hp} {f : Fx} {dw kp : Addr} {Y : List Addr} (dj : ∀ u ∈ f.mu dw kp [], u ∉ Y) (yl : ∀ u ∈ Y, ∃ xs, H u = some (.lst xs)) (nd : (f.mu dw kp []).Nodup) (nl : (f.g :: f.e :: f.c :: f.b :: f.a :: f.qs).Nodup) (bs : Same HB (off (f.mu dw kp [] ++ Y) H))
    (M : IsM t H f.m f.dx f.a f.b f.c f.e f.g f.qs f.th f.tss [] [] []) (out : ∀ u ∈ f.m :: f.a :: f.b :: f.qs, u ∉ f.mu dw kp [] ++ Y) (k : St5.F ⟨f.st, f.hs, f.hl, dw, kp⟩ H f.tss.length) : Wv t HB f ⟨[], [], [], List.replicate f.tss.length false, dw, kp, [], [], []⟩ H 0 Y := by
  have oq : ∀ q ∈ f.qs, q ∉ f.mu dw kp [] ++ Y := fun q hq => out q (by simp [hq])
  have hb : NL (off (f.mu dw kp [] ++ Y) H) f.b f.qs f.tss := ⟨off_some M.hb.h (out _ (by simp)), M.hb.l, fun i q ks h1 h2 => off_some (M.hb.r i q ks h1 h2) (oq q (List.mem_of_getElem? h1))⟩
  exact ⟨dj, yl, nd, nl, bs, off_some M.o (out _ (by simp)), off_some M.ha (out _ (by simp)), hb, M.hc, M.he, M.hg, k.st, k.dw, k.kp, k.hs, k.hl, ⟨rfl, fun i p sl ks z h => (by simp at h)⟩, ⟨rfl, fun i p ks z h => (by simp at h)⟩, fun x hx => (by cases hx), fun x hx => (by cases hx), trivial, rel0 _, fun x hx => (by cases hx), Nat.zero_le _, Nat.le_refl _, Nat.le_refl _⟩
def Two (t : Adr) (HB : Hp) (f1 f2 : Fx) (H : Hp) (n : Nat) : Prop := ∃ s1 s2 : Sd, Wv t HB f1 s1 H n (f2.mu s2.dw s2.kp s2.es) ∧ Wv t HB f2 s2 H n (f1.mu s1.dw s1.kp s1.es)
theorem Two.one {HB H H' : Hp} {f1 f2 : Fx} {s1 s2 s1' : Sd} {n m : Nat} (h : n ≤ m) (W2 : Wv t HB f2 s2 H n (f1.mu s1.dw s1.kp s1.es)) (W1 : Wv t HB f1 s1' H' m (f2.mu s2.dw s2.kp s2.es)) (x : Nx f1 s1 H s1' H') : Two t HB f1 f2 H' m := ⟨s1', s2, W1, (W2.other W1 x).mono h⟩
theorem Two.two {HB H H' : Hp} {f1 f2 : Fx} {s1 s2 s2' : Sd} {n m : Nat} (h : n ≤ m) (W1 : Wv t HB f1 s1 H n (f2.mu s2.dw s2.kp s2.es)) (W2 : Wv t HB f2 s2' H' m (f1.mu s1.dw s1.kp s1.es)) (x : Nx f2 s2 H s2' H') : Two t HB f1 f2 H' m := ⟨s1, s2', (W1.other W2 x).mono h, W2⟩
theorem Two.mono {HB H : Hp} {f1 f2 : Fx} {n m : Nat} (h : n ≤ m) (W : Two t HB f1 f2 H n) : Two t HB f1 f2 H m := W.imp fun _ ⟨s2, a, b⟩ => ⟨s2, a.mono h, b.mono h⟩
def Fx.own (f : Fx) : List Addr := f.m :: f.g :: f.e :: f.c :: f.b :: f.a :: f.qs
theorem loom_is {H : Hp} {f : Fx} (M : IsM t H f.m f.dx f.a f.b f.c f.e f.g f.qs f.th f.tss [] [] []) : ∀ u ∈ f.own, H u ≠ none := fun u hu => by
  unfold Fx.own at hu
  simp only [List.mem_cons] at hu
  rcases hu with z | z | z | z | z | z | z
  · rw [z, M.o]; simp
  · rw [z, M.hg]; simp
  · rw [z, M.he]; simp
  · rw [z, M.hc]; simp
  · rw [z, M.hb.h]; simp
  · rw [z, M.ha]; simp
  · obtain ⟨i, hi', ei⟩ := List.getElem_of_mem z
    have hit : i < f.tss.length := by have := M.hb.l; omega
    rw [M.hb.r i u f.tss[i] (by rw [← ei]; exact List.getElem?_eq_getElem hi') (List.getElem?_eq_getElem hit)]; simp
theorem two_start {HA HC H : Hp} {f1 f2 : Fx} {p1 p2 : St5} (e1 : p1 = ⟨f1.st, f1.hs, f1.hl, p1.dw, p1.kp⟩) (e2 : p2 = ⟨f2.st, f2.hs, f2.hl, p2.dw, p2.kp⟩) (M1 : IsM t HC f1.m f1.dx f1.a f1.b f1.c f1.e f1.g f1.qs f1.th f1.tss [] [] []) (M2 : IsM t HC f2.m f2.dx f2.a f2.b f2.c f2.e f2.g f2.qs f2.th f2.tss [] [] [])
    (n1 : (f1.g :: f1.e :: f1.c :: f1.b :: f1.a :: f1.qs).Nodup) (n2 : (f2.g :: f2.e :: f2.c :: f2.b :: f2.a :: f2.qs).Nodup) (A1 : ∀ u ∈ f1.own, HA u ≠ none) (A2 : ∀ u ∈ f2.own, HA u = none)
    (k : Same HC H) (F1 : p1.F H f1.tss.length) (F2 : p2.F H f2.tss.length) (nd : (p1.l ++ p2.l).Nodup) (fr : ∀ u ∈ p1.l ++ p2.l, HC u = none) : Two t (off (f1.mu p1.dw p1.kp [] ++ f2.mu p2.dw p2.kp []) H) f1 f2 H 0 := by
  have mu1 : f1.mu p1.dw p1.kp [] = [f1.c, f1.e, f1.g] ++ p1.l := by rw [e1]; rfl
  have mu2 : f2.mu p2.dw p2.kp [] = [f2.c, f2.e, f2.g] ++ p2.l := by rw [e2]; rfl
  have O1 := loom_is M1
  have O2 := loom_is M2
  have o1 : ∀ u ∈ [f1.c, f1.e, f1.g], u ∈ f1.own := fun u hu => by
    unfold Fx.own
    simp only [List.mem_cons, List.not_mem_nil, or_false] at hu ⊢
    rcases hu with z | z | z <;> simp [z]
  have o2 : ∀ u ∈ [f2.c, f2.e, f2.g], u ∈ f2.own := fun u hu => by
    unfold Fx.own
    simp only [List.mem_cons, List.not_mem_nil, or_false] at hu ⊢
    rcases hu with z | z | z <;> simp [z]
  have q1 : ∀ u ∈ f1.m :: f1.a :: f1.b :: f1.qs, u ∈ f1.own := fun u hu => by
    unfold Fx.own
    simp only [List.mem_cons] at hu ⊢
    rcases hu with z | z | z | z <;> simp [z]
  have q2 : ∀ u ∈ f2.m :: f2.a :: f2.b :: f2.qs, u ∈ f2.own := fun u hu => by
    unfold Fx.own
    simp only [List.mem_cons] at hu ⊢
    rcases hu with z | z | z | z <;> simp [z]
  have nd' := List.nodup_append.mp nd
  have cross : ∀ {f : Fx}, (f.g :: f.e :: f.c :: f.b :: f.a :: f.qs).Nodup → IsM t HC f.m f.dx f.a f.b f.c f.e f.g f.qs f.th f.tss [] [] [] → ([f.c, f.e, f.g] : List Addr).Nodup ∧ ∀ u ∈ f.m :: f.a :: f.b :: f.qs, u ∉ [f.c, f.e, f.g] := fun {f} nl M => by
    simp only [List.nodup_cons, List.mem_cons, not_or] at nl
    obtain ⟨⟨ge, gc, gb, ga, gq⟩, ⟨ec, eb, ea, eq⟩, ⟨cb, ca, cq⟩, ⟨ba, bq⟩, aq, _⟩ := nl
    refine ⟨?_, fun u hu => ?_⟩
    · simp only [List.nodup_cons, List.mem_cons, List.not_mem_nil, or_false, not_or, not_false_eq_true, List.nodup_nil, and_true]
      exact ⟨⟨Ne.symm ec, Ne.symm gc⟩, Ne.symm ge⟩
    · simp only [List.mem_cons, List.not_mem_nil, or_false, not_or] at hu ⊢
      rcases hu with z | z | z | z
      · rw [z]
        exact ⟨fun z => (by have := M.o; rw [z, M.hc] at this; cases this), fun z => (by have := M.o; rw [z, M.he] at this; cases this), fun z => (by have := M.o; rw [z, M.hg] at this; cases this)⟩
      · rw [z]; exact ⟨Ne.symm ca, Ne.symm ea, Ne.symm ga⟩
      · rw [z]; exact ⟨Ne.symm cb, Ne.symm eb, Ne.symm gb⟩
      · exact ⟨fun h => cq (h ▸ z), fun h => eq (h ▸ z), fun h => gq (h ▸ z)⟩
  obtain ⟨N1, X1⟩ := cross n1 M1
  obtain ⟨N2, X2⟩ := cross n2 M2
  have l1 : ∀ u ∈ p1.l, HC u = none := fun u hu => fr u (List.mem_append_left _ hu)
  have l2 : ∀ u ∈ p2.l, HC u = none := fun u hu => fr u (List.mem_append_right _ hu)
  have dj : ∀ u ∈ [f1.c, f1.e, f1.g] ++ p1.l, u ∉ [f2.c, f2.e, f2.g] ++ p2.l := fun u h1 h2 => by
    rcases List.mem_append.mp h1 with h1 | h1 <;> rcases List.mem_append.mp h2 with h2 | h2
    · exact A1 u (o1 u h1) (A2 u (o2 u h2))
    · exact O1 u (o1 u h1) (l2 u h2)
    · exact O2 u (o2 u h2) (l1 u h1)
    · exact nd'.2.2 u h1 u h2 rfl
  have ndA : ([f1.c, f1.e, f1.g] ++ p1.l).Nodup := List.nodup_append.mpr ⟨N1, nd'.1, fun u hu v hv e => O1 u (o1 u hu) (e ▸ l1 v hv)⟩
  have ndB : ([f2.c, f2.e, f2.g] ++ p2.l).Nodup := List.nodup_append.mpr ⟨N2, nd'.2.1, fun u hu v hv e => O2 u (o2 u hu) (e ▸ l2 v hv)⟩
  have is1 : ∀ u ∈ [f1.c, f1.e, f1.g] ++ p1.l, ∃ xs, H u = some (.lst xs) := fun u hu => by
    rcases List.mem_append.mp hu with h | h
    · simp only [List.mem_cons, List.not_mem_nil, or_false] at h
      rcases h with z | z | z <;> rw [z]
      · exact ⟨_, k _ _ M1.hc⟩
      · exact ⟨_, k _ _ M1.he⟩
      · exact ⟨_, k _ _ M1.hg⟩
    · exact F1.is u h
  have is2 : ∀ u ∈ [f2.c, f2.e, f2.g] ++ p2.l, ∃ xs, H u = some (.lst xs) := fun u hu => by
    rcases List.mem_append.mp hu with h | h
    · simp only [List.mem_cons, List.not_mem_nil, or_false] at h
      rcases h with z | z | z <;> rw [z]
      · exact ⟨_, k _ _ M2.hc⟩
      · exact ⟨_, k _ _ M2.he⟩
      · exact ⟨_, k _ _ M2.hg⟩
    · exact F2.is u h
  have out1 : ∀ u ∈ f1.m :: f1.a :: f1.b :: f1.qs, u ∉ ([f1.c, f1.e, f1.g] ++ p1.l) ++ ([f2.c, f2.e, f2.g] ++ p2.l) := fun u hu hm => by
    rcases List.mem_append.mp hm with h | h <;> rcases List.mem_append.mp h with h | h
    · exact X1 u hu h
    · exact O1 u (q1 u hu) (l1 u h)
    · exact A1 u (q1 u hu) (A2 u (o2 u h))
    · exact O1 u (q1 u hu) (l2 u h)
  have out2 : ∀ u ∈ f2.m :: f2.a :: f2.b :: f2.qs, u ∉ ([f2.c, f2.e, f2.g] ++ p2.l) ++ ([f1.c, f1.e, f1.g] ++ p1.l) := fun u hu hm => by
    rcases List.mem_append.mp hm with h | h <;> rcases List.mem_append.mp h with h | h
    · exact X2 u hu h
    · exact O2 u (q2 u hu) (l2 u h)
    · exact A1 u (o1 u h) (A2 u (q2 u hu))
    · exact O2 u (q2 u hu) (l1 u h)
  refine ⟨⟨[], [], [], List.replicate f1.tss.length false, p1.dw, p1.kp, [], [], []⟩, ⟨[], [], [], List.replicate f2.tss.length false, p2.dw, p2.kp, [], [], []⟩, ?_, ?_⟩
  · show Wv t _ f1 _ H 0 (f2.mu p2.dw p2.kp [])
    refine Wv.start ?_ ?_ ?_ n1 (.refl _) (M1.same k) ?_ (e1 ▸ F1)
    · rw [mu1, mu2]; exact dj
    · rw [mu2]; exact is2
    · rw [mu1]; exact ndA
    · rw [mu1, mu2]; exact out1
  · show Wv t _ f2 _ H 0 (f1.mu p1.dw p1.kp [])
    refine Wv.start ?_ ?_ ?_ n2 ?_ (M2.same k) ?_ (e2 ▸ F2)
    · rw [mu1, mu2]; exact fun u h2 h1 => dj u h1 h2
    · rw [mu1]; exact is1
    · rw [mu2]; exact ndB
    · refine off_step (fun u o _ h => h) fun u hu => .inl ?_
      rcases List.mem_append.mp hu with h | h
      · exact List.mem_append_right _ h
      · exact List.mem_append_left _ h
    · rw [mu1, mu2]; exact out2
theorem ok_law (T : Txt K mg t) : FnOk P w K mg base CX0 7 t.f_law t.d_law ["script"] (sp_law K) := by
  have G_law_size : FnOk P w K mg base CX0 1 t.f_law_size t.d_law_size _ _ := ok_law_size T
  have G_law_cell_at : FnOk P w K mg base CX0 1 t.f_law_cell_at t.d_law_cell_at _ _ := ok_law_cell_at T
  have G_law_threading : FnOk P w K mg base CX0 2 t.f_law_threading t.d_law_threading _ _ := ok_law_threading T
  have G_law_ties : FnOk P w K mg base CX0 2 t.f_law_ties t.d_law_ties _ _ := ok_law_ties T
  have G_Loom___init__ : FnOk P w K mg base CX0 4 t.f_Loom___init__ t.d_Loom___init__ _ _ := ok_Loom___init__ T
  have G_law_done : FnOk P w K mg base CX0 4 t.f_law_done t.d_law_done _ _ := ok_law_done T
  have G_law_answered : FnOk P w K mg base CX0 3 t.f_law_answered t.d_law_answered _ _ := ok_law_answered T
  refine T.law.F.ok sc_law (fun vs H Q E h => ?_) (fun cdv A outer s H vs Q E hr h => ?_)
  · obtain ⟨a, ns, rfl, _⟩ := h
    rfl
  · obtain ⟨sc, ns, rfl, hS, hl, k⟩ := h
    have hsz : sizeLine = 16777216 := sizeLine_eq
    refine ⟨_, (pss_cons (ps_set (i := 1) sc_law.nd rfl (Or.inl rfl) (pe_call (G_law_size.mono (by decide)) hr rfl T.law_size.m T.law_size.F.kp T.law_size.b .nil pass0 (pa_cons (pe_call (G_law_cell_at.mono (by decide)) hr rfl T.law_cell_at.m T.law_cell_at.F.kp T.law_cell_at.b .nil pass0 (pa_cons (pv 0) (pa_cons pe_int pa_nil))) (pa_cons pe_int pa_nil))))
      (pss_cons (ps_set (i := 2) sc_law.nd rfl (Or.inl rfl) (pe_call (G_law_size.mono (by decide)) hr rfl T.law_size.m T.law_size.F.kp T.law_size.b .nil pass0 (pa_cons (pe_call (G_law_cell_at.mono (by decide)) hr rfl T.law_cell_at.m T.law_cell_at.F.kp T.law_cell_at.b .nil pass0 (pa_cons (pv 0) (pa_cons pe_int pa_nil))) (pa_cons pe_int pa_nil))))
      (pss_cons (ps_set (i := 3) sc_law.nd rfl (Or.inl rfl) (pe_ix (ix_listK (K := K)) (pe_lst (pa_cons pe_int (pa_cons pe_int (pa_cons pe_int pa_nil)))) (pe_op op_mod (pe_call (G_law_cell_at.mono (by decide)) hr rfl T.law_cell_at.m T.law_cell_at.F.kp T.law_cell_at.b .nil pass0 (pa_cons (pv 0) (pa_cons pe_int pa_nil))) pe_int) (fun _ _ => rfl)))
      (pss_cons (ps_set (i := 4) sc_law.nd rfl (Or.inl rfl) (pe_tup (pa_cons (pe_call (G_law_threading.mono (by decide)) hr rfl T.law_threading.m T.law_threading.F.kp T.law_threading.b .nil pass0 (pa_cons (pv 0) (pa_cons (pv 1) (pa_cons (pv 3) pa_nil)))) (pa_cons (pe_call (G_law_ties.mono (by decide)) hr rfl T.law_ties.m T.law_ties.F.kp T.law_ties.b .nil pass0 (pa_cons (pv 0) (pa_cons (pv 2) (pa_cons (pv 3) pa_nil)))) pa_nil))))
      (pss_cons (ps_set (i := 5) sc_law.nd rfl (Or.inl rfl) (pe_tup (pa_cons (pe_callTy (call_list_ofK (K := K)) rfl T.b_list bt_list (pa_cons (pe_ix (ix_tupK (K := K)) (pv 4) pe_int (fun _ _ => rfl)) pa_nil)) (pa_cons (pe_comp (CompOk.mk (caps := []) (Nc := ["tie"]) rfl (by decide +kernel) (by decide +kernel) (comp_fr (sc0 := defScope s_law) rfl (by decide +kernel)) rfl rfl rfl (by decide +kernel) (fun _ _ h => by simp at h)) rfl (pi_listK (K := K) (pe_ix (ix_tupK (K := K)) (pv 4) pe_int (fun _ _ => rfl))) (fun _ _ _ _ _ => .nil) (fun _ _ _ _ _ => (pe_callTy (call_list_ofK (K := K)) rfl T.b_list bt_list (pa_cons (pv 0) pa_nil)))) pa_nil))))
      (pss_cons (ps_set (i := 6) sc_law.nd rfl (Or.inl rfl) (pe_lst (pa_cons (pe_make T.o_Loom.m (G_Loom___init__.mono (by decide)) hr rfl T.k_Loom T.m_Loom___init__.b .nil pass0 (pa_cons (pe_ix (ix_tupK (K := K)) (pv 5) pe_int (fun _ _ => rfl)) (pa_cons (pe_ix (ix_tupK (K := K)) (pv 5) pe_int (fun _ _ => rfl)) pa_nil))) (pa_cons (pe_make T.o_Loom.m (G_Loom___init__.mono (by decide)) hr rfl T.k_Loom T.m_Loom___init__.b .nil pass0 (pa_cons (pe_ix (ix_tupK (K := K)) (pv 5) pe_int (fun _ _ => rfl)) (pa_cons (pe_ix (ix_tupK (K := K)) (pv 5) pe_int (fun _ _ => rfl)) pa_nil))) pa_nil))))
      (pss_cons (ps_set (i := 7) sc_law.nd rfl (Or.inl rfl) (pe_lst pa_nil))
      (pss_cons (ps_for PassesOwn.never rfl (pi_range1 rfl T.b_range (pa_cons pe_int pa_nil)) (pg_name (i := 8) sc_law.nd rfl (Or.inl rfl))
        (pss_one (ps_expr (pe_bmK (K := K) PySem.F.plainAttrs_list PySem.F.slot_list_append PySem.F.type_list_append mt_append (pv 7) (pa_cons (pe_lst (pa_cons (pe_comp (CompOk.mk (caps := []) (Nc := ["tie"]) rfl (by decide +kernel) (by decide +kernel) (comp_fr (sc0 := defScope s_law) rfl (by decide +kernel)) rfl rfl rfl (by decide +kernel) (fun _ _ h => by simp at h)) rfl (pi_listK (K := K) (pe_ix (ix_tupK (K := K)) (pv 4) pe_int (fun _ _ => rfl))) (fun _ _ _ _ _ => .nil) (fun _ _ _ _ _ => pe_bl)) (pa_cons (pe_lst pa_nil) (pa_cons (pe_lst pa_nil) (pa_cons (pe_lst pa_nil) pa_nil))))) pa_nil)))))
      (pss_cons (ps_for PassesOwn.never rfl (pi_range1 rfl T.b_range (pa_cons (pe_op op_mod (pe_op op_fdiv (pe_call (G_law_cell_at.mono (by decide)) hr rfl T.law_cell_at.m T.law_cell_at.F.kp T.law_cell_at.b .nil pass0 (pa_cons (pv 0) (pa_cons pe_int pa_nil))) pe_int) pe_int) pa_nil)) (pg_name (i := 8) sc_law.nd rfl (Or.inl rfl))
        (pss_one (ps_if (pt_not (pt_val (pe_call (G_law_done.mono (by decide)) hr rfl T.law_done.m T.law_done.F.kp T.law_done.b .nil pass0 (pa_cons (pe_ix (ix_listK (K := K)) (pv 6) pe_int (fun _ _ => rfl)) (pa_cons (pv 4) (pa_cons (pe_ix (ix_listK (K := K)) (pv 7) pe_int (fun _ _ => rfl)) (pa_cons (pe_op op_add pe_int (pe_op op_mul pe_int (pv 8))) pa_nil)))))))
          (pss_one (ps_ret pe_bl))
          pss_nil)))
      (pss_cons (ps_for PassesOwn.never rfl (pi_range2 rfl T.b_range (pa_cons pe_int (pa_cons (pe_callB (call_len_seqK (K := K)) rfl T.b_len bt_len (pa_cons (pv 0) pa_nil)) pa_nil))) (pg_name (i := 8) sc_law.nd rfl (Or.inl rfl))
        (pss_cons (ps_set (i := 9) sc_law.nd rfl (Or.inl rfl) (pe_call (G_law_cell_at.mono (by decide)) hr rfl T.law_cell_at.m T.law_cell_at.F.kp T.law_cell_at.b .nil pass0 (pa_cons (pv 0) (pa_cons (pv 8) pa_nil))))
        (pss_cons (ps_set (i := 10) sc_law.nd rfl (Or.inl rfl) (pe_op op_mod (pe_op op_mod (pe_op op_mul (pv 9) pe_int) pe_int) pe_int))
        (pss_one (ps_if (pt_not (pt_val (pe_call (G_law_done.mono (by decide)) hr rfl T.law_done.m T.law_done.F.kp T.law_done.b .nil pass0 (pa_cons (pe_ix (ix_listK (K := K)) (pv 6) (pv 10) (fun _ _ => rfl)) (pa_cons (pv 4) (pa_cons (pe_ix (ix_listK (K := K)) (pv 7) (pv 10) (fun _ _ => rfl)) (pa_cons (pv 9) pa_nil)))))))
          (pss_one (ps_ret pe_bl))
          pss_nil)))))
      (pss_cons (ps_for PassesOwn.never rfl (pi_range1 rfl T.b_range (pa_cons pe_int pa_nil)) (pg_name (i := 8) sc_law.nd rfl (Or.inl rfl))
        (pss_one (ps_if (pt_not (pt_val (pe_call (G_law_answered.mono (by decide)) hr rfl T.law_answered.m T.law_answered.F.kp T.law_answered.b .nil pass0 (pa_cons (pe_ix (ix_listK (K := K)) (pv 6) (pe_op op_mod (pv 8) pe_int) (fun _ _ => rfl)) (pa_cons (pv 4) (pa_cons (pe_ix (ix_listK (K := K)) (pv 7) (pe_op op_mod (pv 8) pe_int) (fun _ _ => rfl)) (pa_cons (pe_op op_fdiv (pv 8) pe_int) pa_nil)))))))
          (pss_one (ps_ret pe_bl))
          pss_nil)))
      (pss_cons (ps_for PassesOwn.never rfl (pi_listK (K := K) (pe_op op_cat (pe_ix (ix_listK (K := K)) (pe_ix (ix_listK (K := K)) (pv 7) pe_int (fun _ _ => rfl)) pe_int (fun _ _ => rfl)) (pe_ix (ix_listK (K := K)) (pe_ix (ix_listK (K := K)) (pv 7) pe_int (fun _ _ => rfl)) pe_int (fun _ _ => rfl)))) (pg_name (i := 11) sc_law.nd rfl (Or.inl rfl))
        (pss_one (ps_if (pt_cmpR (op_neLK (K := K) (hr.units0)) (pe_ix (ix_tupK (K := K)) (pv 11) pe_int (fun _ _ => rfl)) (pe_ix (ix_tupK (K := K)) (pv 11) pe_int (fun _ _ => rfl)) (nomark _))
          (pss_one (ps_ret pe_bl))
          pss_nil)))
      (pss_one (ps_ret pe_bl)))))))))))))), ?_⟩
    refine ⟨_, rfl, sc, ns, 0, rfl, hS, by decide, fun c0 _ _ => ⟨c0, 8, rfl, by decide, by decide, fun en en1 en40 => ?_⟩⟩
    refine ⟨_, rfl, sc, ns, 1, rfl, hS, by decide, fun c1 _ _ => ⟨c1, 5, rfl, by decide, by decide, fun tr tr1 tr40 => ?_⟩⟩
    refine ⟨(by show 3 ≤ sizeLine; decide), fun lh nlh => ?_⟩
    have sh : Same H (upd H lh (.lst [.int 4, .int 8, .int 40])) := .upd nlh
    have hlh : (upd H lh (.lst [.int 4, .int 8, .int 40])) lh = some (.lst [.int 4, .int 8, .int 40]) := upd_same
    generalize upd H lh (.lst [.int 4, .int 8, .int 40]) = HH at sh hlh ⊢
    refine ⟨_, rfl, sc, ns, 2, rfl, sh.seq hS, by decide, fun c2 _ _ => ⟨_, _, rfl, rfl, (by show (0 : Int) < 3; decide), ?_⟩⟩
    obtain ⟨hi, ehi, hi1, hi40⟩ := high_at (z := c2 % 3) (Int.emod_nonneg _ (by decide)) (Int.emod_lt_of_pos _ (by decide))
    refine ⟨_, _, _, _, rfl, rfl, SqL.of hlh, ehi, ?_⟩
    refine ⟨_, rfl, _, rfl, _, rfl, sc, ns, en, hi, rfl, sh.seq hS, hl, en1, en40, hi1, hi40, fun lt th HA sA nlt hth thl hthb => ?_⟩
    refine ⟨_, rfl, _, rfl, _, rfl, sc, ns, tr, hi, rfl, (sh.trans sA).seq hS, hl, tr1, tr40, hi1, hi40, fun ly rs tss HB sB nly nrs N ttl hti => ?_⟩
    have hSB := ((sh.trans sA).trans sB).seq hS
    have hti' : ∀ ks ∈ tss, Rs ks ∧ ks.length ≤ 40 := fun ks h => ⟨(hti ks h).1, (hti ks h).2.1⟩
    have hth40 : ∀ z ∈ th, 0 ≤ z ∧ z < 40 := fun v hv => by have := hthb v hv; omega
    have FT : Ft th tss [0] := { m1 := by omega, m40 := by omega, t1 := by omega, t40 := by omega, n1 := by decide, n40 := by decide, hth := hth40, hti := fun ks h => (hti ks h).1, htr := fun v hv => by rw [List.mem_singleton.mp hv]; omega }
    replace hth := sB _ _ hth
    refine ⟨(by show 2 ≤ sizeLine; decide), fun sg nsg => ?_⟩
    have sS : Same HB (upd HB sg (.tup [.ref lt, .ref ly])) := .upd nsg
    have hsg : (upd HB sg (.tup [.ref lt, .ref ly])) sg = some (.tup [.ref lt, .ref ly]) := upd_same
    generalize upd HB sg (.tup [.ref lt, .ref ly]) = HS at sS hsg ⊢
    replace hth := sS _ _ hth
    replace N := N.same sS
    replace hSB := sS.seq hSB
    refine at_set (σ' := [some (.ref sc), some (.int (en : Int)), some (.int (tr : Int)), some (.int (hi : Int)), some (.ref sg), none, none, none, none, none, none, none]) rfl ?_
    refine ⟨_, rfl, _, _, _, _, rfl, rfl, SqT.of hsg, rfl, _, _, rfl, .inl (SqL.of hth), fun lx nlx => ?_⟩
    have s1 : Same HS (upd HS lx (.lst (vI th))) := .upd nlx
    have g1 : (upd HS lx (.lst (vI th))) lx = some (.lst (vI th)) := upd_same
    generalize upd HS lx (.lst (vI th)) = H1 at s1 g1 ⊢
    have N1 := N.same s1
    refine ⟨_, rfl, _, _, _, _, rfl, rfl, SqT.of (s1 _ _ hsg), rfl, _, rfl, ⟨_, SqL.of N1.h⟩, comp_list (K := K) (a := ly) (xs := rs.map V.ref) (fun i ys H5 => Same H1 H5 ∧ ∃ qs : List Addr, ys = qs.map V.ref ∧ Cps H1 H5 qs tss i) ⟨.refl _, [], rfl, Cps.nil _ _ _⟩ ?_ ?_ ?_ ?_⟩
    · rintro i ys H5 hi ⟨s5, qs, rfl, C⟩
      exact ⟨SqL.of (s5 _ _ N1.h), by rw [List.length_map, C.1]; exact Nat.le_refl _⟩
    · rw [List.length_map, N.l]; omega
    · rintro i xv ys H5 hi hxv ⟨s5, qs, rfl, C⟩
      obtain ⟨r', ks', rfl, _, hks, hr'⟩ := N1.at hxv
      refine CTurn.no ?_
      refine ⟨_, rfl, _, _, rfl, .inl (SqL.of (s5 _ _ hr')), fun l nl => ?_⟩
      exact CN.of hi ⟨s5.new nl, qs ++ [l], by rw [List.map_append]; rfl, C.add nl (s5.free nl) hks⟩
    rintro ys H5 lz ⟨s5, qs0, rfl, C5⟩ nlz
    rw [List.length_map, N.l] at C5
    have s6' : Same H5 (upd H5 lz (.lst (qs0.map V.ref))) := .upd nlz
    have hlz6 : (upd H5 lz (.lst (qs0.map V.ref))) lz = some (.lst (qs0.map V.ref)) := upd_same
    generalize upd H5 lz (.lst (qs0.map V.ref)) = H6 at s6' hlz6 ⊢
    have s6 := s5.trans s6'
    have Z6 : NL H6 lz qs0 tss := ⟨hlz6, C5.1, fun j q ks h1 h2 => s6' _ _ (C5.2.2 j q ks h1 h2)⟩
    refine ⟨(by show 2 ≤ sizeLine; decide), fun hd nhd => ?_⟩
    have s7 : Same H6 (upd H6 hd (.tup [.ref lx, .ref lz])) := .upd nhd
    have hhd : (upd H6 hd (.tup [.ref lx, .ref lz])) hd = some (.tup [.ref lx, .ref lz]) := upd_same
    generalize upd H6 hd (.tup [.ref lx, .ref lz]) = H7 at s7 hhd ⊢
    refine at_set (σ' := [some (.ref sc), some (.int (en : Int)), some (.int (tr : Int)), some (.int (hi : Int)), some (.ref sg), some (.ref hd), none, none, none, none, none, none]) rfl ?_
    have u7 : Same HS H7 := (s1.trans s6).trans s7
    have g7 := (s6.trans s7) _ _ g1
    have Z7 := Z6.same s7
    refine ⟨_, rfl, _, _, _, _, rfl, rfl, SqT.of hhd, rfl, _, rfl, _, _, _, _, rfl, rfl, SqT.of hhd, rfl, ?_⟩
    refine fun d1 x1 nd1 nx1 ndx1 => ?_
    have sd1 : Same H7 (upd (upd H7 x1 (.own d1)) d1 (.ins t.e_Loom x1 [])) := (Same.upd nx1).over nd1
    refine ⟨d1, x1, lx, lz, qs0, th, tss, [0], rfl, upd_same, sd1 _ _ g7, Z7.same sd1, FT, fun a1 b1 c1 e1 g1 qs1 H8 b8 fr1 nds1 M1 => ⟨rfl, ?_⟩⟩
    have s8 : Same H7 H8 := fun b o e => b8 b o (fun z => by rw [z, nd1] at e; cases e) (sd1 _ _ e)
    refine ⟨_, rfl, _, _, _, _, rfl, rfl, SqT.of (s8 _ _ hhd), rfl, _, rfl, _, _, _, _, rfl, rfl, SqT.of (s8 _ _ hhd), rfl, ?_⟩
    refine fun d2 x2 nd2 nx2 ndx2 => ?_
    have sd2 : Same H8 (upd (upd H8 x2 (.own d2)) d2 (.ins t.e_Loom x2 [])) := (Same.upd nx2).over nd2
    refine ⟨d2, x2, lx, lz, qs0, th, tss, [0], rfl, upd_same, sd2 _ _ (s8 _ _ g7), (Z7.same s8).same sd2, FT, fun a2 b2 c2 e2 g2 qs2 H9 b9 fr2 nds2 M2 => ⟨rfl, ?_⟩⟩
    have s9 : Same H8 H9 := fun b o e => b9 b o (fun z => by rw [z, nd2] at e; cases e) (sd2 _ _ e)
    refine ⟨(by show 2 ≤ sizeLine; decide), fun md nmd => ?_⟩
    have s10 : Same H9 (upd H9 md (.lst [.ref d1, .ref d2])) := .upd nmd
    have hmd : (upd H9 md (.lst [.ref d1, .ref d2])) md = some (.lst [.ref d1, .ref d2]) := upd_same
    generalize upd H9 md (.lst [.ref d1, .ref d2]) = HC at s10 hmd ⊢
    refine at_set (σ' := [some (.ref sc), some (.int (en : Int)), some (.int (tr : Int)), some (.int (hi : Int)), some (.ref sg), some (.ref hd), some (.ref md), none, none, none, none, none]) rfl ?_
    refine ⟨Nat.zero_le _, fun sl nsl => ?_⟩
    have s11 : Same HC (upd HC sl (.lst [])) := .upd nsl
    have hsl : (upd HC sl (.lst [])) sl = some (.lst []) := upd_same
    generalize upd HC sl (.lst []) = Hm at s11 hsl ⊢
    refine at_set (σ' := [some (.ref sc), some (.int (en : Int)), some (.int (tr : Int)), some (.int (hi : Int)), some (.ref sg), some (.ref hd), some (.ref md), some (.ref sl), none, none, none, none]) rfl ?_
    have uC : Same HS HC := ((u7.trans s8).trans s9).trans s10
    refine ⟨2, rfl, by decide, by decide, ?_⟩
    have t2 : (2 : Int).toNat = 2 := rfl
    rw [t2]
    refine for_range (lo := 0) (n := 2) (fun i σ H2 => ∃ (v8 v9 v10 v11 : Option V) (xs : List St5), σ = [some (.ref sc), some (.int (en : Int)), some (.int (tr : Int)), some (.int (hi : Int)), some (.ref sg), some (.ref hd), some (.ref md), some (.ref sl), v8, v9, v10, v11] ∧ xs.length = i ∧ (∀ x ∈ xs, x.F H2 tss.length) ∧ (xs.flatMap St5.l).Nodup ∧ (∀ u ∈ xs.flatMap St5.l, Hm u = none) ∧ H2 sl = some (.lst (xs.map fun x => V.ref x.st)) ∧ ButL [sl] Hm H2) ⟨none, none, none, none, [], rfl, rfl, fun x hx => (by cases hx), .nil, fun u hu => (by cases hu), hsl, fun u o _ h => h⟩ ?_ ?_
    · rintro i σ H2 hi' ⟨v8, v9, v10, v11, xs, rfl, xl, xF, xn, xf, hs2, b2'⟩
      have uS : ∀ {y : Addr} {o : HO}, HC y = some o → H2 y = some o := fun {y o} h => b2' y o (fun z => by rw [List.mem_singleton.mp z, nsl] at h; cases h) (s11 _ _ h)
      have N2 : NL H2 ly rs tss := N.same fun y o h => uS (uC _ _ h)
      refine ⟨_, rfl, .inl ⟨rfl, _, SqL.of hs2⟩, ?_⟩
      refine ⟨_, rfl, _, _, _, _, rfl, rfl, SqT.of (uS (uC _ _ hsg)), rfl, _, rfl, ⟨_, SqL.of N2.h⟩, comp_list (K := K) (a := ly) (xs := rs.map V.ref) (fun i ys H3 => H3 = H2 ∧ ys = vB (List.replicate i false)) ⟨rfl, rfl⟩ ?_ ?_ ?_ ?_⟩
      · rintro i ys H3 hi ⟨rfl, rfl⟩
        exact ⟨SqL.of N2.h, by rw [vB_len, List.length_replicate]; exact Nat.le_refl _⟩
      · rw [List.length_map, N.l]; omega
      · rintro i xv ys H3 hi hxv ⟨rfl, rfl⟩
        refine CTurn.no ?_
        exact (CN.of hi ⟨rfl, by unfold vB; rw [List.replicate_succ', List.map_append]; rfl⟩ : CN (rs.map V.ref).length (fun i ys H4 => H4 = H3 ∧ ys = vB (List.replicate i false)) i (vB (List.replicate i false) ++ [.bl false]) H3)
      rintro ys H2' dw ⟨rfl, rfl⟩ ndw
      rw [List.length_map, N.l]
      have t8 : Same H2' (upd H2' dw (.lst (vB (List.replicate tss.length false)))) := .upd ndw
      have hdw8 : (upd H2' dw (.lst (vB (List.replicate tss.length false)))) dw = some (.lst (vB (List.replicate tss.length false))) := upd_same
      generalize upd H2' dw (.lst (vB (List.replicate tss.length false))) = K8 at t8 hdw8 ⊢
      refine ⟨Nat.zero_le _, fun kp nkp => ?_⟩
      have t9 : Same K8 (upd K8 kp (.lst [])) := .upd nkp
      have hkp9 : (upd K8 kp (.lst [])) kp = some (.lst []) := upd_same
      generalize upd K8 kp (.lst []) = K9 at t9 hkp9 ⊢
      refine ⟨Nat.zero_le _, fun hs nhs => ?_⟩
      have t10 : Same K9 (upd K9 hs (.lst [])) := .upd nhs
      have hhs10 : (upd K9 hs (.lst [])) hs = some (.lst []) := upd_same
      generalize upd K9 hs (.lst []) = K10 at t10 hhs10 ⊢
      refine ⟨Nat.zero_le _, fun hl' nhl => ?_⟩
      have t11 : Same K10 (upd K10 hl' (.lst [])) := .upd nhl
      have hhl11 : (upd K10 hl' (.lst [])) hl' = some (.lst []) := upd_same
      generalize upd K10 hl' (.lst []) = K11 at t11 hhl11 ⊢
      refine ⟨(by show 4 ≤ sizeLine; decide), fun st nst => ?_⟩
      have t12 : Same K11 (upd K11 st (.lst [.ref dw, .ref kp, .ref hs, .ref hl'])) := .upd nst
      have hst12 : (upd K11 st (.lst [.ref dw, .ref kp, .ref hs, .ref hl'])) st = some (.lst [.ref dw, .ref kp, .ref hs, .ref hl']) := upd_same
      generalize upd K11 st (.lst [.ref dw, .ref kp, .ref hs, .ref hl']) = K12 at t12 hst12 ⊢
      have f8 : H2' kp = none := t8.free nkp
      have f9 : H2' hs = none := t8.free (t9.free nhs)
      have f10 : H2' hl' = none := t8.free (t9.free (t10.free nhl))
      have f11 : H2' st = none := t8.free (t9.free (t10.free (t11.free nst)))
      have tA : Same H2' K12 := (((t8.trans t9).trans t10).trans t11).trans t12
      have y1 : st ≠ hs := fun z => by rw [z, t11 _ _ hhs10] at nst; cases nst
      have y2 : st ≠ hl' := fun z => by rw [z, hhl11] at nst; cases nst
      have y3 : st ≠ dw := fun z => by rw [z, (t9.trans (t10.trans t11)) _ _ hdw8] at nst; cases nst
      have y4 : st ≠ kp := fun z => by rw [z, (t10.trans t11) _ _ hkp9] at nst; cases nst
      have y5 : hs ≠ hl' := fun z => by rw [← z, hhs10] at nhl; cases nhl
      have y6 : hs ≠ dw := fun z => by rw [z, t9 _ _ hdw8] at nhs; cases nhs
      have y7 : hs ≠ kp := fun z => by rw [z, hkp9] at nhs; cases nhs
      have y8 : hl' ≠ dw := fun z => by rw [z, (t9.trans t10) _ _ hdw8] at nhl; cases nhl
      have y9 : hl' ≠ kp := fun z => by rw [z, t10 _ _ hkp9] at nhl; cases nhl
      have y10 : dw ≠ kp := fun z => by rw [← z, hdw8] at nkp; cases nkp
      refine ⟨_, _, _, rfl, rfl, tA _ _ hs2, (by rw [List.length_map]; omega), ?_⟩
      have bN : ButL [sl] K12 (upd K12 sl (.lst ((xs.map fun x => V.ref x.st) ++ [.ref st]))) := fun y o ny h => by rw [upd_ne (fun z => ny (by simp [z]))]; exact h
      have hN : (upd K12 sl (.lst ((xs.map fun x => V.ref x.st) ++ [.ref st]))) sl = some (.lst ((xs.map fun x => V.ref x.st) ++ [.ref st])) := upd_same
      generalize upd K12 sl (.lst ((xs.map fun x => V.ref x.st) ++ [.ref st])) = KN at bN hN ⊢
      have newl : ∀ u ∈ (St5.mk st hs hl' dw kp).l, H2' u = none := fun u hu => by
        unfold St5.l at hu
        simp only [List.mem_cons, List.not_mem_nil, or_false] at hu
        rcases hu with z | z | z | z | z <;> rw [z]
        · exact f11
        · exact f9
        · exact f10
        · exact ndw
        · exact f8
      have nsl' : ∀ {u : Addr}, H2' u = none → u ∉ [sl] := fun {u} h z => by rw [List.mem_singleton.mp z, hs2] at h; cases h
      have osl : ∀ x ∈ xs, ∀ u ∈ x.l, u ∉ [sl] := fun x hx u hu z => by
        have := xf u (List.mem_flatMap.mpr ⟨x, hx, hu⟩)
        rw [List.mem_singleton.mp z, hsl] at this
        cases this
      refine ⟨_, _, _, _, xs ++ [⟨st, hs, hl', dw, kp⟩], rfl, by rw [List.length_append, xl]; rfl, fun x hx => ?_, ?_, fun u hu => ?_, by rw [hN, List.map_append]; rfl, fun y o ny h => bN y o ny (tA _ _ (b2' y o ny h))⟩
      · rcases List.mem_append.mp hx with hx | hx
        · exact (xF x hx).but (X := [sl]) (fun y o ny h => bN y o ny (tA _ _ h)) (osl x hx)
        · rw [List.mem_singleton.mp hx]
          exact St5.F.but (x := ⟨st, hs, hl', dw, kp⟩) ⟨hst12, (t9.trans (t10.trans (t11.trans t12))) _ _ hdw8, (t10.trans (t11.trans t12)) _ _ hkp9, (t11.trans t12) _ _ hhs10, t12 _ _ hhl11⟩ bN fun u hu => nsl' (newl u hu)
      · rw [List.flatMap_append]
        refine List.nodup_append.mpr ⟨xn, ?_, fun u hu v hv e => ?_⟩
        · show (St5.l ⟨st, hs, hl', dw, kp⟩ ++ []).Nodup
          rw [List.append_nil]
          unfold St5.l
          simp only [List.nodup_cons, List.mem_cons, List.not_mem_nil, or_false, not_or, not_false_eq_true, List.nodup_nil, and_true]
          exact ⟨⟨y1, y2, y3, y4⟩, ⟨y5, y6, y7⟩, ⟨y8, y9⟩, y10⟩
        · obtain ⟨x, hx, hu'⟩ := List.mem_flatMap.mp hu
          obtain ⟨zs, hz⟩ := (xF x hx).is u hu'
          have hv' : v ∈ (St5.mk st hs hl' dw kp).l := by simpa using hv
          rw [e, newl v hv'] at hz
          cases hz
      · rw [List.flatMap_append] at hu
        rcases List.mem_append.mp hu with hu | hu
        · exact xf u hu
        · have hu' : u ∈ (St5.mk st hs hl' dw kp).l := by simpa using hu
          exact b2'.free (nsl' (newl u hu')) (newl u hu')
    rintro σ H2 ⟨v8, v9, v10, v11, xs, rfl, xl, xF, xn, xf, hs2, b2'⟩
    obtain ⟨p1, p2, rfl⟩ : ∃ p1 p2, xs = [p1, p2] := by
      match xs, xl with
      | [p1, p2], _ => exact ⟨p1, p2, rfl⟩
    have kC : Same HC H2 := fun y o h => b2' y o (fun z => by rw [List.mem_singleton.mp z, nsl] at h; cases h) (s11 _ _ h)
    have MC1 := (M1.same s9).same s10
    have MC2 := M2.same s10
    have fl : [p1, p2].flatMap St5.l = p1.l ++ p2.l := by simp
    rw [fl] at xn xf
    have O2n : ∀ u ∈ (Fx.own ⟨d2, x2, a2, b2, c2, e2, g2, p2.st, p2.hs, p2.hl, qs2, th, tss⟩), H8 u = none := fun u hu => by
      unfold Fx.own at hu
      rcases List.mem_cons.mp hu with z | z
      · rw [z]; exact nd2
      · exact sd2.free (fr2 u z)
    have O1n : ∀ u ∈ (Fx.own ⟨d1, x1, a1, b1, c1, e1, g1, p1.st, p1.hs, p1.hl, qs1, th, tss⟩), H7 u = none := fun u hu => by
      unfold Fx.own at hu
      rcases List.mem_cons.mp hu with z | z
      · rw [z]; exact nd1
      · exact sd1.free (fr1 u z)
    have TW := two_start (f1 := ⟨d1, x1, a1, b1, c1, e1, g1, p1.st, p1.hs, p1.hl, qs1, th, tss⟩) (f2 := ⟨d2, x2, a2, b2, c2, e2, g2, p2.st, p2.hs, p2.hl, qs2, th, tss⟩) (p1 := p1) (p2 := p2) rfl rfl MC1 MC2 nds1 nds2 (loom_is M1) O2n kC (xF p1 (by simp)) (xF p2 (by simp)) xn (fun u hu => s11.free (xf u hu))
    have mul : ∀ u ∈ (Fx.mu ⟨d1, x1, a1, b1, c1, e1, g1, p1.st, p1.hs, p1.hl, qs1, th, tss⟩ p1.dw p1.kp [] ++ Fx.mu ⟨d2, x2, a2, b2, c2, e2, g2, p2.st, p2.hs, p2.hl, qs2, th, tss⟩ p2.dw p2.kp []), HS u = none ∧ u ≠ sl ∧ u ≠ md := fun u hu => by
      have a3 : ∀ {u : Addr}, H7 u = none → H9 u ≠ none → HS u = none ∧ u ≠ sl ∧ u ≠ md := fun {u} h1 h2 => ⟨u7.free h1, fun z => h2 (by rw [z]; exact s10.free nsl), fun z => h2 (by rw [z]; exact nmd)⟩
      have a4 : ∀ {u : Addr}, Hm u = none → HS u = none ∧ u ≠ sl ∧ u ≠ md := fun {u} h => ⟨(uC.trans s11).free h, fun z => (by rw [z, hsl] at h; cases h), fun z => (by rw [z, s11 _ _ hmd] at h; cases h)⟩
      have i1 : ∀ v ∈ [c1, e1, g1], H7 v = none ∧ H9 v ≠ none := fun v hv => by
        have hv' : v ∈ Fx.own ⟨d1, x1, a1, b1, c1, e1, g1, p1.st, p1.hs, p1.hl, qs1, th, tss⟩ := by
          unfold Fx.own
          simp only [List.mem_cons, List.not_mem_nil, or_false] at hv ⊢
          rcases hv with z | z | z <;> simp [z]
        exact ⟨O1n v hv', fun h => loom_is (f := ⟨d1, x1, a1, b1, c1, e1, g1, p1.st, p1.hs, p1.hl, qs1, th, tss⟩) M1 v hv' (s9.free h)⟩
      have i2 : ∀ v ∈ [c2, e2, g2], H7 v = none ∧ H9 v ≠ none := fun v hv => by
        have hv' : v ∈ Fx.own ⟨d2, x2, a2, b2, c2, e2, g2, p2.st, p2.hs, p2.hl, qs2, th, tss⟩ := by
          unfold Fx.own
          simp only [List.mem_cons, List.not_mem_nil, or_false] at hv ⊢
          rcases hv with z | z | z <;> simp [z]
        exact ⟨s8.free (O2n v hv'), loom_is (f := ⟨d2, x2, a2, b2, c2, e2, g2, p2.st, p2.hs, p2.hl, qs2, th, tss⟩) M2 v hv'⟩
      rcases List.mem_append.mp hu with h | h
      · rcases List.mem_append.mp (show u ∈ [c1, e1, g1] ++ p1.l from h) with h | h
        · exact a3 (i1 u h).1 (i1 u h).2
        · exact a4 (xf u (List.mem_append_left _ h))
      · rcases List.mem_append.mp (show u ∈ [c2, e2, g2] ++ p2.l from h) with h | h
        · exact a3 (i2 u h).1 (i2 u h).2
        · exact a4 (xf u (List.mem_append_right _ h))
    have SB : Same HS (off (Fx.mu ⟨d1, x1, a1, b1, c1, e1, g1, p1.st, p1.hs, p1.hl, qs1, th, tss⟩ p1.dw p1.kp [] ++ Fx.mu ⟨d2, x2, a2, b2, c2, e2, g2, p2.st, p2.hs, p2.hl, qs2, th, tss⟩ p2.dw p2.kp []) H2) := fun y o h => off_some (kC _ _ (uC _ _ h)) fun z => by rw [(mul y z).1] at h; cases h
    have SM : off (Fx.mu ⟨d1, x1, a1, b1, c1, e1, g1, p1.st, p1.hs, p1.hl, qs1, th, tss⟩ p1.dw p1.kp [] ++ Fx.mu ⟨d2, x2, a2, b2, c2, e2, g2, p2.st, p2.hs, p2.hl, qs2, th, tss⟩ p2.dw p2.kp []) H2 md = some (.lst [.ref d1, .ref d2]) := off_some (kC _ _ hmd) fun z => (mul md z).2.2 rfl
    have SL : off (Fx.mu ⟨d1, x1, a1, b1, c1, e1, g1, p1.st, p1.hs, p1.hl, qs1, th, tss⟩ p1.dw p1.kp [] ++ Fx.mu ⟨d2, x2, a2, b2, c2, e2, g2, p2.st, p2.hs, p2.hl, qs2, th, tss⟩ p2.dw p2.kp []) H2 sl = some (.lst [.ref p1.st, .ref p2.st]) := off_some hs2 fun z => (mul sl z).2.1 rfl
    generalize off (Fx.mu ⟨d1, x1, a1, b1, c1, e1, g1, p1.st, p1.hs, p1.hl, qs1, th, tss⟩ p1.dw p1.kp [] ++ Fx.mu ⟨d2, x2, a2, b2, c2, e2, g2, p2.st, p2.hs, p2.hl, qs2, th, tss⟩ p2.dw p2.kp []) H2 = HX at TW SB SM SL
    have G1 : Stg HX sg lt ly rs ⟨d1, x1, a1, b1, c1, e1, g1, p1.st, p1.hs, p1.hl, qs1, th, tss⟩ := ⟨SB _ _ hsg, SB _ _ hth, N.same SB, (by show 1 ≤ tss.length; omega), (by show tss.length ≤ 40; omega), (by show th.length ≤ 40; omega), hti'⟩
    have G2 : Stg HX sg lt ly rs ⟨d2, x2, a2, b2, c2, e2, g2, p2.st, p2.hs, p2.hl, qs2, th, tss⟩ := ⟨SB _ _ hsg, SB _ _ hth, N.same SB, (by show 1 ≤ tss.length; omega), (by show tss.length ≤ 40; omega), (by show th.length ≤ 40; omega), hti'⟩
    have hSX := SB.seq hSB
    clear mul xn xf fl O1n O2n MC1 MC2 kC xF hs2 b2' xl
    have bx : ∀ {s1 s2 : Sd} {H' : Hp} {n' : Nat}, Wv t HX ⟨d1, x1, a1, b1, c1, e1, g1, p1.st, p1.hs, p1.hl, qs1, th, tss⟩ s1 H' n' (Fx.mu ⟨d2, x2, a2, b2, c2, e2, g2, p2.st, p2.hs, p2.hl, qs2, th, tss⟩ s2.dw s2.kp s2.es) → Same HX H' := fun W' => W'.base.trans off_same
    have at2 : ∀ {z : Int}, 0 ≤ z → z < 2 → z = 0 ∨ z = 1 := fun h1 h2 => by omega
    obtain ⟨w1, w2, V1, V2⟩ := TW
    refine ⟨_, rfl, sc, ns, 0, rfl, (bx V1).seq hSX, by decide, fun c3 _ _ => ⟨_, _, rfl, rfl, ⟨by decide, by decide⟩, _, _, rfl, rfl, (by show (0 : Int) < 42; decide), ?_⟩⟩
    obtain ⟨n1, en1', hn1⟩ := nat_of_mod (c3 / 1280) (m := 42) (by decide)
    have en1'' : c3 / 1280 % 42 = (n1 : Int) := en1'
    refine ⟨(n1 : Int), (by show [V.int (c3 / 1280 % 42)] = _; rw [en1'']), by omega, by omega, ?_⟩
    rw [Int.toNat_natCast]
    refine for_range (lo := 0) (n := n1) (fun i σ H3 => ∃ (v8 v9 v10 v11 : Option V), σ = [some (.ref sc), some (.int (en : Int)), some (.int (tr : Int)), some (.int (hi : Int)), some (.ref sg), some (.ref hd), some (.ref md), some (.ref sl), v8, v9, v10, v11] ∧ Two t HX ⟨d1, x1, a1, b1, c1, e1, g1, p1.st, p1.hs, p1.hl, qs1, th, tss⟩ ⟨d2, x2, a2, b2, c2, e2, g2, p2.st, p2.hs, p2.hl, qs2, th, tss⟩ H3 (2 * i)) ⟨v8, v9, v10, v11, rfl, _, _, V1, V2⟩ ?_ ?_
    · rintro i σ H3 hi' ⟨v8, v9, v10, v11, rfl, w1, w2, V1, V2⟩
      refine ⟨_, rfl, _, _, _, _, rfl, rfl, SqL.of (bx V1 _ _ SM), rfl, _, rfl, _, rfl, _, _, _, _, rfl, rfl, SqL.of (bx V1 _ _ SL), rfl, _, rfl, _, _, rfl, rfl, .inl ⟨by omega, by omega⟩, _, _, rfl, rfl, HX, ⟨d1, x1, a1, b1, c1, e1, g1, p1.st, p1.hs, p1.hl, qs1, th, tss⟩, w1, 2 * i, _, sg, lt, ly, rs, _, rfl, V1, G1, by omega, fun s2 H4 V4 X4 => ?_⟩
      refine ⟨_, rfl, ?_⟩
      refine iteF ?_
      exact ⟨_, _, _, _, rfl, Two.one (by omega) V2 V4 X4⟩
    rintro σ H3 ⟨v8, v9, v10, v11, rfl, w1, w2, V1, V2⟩
    refine ⟨_, rfl, _, _, rfl, .inl ((bx V1).seq hSX), _, _, rfl, ⟨by omega, by omega, by omega, by rw [vI_len]; omega⟩, ?_⟩
    rw [vI_len]
    refine for_range (lo := 3) (n := ((ns.length : Int) - 3).toNat) (fun i σ H3 => ∃ (v8 v9 v10 v11 : Option V), σ = [some (.ref sc), some (.int (en : Int)), some (.int (tr : Int)), some (.int (hi : Int)), some (.ref sg), some (.ref hd), some (.ref md), some (.ref sl), v8, v9, v10, v11] ∧ Two t HX ⟨d1, x1, a1, b1, c1, e1, g1, p1.st, p1.hs, p1.hl, qs1, th, tss⟩ ⟨d2, x2, a2, b2, c2, e2, g2, p2.st, p2.hs, p2.hl, qs2, th, tss⟩ H3 (90 + 2 * i)) ⟨v8, v9, v10, v11, rfl, _, _, V1.mono (by omega), V2.mono (by omega)⟩ ?_ ?_
    · rintro i σ H3 hi' ⟨v8, v9, v10, v11, rfl, w1, w2, V1, V2⟩
      refine ⟨_, rfl, _, rfl, sc, ns, _, rfl, (bx V1).seq hSX, by omega, fun cl cl0 cl1 => ?_⟩
      refine at_set (σ' := [some (.ref sc), some (.int (en : Int)), some (.int (tr : Int)), some (.int (hi : Int)), some (.ref sg), some (.ref hd), some (.ref md), some (.ref sl), some (.int (3 + (i : Int))), some (.int cl), v10, v11]) rfl ?_
      refine ⟨_, rfl, _, _, rfl, rfl, .inr ⟨by decide, by decide⟩, _, _, rfl, rfl, (by show (0 : Int) < 2147483629; decide), _, _, rfl, rfl, (by show (0 : Int) < 2; decide), ?_⟩
      obtain ⟨at', eat⟩ : ∃ at', at' = cl * 16807 % 2147483629 % 2 := ⟨_, rfl⟩
      refine at_set (σ' := [some (.ref sc), some (.int (en : Int)), some (.int (tr : Int)), some (.int (hi : Int)), some (.ref sg), some (.ref hd), some (.ref md), some (.ref sl), some (.int (3 + (i : Int))), some (.int cl), some (.int at'), v11]) (by rw [eat]; rfl) ?_
      have ha0 : 0 ≤ at' := by rw [eat]; exact Int.emod_nonneg _ (by decide)
      have ha2 : at' < 2 := by rw [eat]; exact Int.emod_lt_of_pos _ (by decide)
      clear eat
      rcases at2 ha0 ha2 with rfl | rfl
      · refine ⟨_, rfl, _, rfl, _, _, _, _, rfl, rfl, SqL.of (bx V1 _ _ SM), rfl, _, rfl, _, rfl, _, rfl, _, _, _, _, rfl, rfl, SqL.of (bx V1 _ _ SL), rfl, _, rfl, HX, ⟨d1, x1, a1, b1, c1, e1, g1, p1.st, p1.hs, p1.hl, qs1, th, tss⟩, w1, _, _, sg, lt, ly, rs, _, rfl, V1, G1, by omega, fun s2 H4 V4 X4 => ?_⟩
        refine ⟨_, rfl, ?_⟩
        refine iteF ?_
        exact ⟨_, _, _, _, rfl, Two.mono (by omega) (Two.one (by omega) V2 V4 X4)⟩
      · refine ⟨_, rfl, _, rfl, _, _, _, _, rfl, rfl, SqL.of (bx V1 _ _ SM), rfl, _, rfl, _, rfl, _, rfl, _, _, _, _, rfl, rfl, SqL.of (bx V1 _ _ SL), rfl, _, rfl, HX, ⟨d2, x2, a2, b2, c2, e2, g2, p2.st, p2.hs, p2.hl, qs2, th, tss⟩, w2, _, _, sg, lt, ly, rs, _, rfl, V2, G2, by omega, fun s2 H4 V4 X4 => ?_⟩
        refine ⟨_, rfl, ?_⟩
        refine iteF ?_
        exact ⟨_, _, _, _, rfl, Two.mono (by omega) (Two.two (by omega) V1 V4 X4)⟩
    rintro σ H3 ⟨v8, v9, v10, v11, rfl, w1, w2, V1, V2⟩
    refine ⟨10, rfl, by decide, by decide, ?_⟩
    have t10 : (10 : Int).toNat = 10 := rfl
    rw [t10]
    refine for_range (lo := 0) (n := 10) (fun i σ H3 => ∃ (v8 v9 v10 v11 : Option V), σ = [some (.ref sc), some (.int (en : Int)), some (.int (tr : Int)), some (.int (hi : Int)), some (.ref sg), some (.ref hd), some (.ref md), some (.ref sl), v8, v9, v10, v11] ∧ Two t HX ⟨d1, x1, a1, b1, c1, e1, g1, p1.st, p1.hs, p1.hl, qs1, th, tss⟩ ⟨d2, x2, a2, b2, c2, e2, g2, p2.st, p2.hs, p2.hl, qs2, th, tss⟩ H3 (300 + i)) ⟨v8, v9, v10, v11, rfl, _, _, V1.mono (by omega), V2.mono (by omega)⟩ ?_ ?_
    · rintro i σ H3 hi' ⟨v8, v9, v10, v11, rfl, w1, w2, V1, V2⟩
      obtain ⟨q2, eq2⟩ : ∃ q2, q2 = (0 + (i : Int)) % 2 := ⟨_, rfl⟩
      have ha0 : 0 ≤ q2 := by omega
      have ha2 : q2 < 2 := by omega
      rcases at2 ha0 ha2 with rfl | rfl
      · refine ⟨_, rfl, _, rfl, _, _, rfl, rfl, (by show (0 : Int) < 2; decide), _, _, _, _, rfl, rfl, SqL.of (bx V1 _ _ SM), (by rw [← eq2]; rfl), _, rfl, _, rfl, _, rfl, _, _, rfl, rfl, (by show (0 : Int) < 2; decide), _, _, _, _, rfl, rfl, SqL.of (bx V1 _ _ SL), (by rw [← eq2]; rfl), _, rfl, _, _, rfl, rfl, ⟨by decide, by decide⟩, HX, ⟨d1, x1, a1, b1, c1, e1, g1, p1.st, p1.hs, p1.hl, qs1, th, tss⟩, w1, _, _, sg, lt, ly, rs, _, rfl, V1, G1, by omega, fun s2 H4 V4 X4 => ?_⟩
        refine ⟨_, rfl, ?_⟩
        refine iteF ?_
        exact ⟨_, _, _, _, rfl, Two.one (by omega) V2 V4 X4⟩
      · refine ⟨_, rfl, _, rfl, _, _, rfl, rfl, (by show (0 : Int) < 2; decide), _, _, _, _, rfl, rfl, SqL.of (bx V1 _ _ SM), (by rw [← eq2]; rfl), _, rfl, _, rfl, _, rfl, _, _, rfl, rfl, (by show (0 : Int) < 2; decide), _, _, _, _, rfl, rfl, SqL.of (bx V1 _ _ SL), (by rw [← eq2]; rfl), _, rfl, _, _, rfl, rfl, ⟨by decide, by decide⟩, HX, ⟨d2, x2, a2, b2, c2, e2, g2, p2.st, p2.hs, p2.hl, qs2, th, tss⟩, w2, _, _, sg, lt, ly, rs, _, rfl, V2, G2, by omega, fun s2 H4 V4 X4 => ?_⟩
        refine ⟨_, rfl, ?_⟩
        refine iteF ?_
        exact ⟨_, _, _, _, rfl, Two.two (by omega) V1 V4 X4⟩
    rintro σ H3 ⟨v8, v9, v10, v11, rfl, w1, w2, V1, V2⟩
    have hh1 : H3 p1.hl = some (.lst (w1.hd.map fun x => V.ref x.q)) := V1.hhl
    have hh2 : H3 p2.hl = some (.lst (w2.hd.map fun x => V.ref x.q)) := V2.hhl
    have st1 : H3 p1.st = some (.lst [.ref w1.dw, .ref w1.kp, .ref p1.hs, .ref p1.hl]) := V1.st
    have st2 : H3 p2.st = some (.lst [.ref w2.dw, .ref w2.kp, .ref p2.hs, .ref p2.hl]) := V2.st
    have h1n := V1.hn
    have h2n := V2.hn
    have S3 := bx V1 _ _ SL
    refine ⟨_, rfl, _, _, _, _, rfl, rfl, SqL.of S3, rfl, _, _, _, _, rfl, rfl, SqL.of st1, rfl, _, rfl, _, _, _, _, rfl, rfl, SqL.of S3, rfl, _, _, _, _, rfl, rfl, SqL.of st2, rfl, _, _, _, _, rfl, rfl, hh1, hh2, (by rw [List.length_map, List.length_map]; omega), fun lc nlc => ?_⟩
    have hlc : (upd H3 lc (.lst ((w1.hd.map fun x => V.ref x.q) ++ w2.hd.map fun x => V.ref x.q))) lc = some (.lst ((w1.hd.map fun x => V.ref x.q) ++ w2.hd.map fun x => V.ref x.q)) := upd_same
    have sc3 : Same H3 (upd H3 lc (.lst ((w1.hd.map fun x => V.ref x.q) ++ w2.hd.map fun x => V.ref x.q))) := .upd nlc
    generalize upd H3 lc (.lst ((w1.hd.map fun x => V.ref x.q) ++ w2.hd.map fun x => V.ref x.q)) = H4 at hlc sc3 ⊢
    have hf4 : ∀ x ∈ w1.hd ++ w2.hd, HdF H4 x := fun x hx => by
      rcases List.mem_append.mp hx with h | h
      · exact ((V1.hf x h).same off_same).same sc3
      · exact ((V2.hf x h).same off_same).same sc3
    rw [← List.map_append] at hlc
    refine ⟨_, rfl, ⟨_, SqL.of hlc⟩, for_list (K := K) (a := lc) (xs := (w1.hd ++ w2.hd).map fun x => V.ref x.q) (fun i σ H5 => ∃ v11, σ = [some (.ref sc), some (.int (en : Int)), some (.int (tr : Int)), some (.int (hi : Int)), some (.ref sg), some (.ref hd), some (.ref md), some (.ref sl), v8, v9, v10, v11] ∧ H5 = H4) ⟨_, rfl, rfl⟩ (fun i σ H5 _ ⟨_, _, q⟩ => q ▸ SqL.of hlc) ?_ ?_⟩
    · rintro i xv σ H5 hx ⟨v11, rfl, rfl⟩
      rw [List.getElem?_map] at hx
      obtain ⟨x, hx', rfl⟩ := Option.map_eq_some_iff.mp hx
      have X4 := hf4 x (List.mem_of_getElem? hx')
      refine ⟨_, rfl, _, _, _, _, rfl, rfl, SqT.of X4.q, rfl, _, rfl, _, _, _, _, rfl, rfl, SqT.of X4.q, rfl, _, _, _, _, rfl, rfl, SqL.of X4.u, SqL.of X4.v, X4.f, X4.f, _, rfl, ?_⟩
      rw [eqL_refl X4.f]
      refine iteF ?_
      exact ⟨_, rfl, rfl⟩
    · rintro σ H5 ⟨v11, rfl, rfl⟩
      exact k _
end
theorem law_mk {P : Program} {w : World} {K : PySem.W.Frag} {h : Heap} {mg : Str → Option Value} {fa : Addr} {f_check_setting : Addr} {od_check_setting an_check_setting : Option Addr} {sl_check_setting : Array (Option Value)} {oc_check_setting kV_check_setting dc_check_setting pm_check_setting cd_check_setting ct_check_setting : Value}
    {f_check_count : Addr} {od_check_count an_check_count : Option Addr} {sl_check_count : Array (Option Value)} {oc_check_count kV_check_count dc_check_count pm_check_count cd_check_count ct_check_count : Value}
    {f_check_shaft : Addr} {od_check_shaft an_check_shaft : Option Addr} {sl_check_shaft : Array (Option Value)} {oc_check_shaft kV_check_shaft dc_check_shaft pm_check_shaft cd_check_shaft ct_check_shaft : Value}
    {f_check_tie : Addr} {od_check_tie an_check_tie : Option Addr} {sl_check_tie : Array (Option Value)} {oc_check_tie kV_check_tie dc_check_tie pm_check_tie cd_check_tie ct_check_tie : Value}
    {f_check_treading : Addr} {od_check_treading an_check_treading : Option Addr} {sl_check_treading : Array (Option Value)} {oc_check_treading kV_check_treading dc_check_treading pm_check_treading cd_check_treading ct_check_treading : Value}
    {f_shed_over : Addr} {od_shed_over an_shed_over : Option Addr} {sl_shed_over : Array (Option Value)} {oc_shed_over kV_shed_over dc_shed_over pm_shed_over cd_shed_over ct_shed_over : Value}
    {f_unlike : Addr} {od_unlike an_unlike : Option Addr} {sl_unlike : Array (Option Value)} {oc_unlike kV_unlike dc_unlike pm_unlike cd_unlike ct_unlike : Value}
    {f_law_cell_at : Addr} {od_law_cell_at an_law_cell_at : Option Addr} {sl_law_cell_at : Array (Option Value)} {oc_law_cell_at kV_law_cell_at dc_law_cell_at pm_law_cell_at cd_law_cell_at ct_law_cell_at : Value}
    {f_law_sums : Addr} {od_law_sums an_law_sums : Option Addr} {sl_law_sums : Array (Option Value)} {oc_law_sums kV_law_sums dc_law_sums pm_law_sums cd_law_sums ct_law_sums : Value}
    {f_law_size : Addr} {od_law_size an_law_size : Option Addr} {sl_law_size : Array (Option Value)} {oc_law_size kV_law_size dc_law_size pm_law_size cd_law_size ct_law_size : Value}
    {f_law_threading : Addr} {od_law_threading an_law_threading : Option Addr} {sl_law_threading : Array (Option Value)} {oc_law_threading kV_law_threading dc_law_threading pm_law_threading cd_law_threading ct_law_threading : Value}
    {f_law_tie : Addr} {od_law_tie an_law_tie : Option Addr} {sl_law_tie : Array (Option Value)} {oc_law_tie kV_law_tie dc_law_tie pm_law_tie cd_law_tie ct_law_tie : Value}
    {f_law_ties : Addr} {od_law_ties an_law_ties : Option Addr} {sl_law_ties : Array (Option Value)} {oc_law_ties kV_law_ties dc_law_ties pm_law_ties cd_law_ties ct_law_ties : Value}
    {f_law_lifted : Addr} {od_law_lifted an_law_lifted : Option Addr} {sl_law_lifted : Array (Option Value)} {oc_law_lifted kV_law_lifted dc_law_lifted pm_law_lifted cd_law_lifted ct_law_lifted : Value}
    {f_law_shed : Addr} {od_law_shed an_law_shed : Option Addr} {sl_law_shed : Array (Option Value)} {oc_law_shed kV_law_shed dc_law_shed pm_law_shed cd_law_shed ct_law_shed : Value}
    {f_law_try : Addr} {od_law_try an_law_try : Option Addr} {sl_law_try : Array (Option Value)} {oc_law_try kV_law_try dc_law_try pm_law_try cd_law_try ct_law_try : Value}
    {f_law_cannot : Addr} {od_law_cannot an_law_cannot : Option Addr} {sl_law_cannot : Array (Option Value)} {oc_law_cannot kV_law_cannot dc_law_cannot pm_law_cannot cd_law_cannot ct_law_cannot : Value}
    {f_law_moved_on : Addr} {od_law_moved_on an_law_moved_on : Option Addr} {sl_law_moved_on : Array (Option Value)} {oc_law_moved_on kV_law_moved_on dc_law_moved_on pm_law_moved_on cd_law_moved_on ct_law_moved_on : Value}
    {f_law_same : Addr} {od_law_same an_law_same : Option Addr} {sl_law_same : Array (Option Value)} {oc_law_same kV_law_same dc_law_same pm_law_same cd_law_same ct_law_same : Value}
    {f_law_list : Addr} {od_law_list an_law_list : Option Addr} {sl_law_list : Array (Option Value)} {oc_law_list kV_law_list dc_law_list pm_law_list cd_law_list ct_law_list : Value}
    {f_law_answered : Addr} {od_law_answered an_law_answered : Option Addr} {sl_law_answered : Array (Option Value)} {oc_law_answered kV_law_answered dc_law_answered pm_law_answered cd_law_answered ct_law_answered : Value}
    {f_law_treadle : Addr} {od_law_treadle an_law_treadle : Option Addr} {sl_law_treadle : Array (Option Value)} {oc_law_treadle kV_law_treadle dc_law_treadle pm_law_treadle cd_law_treadle ct_law_treadle : Value}
    {f_law_done : Addr} {od_law_done an_law_done : Option Addr} {sl_law_done : Array (Option Value)} {oc_law_done kV_law_done dc_law_done pm_law_done cd_law_done ct_law_done : Value}
    {f_law : Addr} {od_law an_law : Option Addr} {sl_law : Array (Option Value)} {oc_law kV_law dc_law pm_law cd_law ct_law : Value}
    {q_MOST_STRANDS : Tok}
    {q_MOST_SHAFTS : Tok}
    {e_WeaveError : Addr}
    {e_TooLarge : Addr}
    {e_NoDraft : Addr}
    {e_NoDeed : Addr}
    {e_Draft : Addr}
    {e_Loom : Addr}
    {f_Draft___init__ : Addr} {od_Draft___init__ an_Draft___init__ : Option Addr} {sl_Draft___init__ : Array (Option Value)} {oc_Draft___init__ kV_Draft___init__ dc_Draft___init__ pm_Draft___init__ cd_Draft___init__ ct_Draft___init__ : Value}
    {f_Loom___init__ : Addr} {od_Loom___init__ an_Loom___init__ : Option Addr} {sl_Loom___init__ : Array (Option Value)} {oc_Loom___init__ kV_Loom___init__ dc_Loom___init__ pm_Loom___init__ cd_Loom___init__ ct_Loom___init__ : Value}
    {f_Loom_press : Addr} {od_Loom_press an_Loom_press : Option Addr} {sl_Loom_press : Array (Option Value)} {oc_Loom_press kV_Loom_press dc_Loom_press pm_Loom_press cd_Loom_press ct_Loom_press : Value}
    {f_Loom_lift : Addr} {od_Loom_lift an_Loom_lift : Option Addr} {sl_Loom_lift : Array (Option Value)} {oc_Loom_lift kV_Loom_lift dc_Loom_lift pm_Loom_lift cd_Loom_lift ct_Loom_lift : Value}
    {f_Loom_throw : Addr} {od_Loom_throw an_Loom_throw : Option Addr} {sl_Loom_throw : Array (Option Value)} {oc_Loom_throw kV_Loom_throw dc_Loom_throw pm_Loom_throw cd_Loom_throw ct_Loom_throw : Value}
    {f_Loom_unthrow : Addr} {od_Loom_unthrow an_Loom_unthrow : Option Addr} {sl_Loom_unthrow : Array (Option Value)} {oc_Loom_unthrow kV_Loom_unthrow dc_Loom_unthrow pm_Loom_unthrow cd_Loom_unthrow ct_Loom_unthrow : Value}
    {f_Loom_undo : Addr} {od_Loom_undo an_Loom_undo : Option Addr} {sl_Loom_undo : Array (Option Value)} {oc_Loom_undo kV_Loom_undo dc_Loom_undo pm_Loom_undo cd_Loom_undo ct_Loom_undo : Value}
    {f_Loom_deeds_done : Addr} {od_Loom_deeds_done an_Loom_deeds_done : Option Addr} {sl_Loom_deeds_done : Array (Option Value)} {oc_Loom_deeds_done kV_Loom_deeds_done dc_Loom_deeds_done pm_Loom_deeds_done cd_Loom_deeds_done ct_Loom_deeds_done : Value}
    {f_Loom_treadles_down : Addr} {od_Loom_treadles_down an_Loom_treadles_down : Option Addr} {sl_Loom_treadles_down : Array (Option Value)} {oc_Loom_treadles_down kV_Loom_treadles_down dc_Loom_treadles_down pm_Loom_treadles_down cd_Loom_treadles_down ct_Loom_treadles_down : Value}
    {f_Loom_shed : Addr} {od_Loom_shed an_Loom_shed : Option Addr} {sl_Loom_shed : Array (Option Value)} {oc_Loom_shed kV_Loom_shed dc_Loom_shed pm_Loom_shed cd_Loom_shed ct_Loom_shed : Value}
    {f_Loom_cloth : Addr} {od_Loom_cloth an_Loom_cloth : Option Addr} {sl_Loom_cloth : Array (Option Value)} {oc_Loom_cloth kV_Loom_cloth dc_Loom_cloth pm_Loom_cloth cd_Loom_cloth ct_Loom_cloth : Value}
    {f_Loom_colours : Addr} {od_Loom_colours an_Loom_colours : Option Addr} {sl_Loom_colours : Array (Option Value)} {oc_Loom_colours kV_Loom_colours dc_Loom_colours pm_Loom_colours cd_Loom_colours ct_Loom_colours : Value}
    {f_Loom_draft : Addr} {od_Loom_draft an_Loom_draft : Option Addr} {sl_Loom_draft : Array (Option Value)} {oc_Loom_draft kV_Loom_draft dc_Loom_draft pm_Loom_draft cd_Loom_draft ct_Loom_draft : Value}
    {f_Loom_lifted_shafts : Addr} {od_Loom_lifted_shafts an_Loom_lifted_shafts : Option Addr} {sl_Loom_lifted_shafts : Array (Option Value)} {oc_Loom_lifted_shafts kV_Loom_lifted_shafts dc_Loom_lifted_shafts pm_Loom_lifted_shafts cd_Loom_lifted_shafts ct_Loom_lifted_shafts : Value}
    (X : K.In h) (G : h.Ns mainGlobals mg) (hfa : mg "law" = some (.ref fa))
    (a_check_setting : PySem.W.nsIn K mainGlobals "check_setting" = some (some (.ref f_check_setting)))
    (l_check_setting : K.lookup f_check_setting = some ⟨oc_check_setting, od_check_setting, .func (PySem.W.fnOf "check_setting" "check_setting" (defArgs s_check_setting) (defBody s_check_setting) (defScope s_check_setting) .none kV_check_setting dc_check_setting pm_check_setting an_check_setting cd_check_setting ct_check_setting), sl_check_setting⟩)
    (c_check_setting : PySem.W.codeIn K cd_check_setting "check_setting" = true)
    (k_check_setting : PySem.W.keepIn K (.ref f_check_setting) = true)
    (a_check_count : PySem.W.nsIn K mainGlobals "check_count" = some (some (.ref f_check_count)))
    (l_check_count : K.lookup f_check_count = some ⟨oc_check_count, od_check_count, .func (PySem.W.fnOf "check_count" "check_count" (defArgs s_check_count) (defBody s_check_count) (defScope s_check_count) .none kV_check_count dc_check_count pm_check_count an_check_count cd_check_count ct_check_count), sl_check_count⟩)
    (c_check_count : PySem.W.codeIn K cd_check_count "check_count" = true)
    (k_check_count : PySem.W.keepIn K (.ref f_check_count) = true)
    (a_check_shaft : PySem.W.nsIn K mainGlobals "check_shaft" = some (some (.ref f_check_shaft)))
    (l_check_shaft : K.lookup f_check_shaft = some ⟨oc_check_shaft, od_check_shaft, .func (PySem.W.fnOf "check_shaft" "check_shaft" (defArgs s_check_shaft) (defBody s_check_shaft) (defScope s_check_shaft) .none kV_check_shaft dc_check_shaft pm_check_shaft an_check_shaft cd_check_shaft ct_check_shaft), sl_check_shaft⟩)
    (c_check_shaft : PySem.W.codeIn K cd_check_shaft "check_shaft" = true)
    (k_check_shaft : PySem.W.keepIn K (.ref f_check_shaft) = true)
    (a_check_tie : PySem.W.nsIn K mainGlobals "check_tie" = some (some (.ref f_check_tie)))
    (l_check_tie : K.lookup f_check_tie = some ⟨oc_check_tie, od_check_tie, .func (PySem.W.fnOf "check_tie" "check_tie" (defArgs s_check_tie) (defBody s_check_tie) (defScope s_check_tie) .none kV_check_tie dc_check_tie pm_check_tie an_check_tie cd_check_tie ct_check_tie), sl_check_tie⟩)
    (c_check_tie : PySem.W.codeIn K cd_check_tie "check_tie" = true)
    (k_check_tie : PySem.W.keepIn K (.ref f_check_tie) = true)
    (a_check_treading : PySem.W.nsIn K mainGlobals "check_treading" = some (some (.ref f_check_treading)))
    (l_check_treading : K.lookup f_check_treading = some ⟨oc_check_treading, od_check_treading, .func (PySem.W.fnOf "check_treading" "check_treading" (defArgs s_check_treading) (defBody s_check_treading) (defScope s_check_treading) .none kV_check_treading dc_check_treading pm_check_treading an_check_treading cd_check_treading ct_check_treading), sl_check_treading⟩)
    (c_check_treading : PySem.W.codeIn K cd_check_treading "check_treading" = true)
    (k_check_treading : PySem.W.keepIn K (.ref f_check_treading) = true)
    (a_shed_over : PySem.W.nsIn K mainGlobals "shed_over" = some (some (.ref f_shed_over)))
    (l_shed_over : K.lookup f_shed_over = some ⟨oc_shed_over, od_shed_over, .func (PySem.W.fnOf "shed_over" "shed_over" (defArgs s_shed_over) (defBody s_shed_over) (defScope s_shed_over) .none kV_shed_over dc_shed_over pm_shed_over an_shed_over cd_shed_over ct_shed_over), sl_shed_over⟩)
    (c_shed_over : PySem.W.codeIn K cd_shed_over "shed_over" = true)
    (k_shed_over : PySem.W.keepIn K (.ref f_shed_over) = true)
    (a_unlike : PySem.W.nsIn K mainGlobals "unlike" = some (some (.ref f_unlike)))
    (l_unlike : K.lookup f_unlike = some ⟨oc_unlike, od_unlike, .func (PySem.W.fnOf "unlike" "unlike" (defArgs s_unlike) (defBody s_unlike) (defScope s_unlike) .none kV_unlike dc_unlike pm_unlike an_unlike cd_unlike ct_unlike), sl_unlike⟩)
    (c_unlike : PySem.W.codeIn K cd_unlike "unlike" = true)
    (k_unlike : PySem.W.keepIn K (.ref f_unlike) = true)
    (a_law_cell_at : PySem.W.nsIn K mainGlobals "_law_cell_at" = some (some (.ref f_law_cell_at)))
    (l_law_cell_at : K.lookup f_law_cell_at = some ⟨oc_law_cell_at, od_law_cell_at, .func (PySem.W.fnOf "_law_cell_at" "_law_cell_at" (defArgs s_law_cell_at) (defBody s_law_cell_at) (defScope s_law_cell_at) .none kV_law_cell_at dc_law_cell_at pm_law_cell_at an_law_cell_at cd_law_cell_at ct_law_cell_at), sl_law_cell_at⟩)
    (c_law_cell_at : PySem.W.codeIn K cd_law_cell_at "_law_cell_at" = true)
    (k_law_cell_at : PySem.W.keepIn K (.ref f_law_cell_at) = true)
    (a_law_sums : PySem.W.nsIn K mainGlobals "_law_sums" = some (some (.ref f_law_sums)))
    (l_law_sums : K.lookup f_law_sums = some ⟨oc_law_sums, od_law_sums, .func (PySem.W.fnOf "_law_sums" "_law_sums" (defArgs s_law_sums) (defBody s_law_sums) (defScope s_law_sums) .none kV_law_sums dc_law_sums pm_law_sums an_law_sums cd_law_sums ct_law_sums), sl_law_sums⟩)
    (c_law_sums : PySem.W.codeIn K cd_law_sums "_law_sums" = true)
    (k_law_sums : PySem.W.keepIn K (.ref f_law_sums) = true)
    (a_law_size : PySem.W.nsIn K mainGlobals "_law_size" = some (some (.ref f_law_size)))
    (l_law_size : K.lookup f_law_size = some ⟨oc_law_size, od_law_size, .func (PySem.W.fnOf "_law_size" "_law_size" (defArgs s_law_size) (defBody s_law_size) (defScope s_law_size) .none kV_law_size dc_law_size pm_law_size an_law_size cd_law_size ct_law_size), sl_law_size⟩)
    (c_law_size : PySem.W.codeIn K cd_law_size "_law_size" = true)
    (k_law_size : PySem.W.keepIn K (.ref f_law_size) = true)
    (a_law_threading : PySem.W.nsIn K mainGlobals "_law_threading" = some (some (.ref f_law_threading)))
    (l_law_threading : K.lookup f_law_threading = some ⟨oc_law_threading, od_law_threading, .func (PySem.W.fnOf "_law_threading" "_law_threading" (defArgs s_law_threading) (defBody s_law_threading) (defScope s_law_threading) .none kV_law_threading dc_law_threading pm_law_threading an_law_threading cd_law_threading ct_law_threading), sl_law_threading⟩)
    (c_law_threading : PySem.W.codeIn K cd_law_threading "_law_threading" = true)
    (k_law_threading : PySem.W.keepIn K (.ref f_law_threading) = true)
    (a_law_tie : PySem.W.nsIn K mainGlobals "_law_tie" = some (some (.ref f_law_tie)))
    (l_law_tie : K.lookup f_law_tie = some ⟨oc_law_tie, od_law_tie, .func (PySem.W.fnOf "_law_tie" "_law_tie" (defArgs s_law_tie) (defBody s_law_tie) (defScope s_law_tie) .none kV_law_tie dc_law_tie pm_law_tie an_law_tie cd_law_tie ct_law_tie), sl_law_tie⟩)
    (c_law_tie : PySem.W.codeIn K cd_law_tie "_law_tie" = true)
    (k_law_tie : PySem.W.keepIn K (.ref f_law_tie) = true)
    (a_law_ties : PySem.W.nsIn K mainGlobals "_law_ties" = some (some (.ref f_law_ties)))
    (l_law_ties : K.lookup f_law_ties = some ⟨oc_law_ties, od_law_ties, .func (PySem.W.fnOf "_law_ties" "_law_ties" (defArgs s_law_ties) (defBody s_law_ties) (defScope s_law_ties) .none kV_law_ties dc_law_ties pm_law_ties an_law_ties cd_law_ties ct_law_ties), sl_law_ties⟩)
    (c_law_ties : PySem.W.codeIn K cd_law_ties "_law_ties" = true)
    (k_law_ties : PySem.W.keepIn K (.ref f_law_ties) = true)
    (a_law_lifted : PySem.W.nsIn K mainGlobals "_law_lifted" = some (some (.ref f_law_lifted)))
    (l_law_lifted : K.lookup f_law_lifted = some ⟨oc_law_lifted, od_law_lifted, .func (PySem.W.fnOf "_law_lifted" "_law_lifted" (defArgs s_law_lifted) (defBody s_law_lifted) (defScope s_law_lifted) .none kV_law_lifted dc_law_lifted pm_law_lifted an_law_lifted cd_law_lifted ct_law_lifted), sl_law_lifted⟩)
    (c_law_lifted : PySem.W.codeIn K cd_law_lifted "_law_lifted" = true)
    (k_law_lifted : PySem.W.keepIn K (.ref f_law_lifted) = true)
    (a_law_shed : PySem.W.nsIn K mainGlobals "_law_shed" = some (some (.ref f_law_shed)))
    (l_law_shed : K.lookup f_law_shed = some ⟨oc_law_shed, od_law_shed, .func (PySem.W.fnOf "_law_shed" "_law_shed" (defArgs s_law_shed) (defBody s_law_shed) (defScope s_law_shed) .none kV_law_shed dc_law_shed pm_law_shed an_law_shed cd_law_shed ct_law_shed), sl_law_shed⟩)
    (c_law_shed : PySem.W.codeIn K cd_law_shed "_law_shed" = true)
    (k_law_shed : PySem.W.keepIn K (.ref f_law_shed) = true)
    (a_law_try : PySem.W.nsIn K mainGlobals "_law_try" = some (some (.ref f_law_try)))
    (l_law_try : K.lookup f_law_try = some ⟨oc_law_try, od_law_try, .func (PySem.W.fnOf "_law_try" "_law_try" (defArgs s_law_try) (defBody s_law_try) (defScope s_law_try) .none kV_law_try dc_law_try pm_law_try an_law_try cd_law_try ct_law_try), sl_law_try⟩)
    (c_law_try : PySem.W.codeIn K cd_law_try "_law_try" = true)
    (k_law_try : PySem.W.keepIn K (.ref f_law_try) = true)
    (a_law_cannot : PySem.W.nsIn K mainGlobals "_law_cannot" = some (some (.ref f_law_cannot)))
    (l_law_cannot : K.lookup f_law_cannot = some ⟨oc_law_cannot, od_law_cannot, .func (PySem.W.fnOf "_law_cannot" "_law_cannot" (defArgs s_law_cannot) (defBody s_law_cannot) (defScope s_law_cannot) .none kV_law_cannot dc_law_cannot pm_law_cannot an_law_cannot cd_law_cannot ct_law_cannot), sl_law_cannot⟩)
    (c_law_cannot : PySem.W.codeIn K cd_law_cannot "_law_cannot" = true)
    (k_law_cannot : PySem.W.keepIn K (.ref f_law_cannot) = true)
    (a_law_moved_on : PySem.W.nsIn K mainGlobals "_law_moved_on" = some (some (.ref f_law_moved_on)))
    (l_law_moved_on : K.lookup f_law_moved_on = some ⟨oc_law_moved_on, od_law_moved_on, .func (PySem.W.fnOf "_law_moved_on" "_law_moved_on" (defArgs s_law_moved_on) (defBody s_law_moved_on) (defScope s_law_moved_on) .none kV_law_moved_on dc_law_moved_on pm_law_moved_on an_law_moved_on cd_law_moved_on ct_law_moved_on), sl_law_moved_on⟩)
    (c_law_moved_on : PySem.W.codeIn K cd_law_moved_on "_law_moved_on" = true)
    (k_law_moved_on : PySem.W.keepIn K (.ref f_law_moved_on) = true)
    (a_law_same : PySem.W.nsIn K mainGlobals "_law_same" = some (some (.ref f_law_same)))
    (l_law_same : K.lookup f_law_same = some ⟨oc_law_same, od_law_same, .func (PySem.W.fnOf "_law_same" "_law_same" (defArgs s_law_same) (defBody s_law_same) (defScope s_law_same) .none kV_law_same dc_law_same pm_law_same an_law_same cd_law_same ct_law_same), sl_law_same⟩)
    (c_law_same : PySem.W.codeIn K cd_law_same "_law_same" = true)
    (k_law_same : PySem.W.keepIn K (.ref f_law_same) = true)
    (a_law_list : PySem.W.nsIn K mainGlobals "_law_list" = some (some (.ref f_law_list)))
    (l_law_list : K.lookup f_law_list = some ⟨oc_law_list, od_law_list, .func (PySem.W.fnOf "_law_list" "_law_list" (defArgs s_law_list) (defBody s_law_list) (defScope s_law_list) .none kV_law_list dc_law_list pm_law_list an_law_list cd_law_list ct_law_list), sl_law_list⟩)
    (c_law_list : PySem.W.codeIn K cd_law_list "_law_list" = true)
    (k_law_list : PySem.W.keepIn K (.ref f_law_list) = true)
    (a_law_answered : PySem.W.nsIn K mainGlobals "_law_answered" = some (some (.ref f_law_answered)))
    (l_law_answered : K.lookup f_law_answered = some ⟨oc_law_answered, od_law_answered, .func (PySem.W.fnOf "_law_answered" "_law_answered" (defArgs s_law_answered) (defBody s_law_answered) (defScope s_law_answered) .none kV_law_answered dc_law_answered pm_law_answered an_law_answered cd_law_answered ct_law_answered), sl_law_answered⟩)
    (c_law_answered : PySem.W.codeIn K cd_law_answered "_law_answered" = true)
    (k_law_answered : PySem.W.keepIn K (.ref f_law_answered) = true)
    (a_law_treadle : PySem.W.nsIn K mainGlobals "_law_treadle" = some (some (.ref f_law_treadle)))
    (l_law_treadle : K.lookup f_law_treadle = some ⟨oc_law_treadle, od_law_treadle, .func (PySem.W.fnOf "_law_treadle" "_law_treadle" (defArgs s_law_treadle) (defBody s_law_treadle) (defScope s_law_treadle) .none kV_law_treadle dc_law_treadle pm_law_treadle an_law_treadle cd_law_treadle ct_law_treadle), sl_law_treadle⟩)
    (c_law_treadle : PySem.W.codeIn K cd_law_treadle "_law_treadle" = true)
    (k_law_treadle : PySem.W.keepIn K (.ref f_law_treadle) = true)
    (a_law_done : PySem.W.nsIn K mainGlobals "_law_done" = some (some (.ref f_law_done)))
    (l_law_done : K.lookup f_law_done = some ⟨oc_law_done, od_law_done, .func (PySem.W.fnOf "_law_done" "_law_done" (defArgs s_law_done) (defBody s_law_done) (defScope s_law_done) .none kV_law_done dc_law_done pm_law_done an_law_done cd_law_done ct_law_done), sl_law_done⟩)
    (c_law_done : PySem.W.codeIn K cd_law_done "_law_done" = true)
    (k_law_done : PySem.W.keepIn K (.ref f_law_done) = true)
    (a_law : PySem.W.nsIn K mainGlobals "law" = some (some (.ref f_law)))
    (l_law : K.lookup f_law = some ⟨oc_law, od_law, .func (PySem.W.fnOf "law" "law" (defArgs s_law) (defBody s_law) (defScope s_law) .none kV_law dc_law pm_law an_law cd_law ct_law), sl_law⟩)
    (c_law : PySem.W.codeIn K cd_law "law" = true)
    (k_law : PySem.W.keepIn K (.ref f_law) = true)
    (z_ValueError : PySem.W.nsIn K mainGlobals "ValueError" = some none)
    (z_bool : PySem.W.nsIn K mainGlobals "bool" = some none)
    (z_int : PySem.W.nsIn K mainGlobals "int" = some none)
    (z_isinstance : PySem.W.nsIn K mainGlobals "isinstance" = some none)
    (z_len : PySem.W.nsIn K mainGlobals "len" = some none)
    (z_list : PySem.W.nsIn K mainGlobals "list" = some none)
    (z_range : PySem.W.nsIn K mainGlobals "range" = some none)
    (z_set : PySem.W.nsIn K mainGlobals "set" = some none)
    (z_sorted : PySem.W.nsIn K mainGlobals "sorted" = some none)
    (z_str : PySem.W.nsIn K mainGlobals "str" = some none)
    (z_tuple : PySem.W.nsIn K mainGlobals "tuple" = some none)
    (x_MOST_STRANDS : PySem.W.nsIn K mainGlobals "MOST_STRANDS" = some (some (.int 40 q_MOST_STRANDS)))
    (x_MOST_SHAFTS : PySem.W.nsIn K mainGlobals "MOST_SHAFTS" = some (some (.int 40 q_MOST_SHAFTS)))
    (n_WeaveError : PySem.W.nsIn K mainGlobals "WeaveError" = some (some (.ref e_WeaveError)))
    (n_TooLarge : PySem.W.nsIn K mainGlobals "TooLarge" = some (some (.ref e_TooLarge)))
    (n_NoDraft : PySem.W.nsIn K mainGlobals "NoDraft" = some (some (.ref e_NoDraft)))
    (n_NoDeed : PySem.W.nsIn K mainGlobals "NoDeed" = some (some (.ref e_NoDeed)))
    (y1_WeaveError : PySem.W.excIn K e_WeaveError vE vN = true)
    (y2_WeaveError : PySem.W.findIn K (.ref e_WeaveError) "__getattribute__" = some (some (.builtin "BaseException.__getattribute__")))
    (y3_WeaveError : PySem.W.findIn K (.ref e_WeaveError) "__getattr__" = some none)
    (y4_WeaveError : PySem.W.findIn K (.ref e_WeaveError) "__class__" = some (some (.builtin "object.__class__")))
    (y5_WeaveError : PySem.W.specialIn K (.builtin "object.__class__") "__get__" = some (some (.builtin "getset_descriptor.__get__")))
    (y6_WeaveError : PySem.W.takesIn K (.builtin "object.__class__") = some true)
    (y7_WeaveError : PySem.W.mroIn K e_WeaveError (.type "object") = some true)
    (y8_WeaveError : PySem.W.mroIn K e_WeaveError (.type "BaseException") = some true)
    (y9_WeaveError : PySem.W.isClsIn K e_WeaveError = true)
    (y10_WeaveError : PySem.W.typeIn K (.ref e_WeaveError) = some (.type "type"))
    (y11_WeaveError : PySem.W.mroIn K e_WeaveError (.type "ValueError") = some true)
    (y1_TooLarge : PySem.W.excIn K e_TooLarge vE vN = true)
    (y2_TooLarge : PySem.W.findIn K (.ref e_TooLarge) "__getattribute__" = some (some (.builtin "BaseException.__getattribute__")))
    (y3_TooLarge : PySem.W.findIn K (.ref e_TooLarge) "__getattr__" = some none)
    (y4_TooLarge : PySem.W.findIn K (.ref e_TooLarge) "__class__" = some (some (.builtin "object.__class__")))
    (y7_TooLarge : PySem.W.mroIn K e_TooLarge (.type "object") = some true)
    (y8_TooLarge : PySem.W.mroIn K e_TooLarge (.type "BaseException") = some true)
    (y9_TooLarge : PySem.W.isClsIn K e_TooLarge = true)
    (y10_TooLarge : PySem.W.typeIn K (.ref e_TooLarge) = some (.type "type"))
    (y11_TooLarge : PySem.W.mroIn K e_TooLarge (.type "ValueError") = some true)
    (r_TooLarge_WeaveError : PySem.W.mroIn K e_TooLarge (.ref e_WeaveError) = some true)
    (r_TooLarge_TooLarge : PySem.W.mroIn K e_TooLarge (.ref e_TooLarge) = some true)
    (r_TooLarge_NoDraft : PySem.W.mroIn K e_TooLarge (.ref e_NoDraft) = some false)
    (r_TooLarge_NoDeed : PySem.W.mroIn K e_TooLarge (.ref e_NoDeed) = some false)
    (y1_NoDraft : PySem.W.excIn K e_NoDraft vE vN = true)
    (y2_NoDraft : PySem.W.findIn K (.ref e_NoDraft) "__getattribute__" = some (some (.builtin "BaseException.__getattribute__")))
    (y3_NoDraft : PySem.W.findIn K (.ref e_NoDraft) "__getattr__" = some none)
    (y4_NoDraft : PySem.W.findIn K (.ref e_NoDraft) "__class__" = some (some (.builtin "object.__class__")))
    (y7_NoDraft : PySem.W.mroIn K e_NoDraft (.type "object") = some true)
    (y8_NoDraft : PySem.W.mroIn K e_NoDraft (.type "BaseException") = some true)
    (y9_NoDraft : PySem.W.isClsIn K e_NoDraft = true)
    (y10_NoDraft : PySem.W.typeIn K (.ref e_NoDraft) = some (.type "type"))
    (y11_NoDraft : PySem.W.mroIn K e_NoDraft (.type "ValueError") = some true)
    (y1_NoDeed : PySem.W.excIn K e_NoDeed vE vN = true)
    (y2_NoDeed : PySem.W.findIn K (.ref e_NoDeed) "__getattribute__" = some (some (.builtin "BaseException.__getattribute__")))
    (y3_NoDeed : PySem.W.findIn K (.ref e_NoDeed) "__getattr__" = some none)
    (y4_NoDeed : PySem.W.findIn K (.ref e_NoDeed) "__class__" = some (some (.builtin "object.__class__")))
    (y7_NoDeed : PySem.W.mroIn K e_NoDeed (.type "object") = some true)
    (y8_NoDeed : PySem.W.mroIn K e_NoDeed (.type "BaseException") = some true)
    (y9_NoDeed : PySem.W.isClsIn K e_NoDeed = true)
    (y10_NoDeed : PySem.W.typeIn K (.ref e_NoDeed) = some (.type "type"))
    (y11_NoDeed : PySem.W.mroIn K e_NoDeed (.type "ValueError") = some true)
    (r_NoDeed_WeaveError : PySem.W.mroIn K e_NoDeed (.ref e_WeaveError) = some true)
    (r_NoDeed_TooLarge : PySem.W.mroIn K e_NoDeed (.ref e_TooLarge) = some false)
    (r_NoDeed_NoDraft : PySem.W.mroIn K e_NoDeed (.ref e_NoDraft) = some false)
    (r_NoDeed_NoDeed : PySem.W.mroIn K e_NoDeed (.ref e_NoDeed) = some true)
    (n_Draft : PySem.W.nsIn K mainGlobals "Draft" = some (some (.ref e_Draft)))
    (n_Loom : PySem.W.nsIn K mainGlobals "Loom" = some (some (.ref e_Loom)))
    (fm_Draft___init__ : PySem.W.findIn K (.ref e_Draft) "__init__" = some (some (.ref f_Draft___init__)))
    (gm_Draft___init__ : PySem.W.isFn K (.ref f_Draft___init__) = true)
    (lm_Draft___init__ : K.lookup f_Draft___init__ = some ⟨oc_Draft___init__, od_Draft___init__, .func (PySem.W.fnOf "__init__" "Draft.__init__" (defArgs s_Draft___init__) (defBody s_Draft___init__) (defScope s_Draft___init__) .none kV_Draft___init__ dc_Draft___init__ pm_Draft___init__ an_Draft___init__ cd_Draft___init__ ct_Draft___init__), sl_Draft___init__⟩)
    (cm_Draft___init__ : PySem.W.codeIn K cd_Draft___init__ "Draft.__init__" = true)
    (km_Draft___init__ : PySem.W.keepIn K (.ref f_Draft___init__) = true)
    (fm_Loom___init__ : PySem.W.findIn K (.ref e_Loom) "__init__" = some (some (.ref f_Loom___init__)))
    (gm_Loom___init__ : PySem.W.isFn K (.ref f_Loom___init__) = true)
    (lm_Loom___init__ : K.lookup f_Loom___init__ = some ⟨oc_Loom___init__, od_Loom___init__, .func (PySem.W.fnOf "__init__" "Loom.__init__" (defArgs s_Loom___init__) (defBody s_Loom___init__) (defScope s_Loom___init__) .none kV_Loom___init__ dc_Loom___init__ pm_Loom___init__ an_Loom___init__ cd_Loom___init__ ct_Loom___init__), sl_Loom___init__⟩)
    (cm_Loom___init__ : PySem.W.codeIn K cd_Loom___init__ "Loom.__init__" = true)
    (km_Loom___init__ : PySem.W.keepIn K (.ref f_Loom___init__) = true)
    (fm_Loom_press : PySem.W.findIn K (.ref e_Loom) "press" = some (some (.ref f_Loom_press)))
    (gm_Loom_press : PySem.W.isFn K (.ref f_Loom_press) = true)
    (lm_Loom_press : K.lookup f_Loom_press = some ⟨oc_Loom_press, od_Loom_press, .func (PySem.W.fnOf "press" "Loom.press" (defArgs s_Loom_press) (defBody s_Loom_press) (defScope s_Loom_press) .none kV_Loom_press dc_Loom_press pm_Loom_press an_Loom_press cd_Loom_press ct_Loom_press), sl_Loom_press⟩)
    (cm_Loom_press : PySem.W.codeIn K cd_Loom_press "Loom.press" = true)
    (km_Loom_press : PySem.W.keepIn K (.ref f_Loom_press) = true)
    (fm_Loom_lift : PySem.W.findIn K (.ref e_Loom) "lift" = some (some (.ref f_Loom_lift)))
    (gm_Loom_lift : PySem.W.isFn K (.ref f_Loom_lift) = true)
    (lm_Loom_lift : K.lookup f_Loom_lift = some ⟨oc_Loom_lift, od_Loom_lift, .func (PySem.W.fnOf "lift" "Loom.lift" (defArgs s_Loom_lift) (defBody s_Loom_lift) (defScope s_Loom_lift) .none kV_Loom_lift dc_Loom_lift pm_Loom_lift an_Loom_lift cd_Loom_lift ct_Loom_lift), sl_Loom_lift⟩)
    (cm_Loom_lift : PySem.W.codeIn K cd_Loom_lift "Loom.lift" = true)
    (km_Loom_lift : PySem.W.keepIn K (.ref f_Loom_lift) = true)
    (fm_Loom_throw : PySem.W.findIn K (.ref e_Loom) "throw" = some (some (.ref f_Loom_throw)))
    (gm_Loom_throw : PySem.W.isFn K (.ref f_Loom_throw) = true)
    (lm_Loom_throw : K.lookup f_Loom_throw = some ⟨oc_Loom_throw, od_Loom_throw, .func (PySem.W.fnOf "throw" "Loom.throw" (defArgs s_Loom_throw) (defBody s_Loom_throw) (defScope s_Loom_throw) .none kV_Loom_throw dc_Loom_throw pm_Loom_throw an_Loom_throw cd_Loom_throw ct_Loom_throw), sl_Loom_throw⟩)
    (cm_Loom_throw : PySem.W.codeIn K cd_Loom_throw "Loom.throw" = true)
    (km_Loom_throw : PySem.W.keepIn K (.ref f_Loom_throw) = true)
    (fm_Loom_unthrow : PySem.W.findIn K (.ref e_Loom) "unthrow" = some (some (.ref f_Loom_unthrow)))
    (gm_Loom_unthrow : PySem.W.isFn K (.ref f_Loom_unthrow) = true)
    (lm_Loom_unthrow : K.lookup f_Loom_unthrow = some ⟨oc_Loom_unthrow, od_Loom_unthrow, .func (PySem.W.fnOf "unthrow" "Loom.unthrow" (defArgs s_Loom_unthrow) (defBody s_Loom_unthrow) (defScope s_Loom_unthrow) .none kV_Loom_unthrow dc_Loom_unthrow pm_Loom_unthrow an_Loom_unthrow cd_Loom_unthrow ct_Loom_unthrow), sl_Loom_unthrow⟩)
    (cm_Loom_unthrow : PySem.W.codeIn K cd_Loom_unthrow "Loom.unthrow" = true)
    (km_Loom_unthrow : PySem.W.keepIn K (.ref f_Loom_unthrow) = true)
    (fm_Loom_undo : PySem.W.findIn K (.ref e_Loom) "undo" = some (some (.ref f_Loom_undo)))
    (gm_Loom_undo : PySem.W.isFn K (.ref f_Loom_undo) = true)
    (lm_Loom_undo : K.lookup f_Loom_undo = some ⟨oc_Loom_undo, od_Loom_undo, .func (PySem.W.fnOf "undo" "Loom.undo" (defArgs s_Loom_undo) (defBody s_Loom_undo) (defScope s_Loom_undo) .none kV_Loom_undo dc_Loom_undo pm_Loom_undo an_Loom_undo cd_Loom_undo ct_Loom_undo), sl_Loom_undo⟩)
    (cm_Loom_undo : PySem.W.codeIn K cd_Loom_undo "Loom.undo" = true)
    (km_Loom_undo : PySem.W.keepIn K (.ref f_Loom_undo) = true)
    (fm_Loom_deeds_done : PySem.W.findIn K (.ref e_Loom) "deeds_done" = some (some (.ref f_Loom_deeds_done)))
    (gm_Loom_deeds_done : PySem.W.isFn K (.ref f_Loom_deeds_done) = true)
    (lm_Loom_deeds_done : K.lookup f_Loom_deeds_done = some ⟨oc_Loom_deeds_done, od_Loom_deeds_done, .func (PySem.W.fnOf "deeds_done" "Loom.deeds_done" (defArgs s_Loom_deeds_done) (defBody s_Loom_deeds_done) (defScope s_Loom_deeds_done) .none kV_Loom_deeds_done dc_Loom_deeds_done pm_Loom_deeds_done an_Loom_deeds_done cd_Loom_deeds_done ct_Loom_deeds_done), sl_Loom_deeds_done⟩)
    (cm_Loom_deeds_done : PySem.W.codeIn K cd_Loom_deeds_done "Loom.deeds_done" = true)
    (km_Loom_deeds_done : PySem.W.keepIn K (.ref f_Loom_deeds_done) = true)
    (fm_Loom_treadles_down : PySem.W.findIn K (.ref e_Loom) "treadles_down" = some (some (.ref f_Loom_treadles_down)))
    (gm_Loom_treadles_down : PySem.W.isFn K (.ref f_Loom_treadles_down) = true)
    (lm_Loom_treadles_down : K.lookup f_Loom_treadles_down = some ⟨oc_Loom_treadles_down, od_Loom_treadles_down, .func (PySem.W.fnOf "treadles_down" "Loom.treadles_down" (defArgs s_Loom_treadles_down) (defBody s_Loom_treadles_down) (defScope s_Loom_treadles_down) .none kV_Loom_treadles_down dc_Loom_treadles_down pm_Loom_treadles_down an_Loom_treadles_down cd_Loom_treadles_down ct_Loom_treadles_down), sl_Loom_treadles_down⟩)
    (cm_Loom_treadles_down : PySem.W.codeIn K cd_Loom_treadles_down "Loom.treadles_down" = true)
    (km_Loom_treadles_down : PySem.W.keepIn K (.ref f_Loom_treadles_down) = true)
    (fm_Loom_shed : PySem.W.findIn K (.ref e_Loom) "shed" = some (some (.ref f_Loom_shed)))
    (gm_Loom_shed : PySem.W.isFn K (.ref f_Loom_shed) = true)
    (lm_Loom_shed : K.lookup f_Loom_shed = some ⟨oc_Loom_shed, od_Loom_shed, .func (PySem.W.fnOf "shed" "Loom.shed" (defArgs s_Loom_shed) (defBody s_Loom_shed) (defScope s_Loom_shed) .none kV_Loom_shed dc_Loom_shed pm_Loom_shed an_Loom_shed cd_Loom_shed ct_Loom_shed), sl_Loom_shed⟩)
    (cm_Loom_shed : PySem.W.codeIn K cd_Loom_shed "Loom.shed" = true)
    (km_Loom_shed : PySem.W.keepIn K (.ref f_Loom_shed) = true)
    (fm_Loom_cloth : PySem.W.findIn K (.ref e_Loom) "cloth" = some (some (.ref f_Loom_cloth)))
    (gm_Loom_cloth : PySem.W.isFn K (.ref f_Loom_cloth) = true)
    (lm_Loom_cloth : K.lookup f_Loom_cloth = some ⟨oc_Loom_cloth, od_Loom_cloth, .func (PySem.W.fnOf "cloth" "Loom.cloth" (defArgs s_Loom_cloth) (defBody s_Loom_cloth) (defScope s_Loom_cloth) .none kV_Loom_cloth dc_Loom_cloth pm_Loom_cloth an_Loom_cloth cd_Loom_cloth ct_Loom_cloth), sl_Loom_cloth⟩)
    (cm_Loom_cloth : PySem.W.codeIn K cd_Loom_cloth "Loom.cloth" = true)
    (km_Loom_cloth : PySem.W.keepIn K (.ref f_Loom_cloth) = true)
    (fm_Loom_colours : PySem.W.findIn K (.ref e_Loom) "colours" = some (some (.ref f_Loom_colours)))
    (gm_Loom_colours : PySem.W.isFn K (.ref f_Loom_colours) = true)
    (lm_Loom_colours : K.lookup f_Loom_colours = some ⟨oc_Loom_colours, od_Loom_colours, .func (PySem.W.fnOf "colours" "Loom.colours" (defArgs s_Loom_colours) (defBody s_Loom_colours) (defScope s_Loom_colours) .none kV_Loom_colours dc_Loom_colours pm_Loom_colours an_Loom_colours cd_Loom_colours ct_Loom_colours), sl_Loom_colours⟩)
    (cm_Loom_colours : PySem.W.codeIn K cd_Loom_colours "Loom.colours" = true)
    (km_Loom_colours : PySem.W.keepIn K (.ref f_Loom_colours) = true)
    (fm_Loom_draft : PySem.W.findIn K (.ref e_Loom) "draft" = some (some (.ref f_Loom_draft)))
    (gm_Loom_draft : PySem.W.isFn K (.ref f_Loom_draft) = true)
    (lm_Loom_draft : K.lookup f_Loom_draft = some ⟨oc_Loom_draft, od_Loom_draft, .func (PySem.W.fnOf "draft" "Loom.draft" (defArgs s_Loom_draft) (defBody s_Loom_draft) (defScope s_Loom_draft) .none kV_Loom_draft dc_Loom_draft pm_Loom_draft an_Loom_draft cd_Loom_draft ct_Loom_draft), sl_Loom_draft⟩)
    (cm_Loom_draft : PySem.W.codeIn K cd_Loom_draft "Loom.draft" = true)
    (km_Loom_draft : PySem.W.keepIn K (.ref f_Loom_draft) = true)
    (fm_Loom_lifted_shafts : PySem.W.findIn K (.ref e_Loom) "lifted_shafts" = some (some (.ref f_Loom_lifted_shafts)))
    (gm_Loom_lifted_shafts : PySem.W.isFn K (.ref f_Loom_lifted_shafts) = true)
    (lm_Loom_lifted_shafts : K.lookup f_Loom_lifted_shafts = some ⟨oc_Loom_lifted_shafts, od_Loom_lifted_shafts, .func (PySem.W.fnOf "lifted_shafts" "Loom.lifted_shafts" (defArgs s_Loom_lifted_shafts) (defBody s_Loom_lifted_shafts) (defScope s_Loom_lifted_shafts) .none kV_Loom_lifted_shafts dc_Loom_lifted_shafts pm_Loom_lifted_shafts an_Loom_lifted_shafts cd_Loom_lifted_shafts ct_Loom_lifted_shafts), sl_Loom_lifted_shafts⟩)
    (cm_Loom_lifted_shafts : PySem.W.codeIn K cd_Loom_lifted_shafts "Loom.lifted_shafts" = true)
    (km_Loom_lifted_shafts : PySem.W.keepIn K (.ref f_Loom_lifted_shafts) = true)
    (o1_Draft : PySem.W.plainGet K e_Draft Str.empty = true)
    (o2_Draft : PySem.W.hasDictIn K e_Draft = true)
    (o3_Draft : PySem.W.plainOver K e_Draft = true)
    (o4_Draft : PySem.W.findIn K (.ref e_Draft) "__setattr__" = some (some (.builtin "object.__setattr__")))
    (o5_Draft : PySem.W.makesIn K e_Draft = true)
    (o8_Draft : PySem.W.keepIn K (.ref e_Draft) = true)
    (na_Draft_threading : PySem.W.findIn K (.ref e_Draft) "threading" = some none)
    (na_Draft_ties : PySem.W.findIn K (.ref e_Draft) "ties" = some none)
    (na_Draft_treading : PySem.W.findIn K (.ref e_Draft) "treading" = some none)
    (o1_Loom : PySem.W.plainGet K e_Loom Str.empty = true)
    (o2_Loom : PySem.W.hasDictIn K e_Loom = true)
    (o3_Loom : PySem.W.plainOver K e_Loom = true)
    (o4_Loom : PySem.W.findIn K (.ref e_Loom) "__setattr__" = some (some (.builtin "object.__setattr__")))
    (o5_Loom : PySem.W.makesIn K e_Loom = true)
    (o8_Loom : PySem.W.keepIn K (.ref e_Loom) = true)
    (na_Loom_threading : PySem.W.findIn K (.ref e_Loom) "threading" = some none)
    (na_Loom_ties : PySem.W.findIn K (.ref e_Loom) "ties" = some none)
    (na_Loom_down : PySem.W.findIn K (.ref e_Loom) "down" = some none)
    (na_Loom_thrown : PySem.W.findIn K (.ref e_Loom) "thrown" = some none)
    (na_Loom_deeds : PySem.W.findIn K (.ref e_Loom) "deeds" = some none) :
    ∃ fd : FuncData, (∀ (s : Shared) (v : Value), BindsTo s fd ⟨[v], []⟩ [("script", v)]) ∧ ∀ base : Heap, K.In base → base.Ns mainGlobals mg → FnOk P w K mg base CX0 7 fa fd ["script"] (sp_law K) := by
  have T : Txt K mg ⟨e_Draft, e_Loom, f_Draft___init__, PySem.W.fnOf "__init__" "Draft.__init__" (defArgs s_Draft___init__) (defBody s_Draft___init__) (defScope s_Draft___init__) .none kV_Draft___init__ dc_Draft___init__ pm_Draft___init__ an_Draft___init__ cd_Draft___init__ ct_Draft___init__, f_Loom___init__, PySem.W.fnOf "__init__" "Loom.__init__" (defArgs s_Loom___init__) (defBody s_Loom___init__) (defScope s_Loom___init__) .none kV_Loom___init__ dc_Loom___init__ pm_Loom___init__ an_Loom___init__ cd_Loom___init__ ct_Loom___init__, f_Loom_press, PySem.W.fnOf "press" "Loom.press" (defArgs s_Loom_press) (defBody s_Loom_press) (defScope s_Loom_press) .none kV_Loom_press dc_Loom_press pm_Loom_press an_Loom_press cd_Loom_press ct_Loom_press, f_Loom_lift, PySem.W.fnOf "lift" "Loom.lift" (defArgs s_Loom_lift) (defBody s_Loom_lift) (defScope s_Loom_lift) .none kV_Loom_lift dc_Loom_lift pm_Loom_lift an_Loom_lift cd_Loom_lift ct_Loom_lift, f_Loom_throw, PySem.W.fnOf "throw" "Loom.throw" (defArgs s_Loom_throw) (defBody s_Loom_throw) (defScope s_Loom_throw) .none kV_Loom_throw dc_Loom_throw pm_Loom_throw an_Loom_throw cd_Loom_throw ct_Loom_throw, f_Loom_unthrow, PySem.W.fnOf "unthrow" "Loom.unthrow" (defArgs s_Loom_unthrow) (defBody s_Loom_unthrow) (defScope s_Loom_unthrow) .none kV_Loom_unthrow dc_Loom_unthrow pm_Loom_unthrow an_Loom_unthrow cd_Loom_unthrow ct_Loom_unthrow, f_Loom_undo, PySem.W.fnOf "undo" "Loom.undo" (defArgs s_Loom_undo) (defBody s_Loom_undo) (defScope s_Loom_undo) .none kV_Loom_undo dc_Loom_undo pm_Loom_undo an_Loom_undo cd_Loom_undo ct_Loom_undo, f_Loom_deeds_done, PySem.W.fnOf "deeds_done" "Loom.deeds_done" (defArgs s_Loom_deeds_done) (defBody s_Loom_deeds_done) (defScope s_Loom_deeds_done) .none kV_Loom_deeds_done dc_Loom_deeds_done pm_Loom_deeds_done an_Loom_deeds_done cd_Loom_deeds_done ct_Loom_deeds_done, f_Loom_treadles_down, PySem.W.fnOf "treadles_down" "Loom.treadles_down" (defArgs s_Loom_treadles_down) (defBody s_Loom_treadles_down) (defScope s_Loom_treadles_down) .none kV_Loom_treadles_down dc_Loom_treadles_down pm_Loom_treadles_down an_Loom_treadles_down cd_Loom_treadles_down ct_Loom_treadles_down, f_Loom_shed, PySem.W.fnOf "shed" "Loom.shed" (defArgs s_Loom_shed) (defBody s_Loom_shed) (defScope s_Loom_shed) .none kV_Loom_shed dc_Loom_shed pm_Loom_shed an_Loom_shed cd_Loom_shed ct_Loom_shed, f_Loom_cloth, PySem.W.fnOf "cloth" "Loom.cloth" (defArgs s_Loom_cloth) (defBody s_Loom_cloth) (defScope s_Loom_cloth) .none kV_Loom_cloth dc_Loom_cloth pm_Loom_cloth an_Loom_cloth cd_Loom_cloth ct_Loom_cloth, f_Loom_colours, PySem.W.fnOf "colours" "Loom.colours" (defArgs s_Loom_colours) (defBody s_Loom_colours) (defScope s_Loom_colours) .none kV_Loom_colours dc_Loom_colours pm_Loom_colours an_Loom_colours cd_Loom_colours ct_Loom_colours, f_Loom_draft, PySem.W.fnOf "draft" "Loom.draft" (defArgs s_Loom_draft) (defBody s_Loom_draft) (defScope s_Loom_draft) .none kV_Loom_draft dc_Loom_draft pm_Loom_draft an_Loom_draft cd_Loom_draft ct_Loom_draft, f_Loom_lifted_shafts, PySem.W.fnOf "lifted_shafts" "Loom.lifted_shafts" (defArgs s_Loom_lifted_shafts) (defBody s_Loom_lifted_shafts) (defScope s_Loom_lifted_shafts) .none kV_Loom_lifted_shafts dc_Loom_lifted_shafts pm_Loom_lifted_shafts an_Loom_lifted_shafts cd_Loom_lifted_shafts ct_Loom_lifted_shafts, f_check_setting, PySem.W.fnOf "check_setting" "check_setting" (defArgs s_check_setting) (defBody s_check_setting) (defScope s_check_setting) .none kV_check_setting dc_check_setting pm_check_setting an_check_setting cd_check_setting ct_check_setting, f_check_count, PySem.W.fnOf "check_count" "check_count" (defArgs s_check_count) (defBody s_check_count) (defScope s_check_count) .none kV_check_count dc_check_count pm_check_count an_check_count cd_check_count ct_check_count, f_check_shaft, PySem.W.fnOf "check_shaft" "check_shaft" (defArgs s_check_shaft) (defBody s_check_shaft) (defScope s_check_shaft) .none kV_check_shaft dc_check_shaft pm_check_shaft an_check_shaft cd_check_shaft ct_check_shaft, f_check_tie, PySem.W.fnOf "check_tie" "check_tie" (defArgs s_check_tie) (defBody s_check_tie) (defScope s_check_tie) .none kV_check_tie dc_check_tie pm_check_tie an_check_tie cd_check_tie ct_check_tie, f_check_treading, PySem.W.fnOf "check_treading" "check_treading" (defArgs s_check_treading) (defBody s_check_treading) (defScope s_check_treading) .none kV_check_treading dc_check_treading pm_check_treading an_check_treading cd_check_treading ct_check_treading, f_shed_over, PySem.W.fnOf "shed_over" "shed_over" (defArgs s_shed_over) (defBody s_shed_over) (defScope s_shed_over) .none kV_shed_over dc_shed_over pm_shed_over an_shed_over cd_shed_over ct_shed_over, f_unlike, PySem.W.fnOf "unlike" "unlike" (defArgs s_unlike) (defBody s_unlike) (defScope s_unlike) .none kV_unlike dc_unlike pm_unlike an_unlike cd_unlike ct_unlike, f_law_cell_at, PySem.W.fnOf "_law_cell_at" "_law_cell_at" (defArgs s_law_cell_at) (defBody s_law_cell_at) (defScope s_law_cell_at) .none kV_law_cell_at dc_law_cell_at pm_law_cell_at an_law_cell_at cd_law_cell_at ct_law_cell_at, f_law_sums, PySem.W.fnOf "_law_sums" "_law_sums" (defArgs s_law_sums) (defBody s_law_sums) (defScope s_law_sums) .none kV_law_sums dc_law_sums pm_law_sums an_law_sums cd_law_sums ct_law_sums, f_law_size, PySem.W.fnOf "_law_size" "_law_size" (defArgs s_law_size) (defBody s_law_size) (defScope s_law_size) .none kV_law_size dc_law_size pm_law_size an_law_size cd_law_size ct_law_size, f_law_threading, PySem.W.fnOf "_law_threading" "_law_threading" (defArgs s_law_threading) (defBody s_law_threading) (defScope s_law_threading) .none kV_law_threading dc_law_threading pm_law_threading an_law_threading cd_law_threading ct_law_threading, f_law_tie, PySem.W.fnOf "_law_tie" "_law_tie" (defArgs s_law_tie) (defBody s_law_tie) (defScope s_law_tie) .none kV_law_tie dc_law_tie pm_law_tie an_law_tie cd_law_tie ct_law_tie, f_law_ties, PySem.W.fnOf "_law_ties" "_law_ties" (defArgs s_law_ties) (defBody s_law_ties) (defScope s_law_ties) .none kV_law_ties dc_law_ties pm_law_ties an_law_ties cd_law_ties ct_law_ties, f_law_lifted, PySem.W.fnOf "_law_lifted" "_law_lifted" (defArgs s_law_lifted) (defBody s_law_lifted) (defScope s_law_lifted) .none kV_law_lifted dc_law_lifted pm_law_lifted an_law_lifted cd_law_lifted ct_law_lifted, f_law_shed, PySem.W.fnOf "_law_shed" "_law_shed" (defArgs s_law_shed) (defBody s_law_shed) (defScope s_law_shed) .none kV_law_shed dc_law_shed pm_law_shed an_law_shed cd_law_shed ct_law_shed, f_law_try, PySem.W.fnOf "_law_try" "_law_try" (defArgs s_law_try) (defBody s_law_try) (defScope s_law_try) .none kV_law_try dc_law_try pm_law_try an_law_try cd_law_try ct_law_try, f_law_cannot, PySem.W.fnOf "_law_cannot" "_law_cannot" (defArgs s_law_cannot) (defBody s_law_cannot) (defScope s_law_cannot) .none kV_law_cannot dc_law_cannot pm_law_cannot an_law_cannot cd_law_cannot ct_law_cannot, f_law_moved_on, PySem.W.fnOf "_law_moved_on" "_law_moved_on" (defArgs s_law_moved_on) (defBody s_law_moved_on) (defScope s_law_moved_on) .none kV_law_moved_on dc_law_moved_on pm_law_moved_on an_law_moved_on cd_law_moved_on ct_law_moved_on, f_law_same, PySem.W.fnOf "_law_same" "_law_same" (defArgs s_law_same) (defBody s_law_same) (defScope s_law_same) .none kV_law_same dc_law_same pm_law_same an_law_same cd_law_same ct_law_same, f_law_list, PySem.W.fnOf "_law_list" "_law_list" (defArgs s_law_list) (defBody s_law_list) (defScope s_law_list) .none kV_law_list dc_law_list pm_law_list an_law_list cd_law_list ct_law_list, f_law_answered, PySem.W.fnOf "_law_answered" "_law_answered" (defArgs s_law_answered) (defBody s_law_answered) (defScope s_law_answered) .none kV_law_answered dc_law_answered pm_law_answered an_law_answered cd_law_answered ct_law_answered, f_law_treadle, PySem.W.fnOf "_law_treadle" "_law_treadle" (defArgs s_law_treadle) (defBody s_law_treadle) (defScope s_law_treadle) .none kV_law_treadle dc_law_treadle pm_law_treadle an_law_treadle cd_law_treadle ct_law_treadle, f_law_done, PySem.W.fnOf "_law_done" "_law_done" (defArgs s_law_done) (defBody s_law_done) (defScope s_law_done) .none kV_law_done dc_law_done pm_law_done an_law_done cd_law_done ct_law_done, f_law, PySem.W.fnOf "law" "law" (defArgs s_law) (defBody s_law) (defScope s_law) .none kV_law dc_law pm_law an_law cd_law ct_law, e_WeaveError, e_TooLarge, e_NoDraft, e_NoDeed⟩ :=
  ⟨⟨fun_mk (st := s_check_setting) l_check_setting c_check_setting k_check_setting, PySem.W.mg_of X G a_check_setting, (fun_mk (st := s_check_setting) l_check_setting c_check_setting k_check_setting).binds (ps := ["threading", "ties"]) fun _ _ _ _ _ _ us hl => bl2 (fun _ _ => rfl) us hl⟩,
   ⟨fun_mk (st := s_check_count) l_check_count c_check_count k_check_count, PySem.W.mg_of X G a_check_count, (fun_mk (st := s_check_count) l_check_count c_check_count k_check_count).binds (ps := ["count"]) fun _ _ _ _ _ _ us hl => bl1 (fun _ => rfl) us hl⟩,
   ⟨fun_mk (st := s_check_shaft) l_check_shaft c_check_shaft k_check_shaft, PySem.W.mg_of X G a_check_shaft, (fun_mk (st := s_check_shaft) l_check_shaft c_check_shaft k_check_shaft).binds (ps := ["shaft"]) fun _ _ _ _ _ _ us hl => bl1 (fun _ => rfl) us hl⟩,
   ⟨fun_mk (st := s_check_tie) l_check_tie c_check_tie k_check_tie, PySem.W.mg_of X G a_check_tie, (fun_mk (st := s_check_tie) l_check_tie c_check_tie k_check_tie).binds (ps := ["tie"]) fun _ _ _ _ _ _ us hl => bl1 (fun _ => rfl) us hl⟩,
   ⟨fun_mk (st := s_check_treading) l_check_treading c_check_treading k_check_treading, PySem.W.mg_of X G a_check_treading, (fun_mk (st := s_check_treading) l_check_treading c_check_treading k_check_treading).binds (ps := ["treading", "treadles"]) fun _ _ _ _ _ _ us hl => bl2 (fun _ _ => rfl) us hl⟩,
   ⟨fun_mk (st := s_shed_over) l_shed_over c_shed_over k_shed_over, PySem.W.mg_of X G a_shed_over, (fun_mk (st := s_shed_over) l_shed_over c_shed_over k_shed_over).binds (ps := ["threading", "lifted"]) fun _ _ _ _ _ _ us hl => bl2 (fun _ _ => rfl) us hl⟩,
   ⟨fun_mk (st := s_unlike) l_unlike c_unlike k_unlike, PySem.W.mg_of X G a_unlike, (fun_mk (st := s_unlike) l_unlike c_unlike k_unlike).binds (ps := ["things"]) fun _ _ _ _ _ _ us hl => bl1 (fun _ => rfl) us hl⟩,
   ⟨fun_mk (st := s_law_cell_at) l_law_cell_at c_law_cell_at k_law_cell_at, PySem.W.mg_of X G a_law_cell_at, (fun_mk (st := s_law_cell_at) l_law_cell_at c_law_cell_at k_law_cell_at).binds (ps := ["script", "k"]) fun _ _ _ _ _ _ us hl => bl2 (fun _ _ => rfl) us hl⟩,
   ⟨fun_mk (st := s_law_sums) l_law_sums c_law_sums k_law_sums, PySem.W.mg_of X G a_law_sums, (fun_mk (st := s_law_sums) l_law_sums c_law_sums k_law_sums).binds (ps := ["script", "behind", "many"]) fun _ _ _ _ _ _ us hl => bl3 (fun _ _ _ => rfl) us hl⟩,
   ⟨fun_mk (st := s_law_size) l_law_size c_law_size k_law_size, PySem.W.mg_of X G a_law_size, (fun_mk (st := s_law_size) l_law_size c_law_size k_law_size).binds (ps := ["cell", "small"]) fun _ _ _ _ _ _ us hl => bl2 (fun _ _ => rfl) us hl⟩,
   ⟨fun_mk (st := s_law_threading) l_law_threading c_law_threading k_law_threading, PySem.W.mg_of X G a_law_threading, (fun_mk (st := s_law_threading) l_law_threading c_law_threading k_law_threading).binds (ps := ["script", "ends", "high"]) fun _ _ _ _ _ _ us hl => bl3 (fun _ _ _ => rfl) us hl⟩,
   ⟨fun_mk (st := s_law_tie) l_law_tie c_law_tie k_law_tie, PySem.W.mg_of X G a_law_tie, (fun_mk (st := s_law_tie) l_law_tie c_law_tie k_law_tie).binds (ps := ["number", "high"]) fun _ _ _ _ _ _ us hl => bl2 (fun _ _ => rfl) us hl⟩,
   ⟨fun_mk (st := s_law_ties) l_law_ties c_law_ties k_law_ties, PySem.W.mg_of X G a_law_ties, (fun_mk (st := s_law_ties) l_law_ties c_law_ties k_law_ties).binds (ps := ["script", "treadles", "high"]) fun _ _ _ _ _ _ us hl => bl3 (fun _ _ _ => rfl) us hl⟩,
   ⟨fun_mk (st := s_law_lifted) l_law_lifted c_law_lifted k_law_lifted, PySem.W.mg_of X G a_law_lifted, (fun_mk (st := s_law_lifted) l_law_lifted c_law_lifted k_law_lifted).binds (ps := ["ties", "down"]) fun _ _ _ _ _ _ us hl => bl2 (fun _ _ => rfl) us hl⟩,
   ⟨fun_mk (st := s_law_shed) l_law_shed c_law_shed k_law_shed, PySem.W.mg_of X G a_law_shed, (fun_mk (st := s_law_shed) l_law_shed c_law_shed k_law_shed).binds (ps := ["threading", "lifted"]) fun _ _ _ _ _ _ us hl => bl2 (fun _ _ => rfl) us hl⟩,
   ⟨fun_mk (st := s_law_try) l_law_try c_law_try k_law_try, PySem.W.mg_of X G a_law_try, (fun_mk (st := s_law_try) l_law_try c_law_try k_law_try).binds (ps := ["made", "way", "at", "letter"]) fun _ _ _ _ _ _ us hl => bl4 (fun _ _ _ _ => rfl) us hl⟩,
   ⟨fun_mk (st := s_law_cannot) l_law_cannot c_law_cannot k_law_cannot, PySem.W.mg_of X G a_law_cannot, (fun_mk (st := s_law_cannot) l_law_cannot c_law_cannot k_law_cannot).binds (ps := ["state", "way", "at"]) fun _ _ _ _ _ _ us hl => bl3 (fun _ _ _ => rfl) us hl⟩,
   ⟨fun_mk (st := s_law_moved_on) l_law_moved_on c_law_moved_on k_law_moved_on, PySem.W.mg_of X G a_law_moved_on, (fun_mk (st := s_law_moved_on) l_law_moved_on c_law_moved_on k_law_moved_on).binds (ps := ["setting", "state", "way", "at", "letter"]) fun _ _ _ _ _ _ us hl => bl5 (fun _ _ _ _ _ => rfl) us hl⟩,
   ⟨fun_mk (st := s_law_same) l_law_same c_law_same k_law_same, PySem.W.mg_of X G a_law_same, (fun_mk (st := s_law_same) l_law_same c_law_same k_law_same).binds (ps := ["told", "due"]) fun _ _ _ _ _ _ us hl => bl2 (fun _ _ => rfl) us hl⟩,
   ⟨fun_mk (st := s_law_list) l_law_list c_law_list k_law_list, PySem.W.mg_of X G a_law_list, (fun_mk (st := s_law_list) l_law_list c_law_list k_law_list).binds (ps := ["told", "due", "held"]) fun _ _ _ _ _ _ us hl => bl3 (fun _ _ _ => rfl) us hl⟩,
   ⟨fun_mk (st := s_law_answered) l_law_answered c_law_answered k_law_answered, PySem.W.mg_of X G a_law_answered, (fun_mk (st := s_law_answered) l_law_answered c_law_answered k_law_answered).binds (ps := ["made", "setting", "state", "way"]) fun _ _ _ _ _ _ us hl => bl4 (fun _ _ _ _ => rfl) us hl⟩,
   ⟨fun_mk (st := s_law_treadle) l_law_treadle c_law_treadle k_law_treadle, PySem.W.mg_of X G a_law_treadle, (fun_mk (st := s_law_treadle) l_law_treadle c_law_treadle k_law_treadle).binds (ps := ["number", "treadles"]) fun _ _ _ _ _ _ us hl => bl2 (fun _ _ => rfl) us hl⟩,
   ⟨fun_mk (st := s_law_done) l_law_done c_law_done k_law_done, PySem.W.mg_of X G a_law_done, (fun_mk (st := s_law_done) l_law_done c_law_done k_law_done).binds (ps := ["made", "setting", "state", "cell"]) fun _ _ _ _ _ _ us hl => bl4 (fun _ _ _ _ => rfl) us hl⟩,
   ⟨fun_mk (st := s_law) l_law c_law k_law, PySem.W.mg_of X G a_law, (fun_mk (st := s_law) l_law c_law k_law).binds (ps := ["script"]) fun _ _ _ _ _ _ us hl => bl1 (fun _ => rfl) us hl⟩,
   PySem.W.mg_none_of X G z_ValueError,
   PySem.W.mg_none_of X G z_bool,
   PySem.W.mg_none_of X G z_int,
   PySem.W.mg_none_of X G z_isinstance,
   PySem.W.mg_none_of X G z_len,
   PySem.W.mg_none_of X G z_list,
   PySem.W.mg_none_of X G z_range,
   PySem.W.mg_none_of X G z_set,
   PySem.W.mg_none_of X G z_sorted,
   PySem.W.mg_none_of X G z_str,
   PySem.W.mg_none_of X G z_tuple,
   ⟨_, PySem.W.mg_of X G x_MOST_STRANDS⟩,
   ⟨_, PySem.W.mg_of X G x_MOST_SHAFTS⟩,
   PySem.W.mg_of X G n_WeaveError,
   exn_mk y1_WeaveError y2_WeaveError y3_WeaveError y4_WeaveError y5_WeaveError y6_WeaveError y7_WeaveError y8_WeaveError y9_WeaveError y10_WeaveError y11_WeaveError,
   PySem.W.mg_of X G n_TooLarge,
   exn_mk y1_TooLarge y2_TooLarge y3_TooLarge y4_TooLarge y5_WeaveError y6_WeaveError y7_TooLarge y8_TooLarge y9_TooLarge y10_TooLarge y11_TooLarge,
   r_TooLarge_WeaveError,
   r_TooLarge_TooLarge,
   r_TooLarge_NoDraft,
   r_TooLarge_NoDeed,
   PySem.W.mg_of X G n_NoDraft,
   exn_mk y1_NoDraft y2_NoDraft y3_NoDraft y4_NoDraft y5_WeaveError y6_WeaveError y7_NoDraft y8_NoDraft y9_NoDraft y10_NoDraft y11_NoDraft,
   PySem.W.mg_of X G n_NoDeed,
   exn_mk y1_NoDeed y2_NoDeed y3_NoDeed y4_NoDeed y5_WeaveError y6_WeaveError y7_NoDeed y8_NoDeed y9_NoDeed y10_NoDeed y11_NoDeed,
   r_NoDeed_WeaveError,
   r_NoDeed_TooLarge,
   r_NoDeed_NoDraft,
   r_NoDeed_NoDeed,
   PySem.W.mg_of X G n_Draft,
   own_mk o1_Draft o2_Draft o3_Draft o4_Draft o5_Draft fm_Draft___init__ gm_Draft___init__ o8_Draft,
   na_Draft_threading,
   na_Draft_ties,
   na_Draft_treading,
   PySem.W.mg_of X G n_Loom,
   own_mk o1_Loom o2_Loom o3_Loom o4_Loom o5_Loom fm_Loom___init__ gm_Loom___init__ o8_Loom,
   na_Loom_threading,
   na_Loom_ties,
   na_Loom_down,
   na_Loom_thrown,
   na_Loom_deeds,
   ⟨fun_mk (st := s_Draft___init__) lm_Draft___init__ cm_Draft___init__ km_Draft___init__, ⟨fm_Draft___init__, gm_Draft___init__, km_Draft___init__⟩, (fun_mk (st := s_Draft___init__) lm_Draft___init__ cm_Draft___init__ km_Draft___init__).binds (ps := ["self", "threading", "ties", "treading"]) fun _ _ _ _ _ _ us hl => bl4 (fun _ _ _ _ => rfl) us hl⟩,
   ⟨fun_mk (st := s_Loom___init__) lm_Loom___init__ cm_Loom___init__ km_Loom___init__, ⟨fm_Loom___init__, gm_Loom___init__, km_Loom___init__⟩, (fun_mk (st := s_Loom___init__) lm_Loom___init__ cm_Loom___init__ km_Loom___init__).binds (ps := ["self", "threading", "ties"]) fun _ _ _ _ _ _ us hl => bl3 (fun _ _ _ => rfl) us hl⟩,
   ⟨fun_mk (st := s_Loom_press) lm_Loom_press cm_Loom_press km_Loom_press, ⟨fm_Loom_press, gm_Loom_press, km_Loom_press⟩, (fun_mk (st := s_Loom_press) lm_Loom_press cm_Loom_press km_Loom_press).binds (ps := ["self", "treadle"]) fun _ _ _ _ _ _ us hl => bl2 (fun _ _ => rfl) us hl⟩,
   ⟨fun_mk (st := s_Loom_lift) lm_Loom_lift cm_Loom_lift km_Loom_lift, ⟨fm_Loom_lift, gm_Loom_lift, km_Loom_lift⟩, (fun_mk (st := s_Loom_lift) lm_Loom_lift cm_Loom_lift km_Loom_lift).binds (ps := ["self", "treadle"]) fun _ _ _ _ _ _ us hl => bl2 (fun _ _ => rfl) us hl⟩,
   ⟨fun_mk (st := s_Loom_throw) lm_Loom_throw cm_Loom_throw km_Loom_throw, ⟨fm_Loom_throw, gm_Loom_throw, km_Loom_throw⟩, (fun_mk (st := s_Loom_throw) lm_Loom_throw cm_Loom_throw km_Loom_throw).binds (ps := ["self", "colour"]) fun _ _ _ _ _ _ us hl => bl2 (fun _ _ => rfl) us hl⟩,
   ⟨fun_mk (st := s_Loom_unthrow) lm_Loom_unthrow cm_Loom_unthrow km_Loom_unthrow, ⟨fm_Loom_unthrow, gm_Loom_unthrow, km_Loom_unthrow⟩, (fun_mk (st := s_Loom_unthrow) lm_Loom_unthrow cm_Loom_unthrow km_Loom_unthrow).binds (ps := ["self"]) fun _ _ _ _ _ _ us hl => bl1 (fun _ => rfl) us hl⟩,
   ⟨fun_mk (st := s_Loom_undo) lm_Loom_undo cm_Loom_undo km_Loom_undo, ⟨fm_Loom_undo, gm_Loom_undo, km_Loom_undo⟩, (fun_mk (st := s_Loom_undo) lm_Loom_undo cm_Loom_undo km_Loom_undo).binds (ps := ["self"]) fun _ _ _ _ _ _ us hl => bl1 (fun _ => rfl) us hl⟩,
   ⟨fun_mk (st := s_Loom_deeds_done) lm_Loom_deeds_done cm_Loom_deeds_done km_Loom_deeds_done, ⟨fm_Loom_deeds_done, gm_Loom_deeds_done, km_Loom_deeds_done⟩, (fun_mk (st := s_Loom_deeds_done) lm_Loom_deeds_done cm_Loom_deeds_done km_Loom_deeds_done).binds (ps := ["self"]) fun _ _ _ _ _ _ us hl => bl1 (fun _ => rfl) us hl⟩,
   ⟨fun_mk (st := s_Loom_treadles_down) lm_Loom_treadles_down cm_Loom_treadles_down km_Loom_treadles_down, ⟨fm_Loom_treadles_down, gm_Loom_treadles_down, km_Loom_treadles_down⟩, (fun_mk (st := s_Loom_treadles_down) lm_Loom_treadles_down cm_Loom_treadles_down km_Loom_treadles_down).binds (ps := ["self"]) fun _ _ _ _ _ _ us hl => bl1 (fun _ => rfl) us hl⟩,
   ⟨fun_mk (st := s_Loom_shed) lm_Loom_shed cm_Loom_shed km_Loom_shed, ⟨fm_Loom_shed, gm_Loom_shed, km_Loom_shed⟩, (fun_mk (st := s_Loom_shed) lm_Loom_shed cm_Loom_shed km_Loom_shed).binds (ps := ["self"]) fun _ _ _ _ _ _ us hl => bl1 (fun _ => rfl) us hl⟩,
   ⟨fun_mk (st := s_Loom_cloth) lm_Loom_cloth cm_Loom_cloth km_Loom_cloth, ⟨fm_Loom_cloth, gm_Loom_cloth, km_Loom_cloth⟩, (fun_mk (st := s_Loom_cloth) lm_Loom_cloth cm_Loom_cloth km_Loom_cloth).binds (ps := ["self"]) fun _ _ _ _ _ _ us hl => bl1 (fun _ => rfl) us hl⟩,
   ⟨fun_mk (st := s_Loom_colours) lm_Loom_colours cm_Loom_colours km_Loom_colours, ⟨fm_Loom_colours, gm_Loom_colours, km_Loom_colours⟩, (fun_mk (st := s_Loom_colours) lm_Loom_colours cm_Loom_colours km_Loom_colours).binds (ps := ["self"]) fun _ _ _ _ _ _ us hl => bl1 (fun _ => rfl) us hl⟩,
   ⟨fun_mk (st := s_Loom_draft) lm_Loom_draft cm_Loom_draft km_Loom_draft, ⟨fm_Loom_draft, gm_Loom_draft, km_Loom_draft⟩, (fun_mk (st := s_Loom_draft) lm_Loom_draft cm_Loom_draft km_Loom_draft).binds (ps := ["self"]) fun _ _ _ _ _ _ us hl => bl1 (fun _ => rfl) us hl⟩,
   ⟨fun_mk (st := s_Loom_lifted_shafts) lm_Loom_lifted_shafts cm_Loom_lifted_shafts km_Loom_lifted_shafts, ⟨fm_Loom_lifted_shafts, gm_Loom_lifted_shafts, km_Loom_lifted_shafts⟩, (fun_mk (st := s_Loom_lifted_shafts) lm_Loom_lifted_shafts cm_Loom_lifted_shafts km_Loom_lifted_shafts).binds (ps := ["self"]) fun _ _ _ _ _ _ us hl => bl1 (fun _ => rfl) us hl⟩⟩
  have e := hfa.symm.trans (PySem.W.mg_of X G a_law)
  cases e
  exact ⟨_, fun s v => .of_eq rfl, fun base _ _ => ok_law T⟩
end Mine
open PySem PySem.W PyProof.Rows
def PySem.W.Fast.tw9262811837377453957 := ()
def PySem.W.Fast.tw2316119523270914409 := ()
def PySem.W.Fast.tw11851511560992576021 := ()
def PySem.W.Fast.tw7857605919844856344 := ()
def PySem.W.Fast.tw3058173327271438915 := ()
def PySem.W.Fast.tw14888976486612840241 := ()
def PySem.W.Fast.tw5386719444059882128 := ()
def PySem.W.Fast.tw118863956708163997 := ()
def PySem.W.Fast.tw11428595338867237838 := ()
def PySem.W.Fast.tw6211824462109756076 := ()
def PySem.W.Fast.tw10403986864431108338 := ()
def PySem.W.Fast.tw9475639543045993966 := ()
def PySem.W.Fast.tw12899888985774758708 := ()
def PySem.W.Fast.tw17576722237682101414 := ()
def PySem.W.Fast.tw385694786898608724 := ()
def PySem.W.Fast.tw8936462431839855761 := ()
def PySem.W.Fast.tw15626267732608524570 := ()
def PySem.W.Fast.tw1769286318667639491 := ()
def PySem.W.Fast.tw10703836870833192106 := ()
def PySem.W.Fast.tw18424722578126905949 := ()
def PySem.W.Fast.tw1277791538085973702 := ()
def PySem.W.Fast.tw6453290169114897858 := ()
def PySem.W.Fast.tw9391424542403888611 := ()
def PySem.W.Fast.tw11737913544874840293 := ()
def PySem.W.Fast.tw4227734512513620672 := ()
def PySem.W.Fast.tw3078059247818836658 := ()
def PySem.W.Fast.tw15514339487889950351 := ()
def PySem.W.Fast.tw4855973418906051210 := ()
def PySem.W.Fast.tw7115243992130628105 := ()
def PySem.W.Fast.tw1347005733855164235 := ()
def PySem.W.Fast.tw9246229848839045264 := ()
def PySem.W.Fast.tw16647742055380179217 := ()
def PySem.W.Fast.tw11293114968033915041 := ()
def PySem.W.Fast.tw9032765090837116656 := ()
def PySem.W.Fast.tw7958948737791828675 := ()
def PySem.W.Fast.tw15889583272458975568 := ()
def PySem.W.Fast.tw15687154619346895939 := ()
def PySem.W.Fast.tw12301867890330465787 := ()
def PySem.W.Fast.tw4597831672641633777 := ()
def PySem.W.Fast.tw7517192111918777138 := ()
def PySem.W.Fast.tw20039055708631394 := ()
def PySem.W.Fast.tw3861503207675277246 := ()
def PySem.W.Fast.tw3114404674102248629 := ()
def PySem.W.Fast.tw18281162005667164873 := ()
def PySem.W.Fast.tw15215275128005613250 := ()
def PySem.W.Fast.tw12027007848470440101 := ()
def PySem.W.Fast.tw5822391070261044060 := ()
def PySem.W.Fast.tw15764966759906979750 := ()
def PySem.W.Fast.tw4473977890558892527 := ()
def PySem.W.Fast.tw846275375049129855 := ()
def PySem.W.Fast.tw5149917734295719261 := ()
def PySem.W.Fast.tw11674536287019265542 := ()
def PySem.W.Fast.tw12339048926062995088 := ()
def PySem.W.Fast.tw17157596743232343877 := ()
def PySem.W.Fast.tw5994792078391502737 := ()
def PySem.W.Fast.tw5741726235156928041 := ()
def PySem.W.Fast.tw8034353676995359707 := ()
def PySem.W.Fast.tw2692838532439625860 := ()
def PySem.W.Fast.tw12664121090862661858 := ()
def PySem.W.Fast.tw6056213251281442757 := ()
def PySem.W.Fast.tw8883824743278986641 := ()
def PySem.W.Fast.tw10695057948459825139 := ()
def PySem.W.Fast.tw4212711539004501449 := ()
def PySem.W.Fast.tw118269958078037938 := ()
def PySem.W.Fast.tw13151738130986635178 := ()
def PySem.W.Fast.tw15670849547042594712 := ()
def PySem.W.Fast.tw7537675043050126217 := ()
def PySem.W.Fast.tw6023660545860214790 := ()
def PySem.W.Fast.tw11506326174035374688 := ()
def PySem.W.Fast.tw14920291705844866408 := ()
def PySem.W.Fast.tw8465266002492527705 := ()
def PySem.W.Fast.tw16091283174449995940 := ()
def PySem.W.Fast.tw8470925838452304474 := ()
def PySem.W.Fast.tw10678979557328839917 := ()
def PySem.W.Fast.tw13914670730594827374 := ()
def PySem.W.Fast.tw7814757548543703518 := ()
def PySem.W.Fast.tw824362087768868797 := ()
def PySem.W.Fast.tw9141404731369240324 := ()
def PySem.W.Fast.tw2627183407401486110 := ()
def PySem.W.Fast.tw10843627479249809719 := ()
def PySem.W.Fast.tw16106665988293600200 := ()
def PySem.W.Fast.tw2558799065252181541 := ()
def PySem.W.Fast.tw9083574736450518704 := ()
def PySem.W.Fast.tw9595334816145211267 := ()
def PySem.W.Fast.tw12681907011412858952 := ()
def PySem.W.Fast.tw9337607023499430576 := ()
def PySem.W.Fast.tw316458415290052617 := ()
def PySem.W.Fast.tw8766454716352818336 := ()
def PySem.W.Fast.tw1066655838187446000 := ()
def PySem.W.Fast.tw12416709518220457000 := ()
def PySem.W.Fast.tw11108187162364360313 := ()
def PySem.W.Fast.tw14665353163386341305 := ()
def PySem.W.Fast.tw4121373876906097476 := ()
def PySem.W.Fast.tw2574729939238979582 := ()
def PySem.W.Fast.tw9773858548171854152 := ()
def PySem.W.Fast.tw1375605372090157921 := ()
def PySem.W.Fast.tw11028785036099686246 := ()
def PySem.W.Fast.tw12963849195481610038 := ()
def PySem.W.Fast.tw11013943331564897796 := ()
def PySem.W.Fast.tw11469481588852647564 := ()
def PySem.W.Fast.tw14635455439322241113 := ()
def PySem.W.Fast.tw9656519171562793610 := ()
def PySem.W.Fast.tw14256364326099516113 := ()
def PySem.W.Fast.tw3215059775707657206 := ()
def PySem.W.Fast.tw11878479805641060387 := ()
def PySem.W.Fast.tw11772301637032637497 := ()
def PySem.W.Fast.tw7870910921627821303 := ()
def PySem.W.Fast.tw10099149147876870400 := ()
set_option maxRecDepth 100000 in
set_option maxHeartbeats 0 in
theorem PySem.Challenge.cw_heddle_k16_whole_loom_holds : PySem.Challenge.rw_heddle_k16_whole_loom.Holds := by
  w_on; o_law; k_head; (case hw => w_witness2)
  k_fill
  refine L2.walk_ofK (l := PySem.Challenge.rw_heddle_k16_whole_loom) (n := 63) (k := 7) (x := "script") (CX := L2.CX0) (sp := Mine.sp_law) rfl (by decide) rfl ⟨rfl, by decide, by decide⟩ (fun w h Y => PySem.W.kIn_of Y) ?F ?S ?C
  case F =>
    intro w mg fa h KX G hmg
    refine' Mine.law_mk KX G hmg ?a_check_setting ?l_check_setting ?c_check_setting ?k_check_setting ?a_check_count ?l_check_count ?c_check_count ?k_check_count ?a_check_shaft ?l_check_shaft ?c_check_shaft ?k_check_shaft ?a_check_tie ?l_check_tie ?c_check_tie ?k_check_tie ?a_check_treading ?l_check_treading ?c_check_treading ?k_check_treading ?a_shed_over ?l_shed_over ?c_shed_over ?k_shed_over ?a_unlike ?l_unlike ?c_unlike ?k_unlike ?a_law_cell_at ?l_law_cell_at ?c_law_cell_at ?k_law_cell_at ?a_law_sums ?l_law_sums ?c_law_sums ?k_law_sums ?a_law_size ?l_law_size ?c_law_size ?k_law_size ?a_law_threading ?l_law_threading ?c_law_threading ?k_law_threading ?a_law_tie ?l_law_tie ?c_law_tie ?k_law_tie ?a_law_ties ?l_law_ties ?c_law_ties ?k_law_ties ?a_law_lifted ?l_law_lifted ?c_law_lifted ?k_law_lifted ?a_law_shed ?l_law_shed ?c_law_shed ?k_law_shed ?a_law_try ?l_law_try ?c_law_try ?k_law_try ?a_law_cannot ?l_law_cannot ?c_law_cannot ?k_law_cannot ?a_law_moved_on ?l_law_moved_on ?c_law_moved_on ?k_law_moved_on ?a_law_same ?l_law_same ?c_law_same ?k_law_same ?a_law_list ?l_law_list ?c_law_list ?k_law_list ?a_law_answered ?l_law_answered ?c_law_answered ?k_law_answered ?a_law_treadle ?l_law_treadle ?c_law_treadle ?k_law_treadle ?a_law_done ?l_law_done ?c_law_done ?k_law_done ?a_law ?l_law ?c_law ?k_law ?z_ValueError ?z_bool ?z_int ?z_isinstance ?z_len ?z_list ?z_range ?z_set ?z_sorted ?z_str ?z_tuple ?x_MOST_STRANDS ?x_MOST_SHAFTS ?n_WeaveError ?n_TooLarge ?n_NoDraft ?n_NoDeed ?y1_WeaveError ?y2_WeaveError ?y3_WeaveError ?y4_WeaveError ?y5_WeaveError ?y6_WeaveError ?y7_WeaveError ?y8_WeaveError ?y9_WeaveError ?y10_WeaveError ?y11_WeaveError ?y1_TooLarge ?y2_TooLarge ?y3_TooLarge ?y4_TooLarge ?y7_TooLarge ?y8_TooLarge ?y9_TooLarge ?y10_TooLarge ?y11_TooLarge ?r_TooLarge_WeaveError ?r_TooLarge_TooLarge ?r_TooLarge_NoDraft ?r_TooLarge_NoDeed ?y1_NoDraft ?y2_NoDraft ?y3_NoDraft ?y4_NoDraft ?y7_NoDraft ?y8_NoDraft ?y9_NoDraft ?y10_NoDraft ?y11_NoDraft ?y1_NoDeed ?y2_NoDeed ?y3_NoDeed ?y4_NoDeed ?y7_NoDeed ?y8_NoDeed ?y9_NoDeed ?y10_NoDeed ?y11_NoDeed ?r_NoDeed_WeaveError ?r_NoDeed_TooLarge ?r_NoDeed_NoDraft ?r_NoDeed_NoDeed ?n_Draft ?n_Loom ?fm_Draft___init__ ?gm_Draft___init__ ?lm_Draft___init__ ?cm_Draft___init__ ?km_Draft___init__ ?fm_Loom___init__ ?gm_Loom___init__ ?lm_Loom___init__ ?cm_Loom___init__ ?km_Loom___init__ ?fm_Loom_press ?gm_Loom_press ?lm_Loom_press ?cm_Loom_press ?km_Loom_press ?fm_Loom_lift ?gm_Loom_lift ?lm_Loom_lift ?cm_Loom_lift ?km_Loom_lift ?fm_Loom_throw ?gm_Loom_throw ?lm_Loom_throw ?cm_Loom_throw ?km_Loom_throw ?fm_Loom_unthrow ?gm_Loom_unthrow ?lm_Loom_unthrow ?cm_Loom_unthrow ?km_Loom_unthrow ?fm_Loom_undo ?gm_Loom_undo ?lm_Loom_undo ?cm_Loom_undo ?km_Loom_undo ?fm_Loom_deeds_done ?gm_Loom_deeds_done ?lm_Loom_deeds_done ?cm_Loom_deeds_done ?km_Loom_deeds_done ?fm_Loom_treadles_down ?gm_Loom_treadles_down ?lm_Loom_treadles_down ?cm_Loom_treadles_down ?km_Loom_treadles_down ?fm_Loom_shed ?gm_Loom_shed ?lm_Loom_shed ?cm_Loom_shed ?km_Loom_shed ?fm_Loom_cloth ?gm_Loom_cloth ?lm_Loom_cloth ?cm_Loom_cloth ?km_Loom_cloth ?fm_Loom_colours ?gm_Loom_colours ?lm_Loom_colours ?cm_Loom_colours ?km_Loom_colours ?fm_Loom_draft ?gm_Loom_draft ?lm_Loom_draft ?cm_Loom_draft ?km_Loom_draft ?fm_Loom_lifted_shafts ?gm_Loom_lifted_shafts ?lm_Loom_lifted_shafts ?cm_Loom_lifted_shafts ?km_Loom_lifted_shafts ?o1_Draft ?o2_Draft ?o3_Draft ?o4_Draft ?o5_Draft ?o8_Draft ?na_Draft_threading ?na_Draft_ties ?na_Draft_treading ?o1_Loom ?o2_Loom ?o3_Loom ?o4_Loom ?o5_Loom ?o8_Loom ?na_Loom_threading ?na_Loom_ties ?na_Loom_down ?na_Loom_thrown ?na_Loom_deeds
    (case a_check_setting => k_is)
    (case l_check_setting => k_is)
    (case c_check_setting => k_is)
    (case k_check_setting => k_is)
    (case a_check_count => k_is)
    (case l_check_count => k_is)
    (case c_check_count => k_is)
    (case k_check_count => k_is)
    (case a_check_shaft => k_is)
    (case l_check_shaft => k_is)
    (case c_check_shaft => k_is)
    (case k_check_shaft => k_is)
    (case a_check_tie => k_is)
    (case l_check_tie => k_is)
    (case c_check_tie => k_is)
    (case k_check_tie => k_is)
    (case a_check_treading => k_is)
    (case l_check_treading => k_is)
    (case c_check_treading => k_is)
    (case k_check_treading => k_is)
    (case a_shed_over => k_is)
    (case l_shed_over => k_is)
    (case c_shed_over => k_is)
    (case k_shed_over => k_is)
    (case a_unlike => k_is)
    (case l_unlike => k_is)
    (case c_unlike => k_is)
    (case k_unlike => k_is)
    (case a_law_cell_at => k_is)
    (case l_law_cell_at => k_is)
    (case c_law_cell_at => k_is)
    (case k_law_cell_at => k_is)
    (case a_law_sums => k_is)
    (case l_law_sums => k_is)
    (case c_law_sums => k_is)
    (case k_law_sums => k_is)
    (case a_law_size => k_is)
    (case l_law_size => k_is)
    (case c_law_size => k_is)
    (case k_law_size => k_is)
    (case a_law_threading => k_is)
    (case l_law_threading => k_is)
    (case c_law_threading => k_is)
    (case k_law_threading => k_is)
    (case a_law_tie => k_is)
    (case l_law_tie => k_is)
    (case c_law_tie => k_is)
    (case k_law_tie => k_is)
    (case a_law_ties => k_is)
    (case l_law_ties => k_is)
    (case c_law_ties => k_is)
    (case k_law_ties => k_is)
    (case a_law_lifted => k_is)
    (case l_law_lifted => k_is)
    (case c_law_lifted => k_is)
    (case k_law_lifted => k_is)
    (case a_law_shed => k_is)
    (case l_law_shed => k_is)
    (case c_law_shed => k_is)
    (case k_law_shed => k_is)
    (case a_law_try => k_is)
    (case l_law_try => k_is)
    (case c_law_try => k_is)
    (case k_law_try => k_is)
    (case a_law_cannot => k_is)
    (case l_law_cannot => k_is)
    (case c_law_cannot => k_is)
    (case k_law_cannot => k_is)
    (case a_law_moved_on => k_is)
    (case l_law_moved_on => k_is)
    (case c_law_moved_on => k_is)
    (case k_law_moved_on => k_is)
    (case a_law_same => k_is)
    (case l_law_same => k_is)
    (case c_law_same => k_is)
    (case k_law_same => k_is)
    (case a_law_list => k_is)
    (case l_law_list => k_is)
    (case c_law_list => k_is)
    (case k_law_list => k_is)
    (case a_law_answered => k_is)
    (case l_law_answered => k_is)
    (case c_law_answered => k_is)
    (case k_law_answered => k_is)
    (case a_law_treadle => k_is)
    (case l_law_treadle => k_is)
    (case c_law_treadle => k_is)
    (case k_law_treadle => k_is)
    (case a_law_done => k_is)
    (case l_law_done => k_is)
    (case c_law_done => k_is)
    (case k_law_done => k_is)
    (case a_law => k_is)
    (case l_law => k_is)
    (case c_law => k_is)
    (case k_law => k_is)
    (case z_ValueError => k_is)
    (case z_bool => k_is)
    (case z_int => k_is)
    (case z_isinstance => k_is)
    (case z_len => k_is)
    (case z_list => k_is)
    (case z_range => k_is)
    (case z_set => k_is)
    (case z_sorted => k_is)
    (case z_str => k_is)
    (case z_tuple => k_is)
    (case x_MOST_STRANDS => k_is)
    (case x_MOST_SHAFTS => k_is)
    (case n_WeaveError => k_is)
    (case n_TooLarge => k_is)
    (case n_NoDraft => k_is)
    (case n_NoDeed => k_is)
    (case y1_WeaveError => k_exc)
    (case y2_WeaveError => k_is)
    (case y3_WeaveError => k_is)
    (case y4_WeaveError => k_is)
    (case y5_WeaveError => k_is)
    (case y6_WeaveError => k_is)
    (case y7_WeaveError => k_is)
    (case y8_WeaveError => k_is)
    (case y9_WeaveError => k_is)
    (case y10_WeaveError => k_is)
    (case y11_WeaveError => k_is)
    (case y1_TooLarge => k_exc)
    (case y2_TooLarge => k_is)
    (case y3_TooLarge => k_is)
    (case y4_TooLarge => k_is)
    (case y7_TooLarge => k_is)
    (case y8_TooLarge => k_is)
    (case y9_TooLarge => k_is)
    (case y10_TooLarge => k_is)
    (case y11_TooLarge => k_is)
    (case r_TooLarge_WeaveError => k_is)
    (case r_TooLarge_TooLarge => k_is)
    (case r_TooLarge_NoDraft => k_is)
    (case r_TooLarge_NoDeed => k_is)
    (case y1_NoDraft => k_exc)
    (case y2_NoDraft => k_is)
    (case y3_NoDraft => k_is)
    (case y4_NoDraft => k_is)
    (case y7_NoDraft => k_is)
    (case y8_NoDraft => k_is)
    (case y9_NoDraft => k_is)
    (case y10_NoDraft => k_is)
    (case y11_NoDraft => k_is)
    (case y1_NoDeed => k_exc)
    (case y2_NoDeed => k_is)
    (case y3_NoDeed => k_is)
    (case y4_NoDeed => k_is)
    (case y7_NoDeed => k_is)
    (case y8_NoDeed => k_is)
    (case y9_NoDeed => k_is)
    (case y10_NoDeed => k_is)
    (case y11_NoDeed => k_is)
    (case r_NoDeed_WeaveError => k_is)
    (case r_NoDeed_TooLarge => k_is)
    (case r_NoDeed_NoDraft => k_is)
    (case r_NoDeed_NoDeed => k_is)
    (case n_Draft => k_is)
    (case n_Loom => k_is)
    (case fm_Draft___init__ => k_is)
    (case gm_Draft___init__ => k_is)
    (case lm_Draft___init__ => k_is)
    (case cm_Draft___init__ => k_is)
    (case km_Draft___init__ => k_is)
    (case fm_Loom___init__ => k_is)
    (case gm_Loom___init__ => k_is)
    (case lm_Loom___init__ => k_is)
    (case cm_Loom___init__ => k_is)
    (case km_Loom___init__ => k_is)
    (case fm_Loom_press => k_is)
    (case gm_Loom_press => k_is)
    (case lm_Loom_press => k_is)
    (case cm_Loom_press => k_is)
    (case km_Loom_press => k_is)
    (case fm_Loom_lift => k_is)
    (case gm_Loom_lift => k_is)
    (case lm_Loom_lift => k_is)
    (case cm_Loom_lift => k_is)
    (case km_Loom_lift => k_is)
    (case fm_Loom_throw => k_is)
    (case gm_Loom_throw => k_is)
    (case lm_Loom_throw => k_is)
    (case cm_Loom_throw => k_is)
    (case km_Loom_throw => k_is)
    (case fm_Loom_unthrow => k_is)
    (case gm_Loom_unthrow => k_is)
    (case lm_Loom_unthrow => k_is)
    (case cm_Loom_unthrow => k_is)
    (case km_Loom_unthrow => k_is)
    (case fm_Loom_undo => k_is)
    (case gm_Loom_undo => k_is)
    (case lm_Loom_undo => k_is)
    (case cm_Loom_undo => k_is)
    (case km_Loom_undo => k_is)
    (case fm_Loom_deeds_done => k_is)
    (case gm_Loom_deeds_done => k_is)
    (case lm_Loom_deeds_done => k_is)
    (case cm_Loom_deeds_done => k_is)
    (case km_Loom_deeds_done => k_is)
    (case fm_Loom_treadles_down => k_is)
    (case gm_Loom_treadles_down => k_is)
    (case lm_Loom_treadles_down => k_is)
    (case cm_Loom_treadles_down => k_is)
    (case km_Loom_treadles_down => k_is)
    (case fm_Loom_shed => k_is)
    (case gm_Loom_shed => k_is)
    (case lm_Loom_shed => k_is)
    (case cm_Loom_shed => k_is)
    (case km_Loom_shed => k_is)
    (case fm_Loom_cloth => k_is)
    (case gm_Loom_cloth => k_is)
    (case lm_Loom_cloth => k_is)
    (case cm_Loom_cloth => k_is)
    (case km_Loom_cloth => k_is)
    (case fm_Loom_colours => k_is)
    (case gm_Loom_colours => k_is)
    (case lm_Loom_colours => k_is)
    (case cm_Loom_colours => k_is)
    (case km_Loom_colours => k_is)
    (case fm_Loom_draft => k_is)
    (case gm_Loom_draft => k_is)
    (case lm_Loom_draft => k_is)
    (case cm_Loom_draft => k_is)
    (case km_Loom_draft => k_is)
    (case fm_Loom_lifted_shafts => k_is)
    (case gm_Loom_lifted_shafts => k_is)
    (case lm_Loom_lifted_shafts => k_is)
    (case cm_Loom_lifted_shafts => k_is)
    (case km_Loom_lifted_shafts => k_is)
    (case o1_Draft => k_is)
    (case o2_Draft => k_is)
    (case o3_Draft => k_is)
    (case o4_Draft => k_is)
    (case o5_Draft => k_is)
    (case o8_Draft => k_is)
    (case na_Draft_threading => k_is)
    (case na_Draft_ties => k_is)
    (case na_Draft_treading => k_is)
    (case o1_Loom => k_is)
    (case o2_Loom => k_is)
    (case o3_Loom => k_is)
    (case o4_Loom => k_is)
    (case o5_Loom => k_is)
    (case o8_Loom => k_is)
    (case na_Loom_threading => k_is)
    (case na_Loom_ties => k_is)
    (case na_Loom_down => k_is)
    (case na_Loom_thrown => k_is)
    (case na_Loom_deeds => k_is)
  case S => exact fun K H a ns hl hO hS => Mine.sp_law_holds hl hS
  case C => exact fun _ _ _ _ z => z
