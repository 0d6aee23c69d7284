import PyProof.Rows.All
import Wide.All
import OpenK.AllK
import Wide.FinOn
import Lean
import PyProof.EqAt
import PyProof.EqKinds
import PyProof.TupleCall
import PyProof.StrBlockL
import PyProof.EnumMake
import PyProof.CollectIter
import PyProof.JoinWalk
import PyProof.StrOps
import PyProof.StrLawsIdx
import PyProof.StrLawsIn
import PyProof.ListRange
import PyProof.Rows.Range3
import PyProof.Rows.SumAny
import KE.KIntText
import KE.LcSums
import PyProof.LongRange
import PyProof.StrOps2
import PyProof.FitsBits
import PyProof.NeKinds
import PyProof.Rows.ZipGen
import PyProof.Draws
import PyProof.Rows.SeqMore
import PyProof.ConsumeWalk
import PyProof.Rows.StrNews
import PyProof.StrLawsChain
import PySem.Challenge.RW_heddle_k70_drafts_read
set_option Elab.async false
set_option linter.all false
set_option maxRecDepth 100000
namespace L2
open PySem PySem.Spec PyProof.Rows
abbrev Key := Sum Int Str
def keyIs : Key → Value → Bool
  | .inl k, v => Value.isInt k v
  | .inr x, v => Value.isStrOf x v
def keyH (w : World) : Key → Int
  | .inl k => hashInt k
  | .inr x => hashStr w x
theorem keyIs_shape : ∀ {k : Key} {v : Value}, keyIs k v = true → (∃ i t, k = Sum.inl i ∧ v = Value.int i t) ∨ (∃ x t, k = Sum.inr x ∧ v = Value.str x t)
  | .inl i, v, h => by
    obtain ⟨t, e⟩ := Value.isInt_shape (k := i) (v := v) h
    exact .inl ⟨i, t, rfl, e⟩
  | .inr x, v, h => by
    obtain ⟨t, e⟩ := Value.isStrOf_shape (x := x) (v := v) h
    exact .inr ⟨x, t, rfl, e⟩
theorem key_ll (a b : Int) : decide ((Sum.inl a : Key) = Sum.inl b) = (a == b) := by
  by_cases e : a = b
  · subst e; simp
  · have h : ¬ (Sum.inl a : Key) = Sum.inl b := fun q => e (Sum.inl.inj q)
    rw [decide_eq_false h]
    exact (beq_eq_false_iff_ne.mpr e).symm
theorem key_rr (a b : Str) : decide ((Sum.inr a : Key) = Sum.inr b) = decide (a = b) := by
  by_cases e : a = b
  · subst e; simp
  · have h : ¬ (Sum.inr a : Key) = Sum.inr b := fun q => e (Sum.inr.inj q)
    rw [decide_eq_false h, decide_eq_false e]
theorem key_lr (a : Int) (b : Str) : decide ((Sum.inl a : Key) = Sum.inr b) = false := decide_eq_false (fun q => nomatch q)
theorem key_rl (a : Str) (b : Int) : decide ((Sum.inr a : Key) = Sum.inl b) = false := decide_eq_false (fun q => nomatch q)
def mixKind (prog : Program) (w : World) : PySem.KeyKind prog w Key where
  is := keyIs
  hash := keyH w
  inj := fun v a b ha hb => by
    rcases keyIs_shape ha with ⟨i, t, rfl, rfl⟩ | ⟨x, t, rfl, rfl⟩
    · rcases keyIs_shape hb with ⟨j, u, rfl, e⟩ | ⟨y, u, rfl, e⟩
      · injection e with e1 _; rw [e1]
      · exact nomatch e
    · rcases keyIs_shape hb with ⟨j, u, rfl, e⟩ | ⟨y, u, rfl, e⟩
      · exact nomatch e
      · injection e with e1 _; rw [e1]
  byValue := fun k v h => by
    rcases keyIs_shape h with ⟨i, t, rfl, rfl⟩ | ⟨x, t, rfl, rfl⟩ <;> rfl
  pyHash := fun hv h => by
    rcases keyIs_shape hv with ⟨i, t, rfl, rfl⟩ | ⟨x, t, rfl, rfl⟩
    · exact wpAny_pyHash_int h
    · exact wpAny_pyHash_str h
  eqBool := fun hu hv h => by
    rcases keyIs_shape hu with ⟨i, t, rfl, rfl⟩ | ⟨x, t, rfl, rfl⟩
    · rcases keyIs_shape hv with ⟨j, u, rfl, rfl⟩ | ⟨y, u, rfl, rfl⟩
      · rw [key_ll] at h; exact wpAny_eqBool_int h
      · rw [key_lr] at h; exact SeqAt.EqAt.int_str i t y u _ _ _ _ h
    · rcases keyIs_shape hv with ⟨j, u, rfl, rfl⟩ | ⟨y, u, rfl, rfl⟩
      · rw [key_rl] at h; exact SeqAt.EqAt.str_int x t j u _ _ _ _ h
      · rw [key_rr] at h; exact wpAny_eqBool_str h
  «strs» := fun k x t v h => by
    rcases keyIs_shape h with ⟨i, u, rfl, e⟩ | ⟨y, u, rfl, e⟩
    · exact nomatch e
    · injection e with e1 _
      subst e1
      cases v <;> rfl
open PySem PySem.Spec PyProof.Rows
inductive V where
  | non | bl (b : Bool) | int (i : Int) | str (x : Str) | byt (b : Array UInt8) | flt (b : UInt64) | ref (a : Addr) | ty (n : String)
  deriving DecidableEq
def RelV : V → Value → Prop
  | .non, u => u = Value.none
  | .bl b, u => u = Value.bool b
  | .int i, u => ∃ t, u = Value.int i t
  | .str x, u => ∃ t, u = Value.str x t
  | .byt b, u => ∃ t, u = Value.bytes b t
  | .flt b, u => ∃ t, u = Value.float b t
  | .ref a, u => u = Value.ref a
  | .ty n, u => u = Value.type n
abbrev Vals : List V → List Value → Prop := Paired RelV
theorem Vals.length {xs : List V} {us : List Value} (r : Vals xs us) : xs.length = us.length := Paired.length r
theorem Vals.get : ∀ {xs : List V} {us : List Value} {i : Nat} {x : V}, Vals xs us → xs[i]? = some x → ∃ u, us[i]? = some u ∧ RelV x u
  | _, _, _, _, .nil, e => by simp at e
  | _, _, 0, _, .cons r _, e => by simp at e; subst e; exact ⟨_, rfl, r⟩
  | _, _, i + 1, x, .cons _ t, e => by
    obtain ⟨u, h1, h2⟩ := Vals.get (i := i) (x := x) t (by simpa using e)
    exact ⟨u, by simpa using h1, h2⟩
theorem Vals.set {x : V} {u : Value} (r : RelV x u) : ∀ {xs : List V} {us : List Value} (i : Nat), Vals xs us → Vals (xs.set i x) (us.set i u)
  | _, _, _, .nil => .nil
  | _, _, 0, .cons _ t => .cons r t
  | _, _, i + 1, .cons q t => .cons q (Vals.set r i t)
theorem Vals.append : ∀ {xs ys : List V} {us ws : List Value}, Vals xs us → Vals ys ws → Vals (xs ++ ys) (us ++ ws)
  | _, _, _, _, .nil, s => s
  | _, _, _, _, .cons r t, s => .cons r (Vals.append t s)
theorem Vals.take : ∀ {xs : List V} {us : List Value} (n : Nat), Vals xs us → Vals (xs.take n) (us.take n)
  | _, _, 0, _ => .nil
  | _, _, _ + 1, .nil => .nil
  | _, _, n + 1, .cons r t => .cons r (Vals.take n t)
theorem Vals.drop : ∀ {xs : List V} {us : List Value} (n : Nat), Vals xs us → Vals (xs.drop n) (us.drop n)
  | _, _, 0, r => r
  | _, _, _ + 1, .nil => .nil
  | _, _, n + 1, .cons _ t => Vals.drop n t
def RelO : Option V → Option Value → Prop
  | some v, some u => RelV v u
  | none, none => True
  | _, _ => False
def KV {κ : Type} : List (κ × V) → List (κ × Value) → Prop := Paired fun (p : κ × V) (q : κ × Value) => p.1 = q.1 ∧ RelV p.2 q.2
def kV : Key → V
  | .inl i => .int i
  | .inr x => .str x
inductive HO where
  | lst (xs : List V)
  | tup (xs : List V)
  | dK (kvs : List (Key × V)) | dT (kvs : List (List Key × V))
  | set (S : Int → Bool) (n : Nat)
  | ins (C dx : Addr) (fs : List (Str × V))
  | own (x : Addr)
  | xd (fs : List (Str × V))
  | met (f x : Addr)
  | rng (lo hi : Int)
  | frz (o : Obj) (u : HO)
  | tbl (ps : Array Value)
  | ext (φ : Heap → Prop)
abbrev Hp := Addr → Option HO
def upd (H : Hp) (a : Addr) (o : HO) : Hp := fun b => if b = a then some o else H b
theorem upd_same {H : Hp} {a : Addr} {o : HO} : upd H a o a = some o := by unfold upd; rw [if_pos rfl]
theorem upd_ne {H : Hp} {a b : Addr} {o : HO} (h : b ≠ a) : upd H a o b = H b := by unfold upd; rw [if_neg h]
theorem upd_upd {H : Hp} {a : Addr} {o u : HO} : upd (upd H a o) a u = upd H a u := by
  funext b; unfold upd; split <;> rfl
theorem ne_of_none {H : Hp} {a b : Addr} {o : HO} (h : H a = some o) (h' : H b = none) : a ≠ b := by
  intro e; subst e; rw [h] at h'; cases h'
section
variable (P : Program) (w : World)
def ObjOk (H : Hp) (h : Heap) (a : Addr) : HO → Prop
  | .lst xs => xs.length ≤ sizeLine ∧ ∃ (its : List Value) (n : Nat), Vals xs its ∧ h.get? a = some { cls := .type "list", data := .seq its.toArray n }
  | .tup xs => xs.length ≤ sizeLine ∧ ∃ its : List Value, Vals xs its ∧ IsTup h a its.toArray
  | .dK kvs => kvs.length ≤ sizeLine ∧ (a == sysModules) = false ∧ ∃ vs, KV kvs vs ∧ h.DictOf (mixKind P w) a vs
  | .dT kvs => kvs.length ≤ sizeLine ∧ (a == sysModules) = false ∧ ∃ xs : List (List Key × Addr × Value),
      Paired (fun (p : List Key × V) (q : List Key × Addr × Value) => p.1 = q.1 ∧ H q.2.1 = some (.tup (p.1.map kV)) ∧ RelV p.2 q.2.2) kvs xs ∧
      ∃ o es ep, h.get? a = some o ∧ o.ExactDict ∧ o.data = .dict es ep ∧ es.toList = xs.map (entryOfKey (tupleKind (mixKind P w))) ∧ (xs.map (·.1)).Nodup
  | .set S n => h.SetOf (intKind P w) a S n
  | .ins C dx fs => H dx = some (.own a) ∧ fs.length ≤ 1000 ∧ dx ≠ a ∧ h.get? a = some (PySem.W.instObj C dx) ∧
      ∃ mA, h.Ns1 dx mA ∧ (∀ f, RelO (fs.lookup f) (mA f)) ∧ PySem.Within mA (fs.map (·.1))
  | .own _ => ∃ o, h.get? a = some o
  | .xd fs => ∃ mA, h.Ns1 a mA ∧ ∀ f, RelO (fs.lookup f) (mA f)
  | .rng lo hi => ∃ t u v, h.get? a = some { cls := .type "range", data := .fields #[.int lo t, .int hi u, .int 1 v] }
  | .frz o u => h.get? a = some o ∧ ObjOk H h a u
  | .tbl ps => h.get? a = some { cls := .none, data := .fields ps }
  | .met f x => h.get? a = some (PySem.W.methodObj (.ref f) (.ref x))
  | .ext φ => φ h ∧ (∃ o, h.get? a = some o) ∧ ∀ h1 h2 : Heap, φ h1 → (∀ o, h1.get? a = some o → h2.get? a = some o) → φ h2
def HOk (H : Hp) (h : Heap) : Prop := ∀ a o, H a = some o → ObjOk P w H h a o
end
section
variable {P : Program} {w : World} {H H' : Hp} {h h' : Heap} {a : Addr} {o : HO}
theorem ObjOk.lt (x : ObjOk P w H h a o) : a < h.objs.size := by
  cases o with
  | lst xs => obtain ⟨_, _, _, _, e⟩ := x; exact Heap.lt_size e
  | tup xs => obtain ⟨_, _, _, p⟩ := x; exact p.lt
  | dK kvs => obtain ⟨_, _, _, _, o, _, _, e, _⟩ := x; exact Heap.lt_size e
  | dT kvs => obtain ⟨_, _, _, _, o, _, _, e, _⟩ := x; exact Heap.lt_size e
  | set S n => obtain ⟨o, _, _, _, e, _⟩ := x; exact Heap.lt_size e
  | ins C dx fs => obtain ⟨_, _, _, e, _⟩ := x; exact Heap.lt_size e
  | own y => obtain ⟨_, e⟩ := x; exact Heap.lt_size e
  | xd fs => obtain ⟨_, ⟨_, _, _, e, _⟩, _⟩ := x; exact Heap.lt_size e
  | rng lo hi => obtain ⟨_, _, _, e⟩ := x; exact Heap.lt_size e
  | frz ob u => obtain ⟨e, _⟩ := x; exact Heap.lt_size e
  | tbl ps => exact Heap.lt_size (show h.get? a = some _ from x)
  | met f y => exact Heap.lt_size (show h.get? a = some _ from x)
  | ext φ => obtain ⟨_, ⟨_, e⟩, _⟩ := x; exact Heap.lt_size e
theorem Paired.mapP {α β : Type} {F G : α → β → Prop} : ∀ {l₁ : List α} {l₂ : List β}, Paired F l₁ l₂ → (∀ a b, F a b → G a b) → Paired G l₁ l₂
  | _, _, .nil, _ => .nil
  | _, _, .cons r t, f => .cons (f _ _ r) (Paired.mapP t f)
theorem ObjOk.stay (x : ObjOk P w H h a o) (k : ∀ b u, (b = a ∨ H b = some (.own a)) → h.get? b = some u → h'.get? b = some u)
    (ho : ∀ b, H b = some (.own a) → H' b = some (.own a)) (ht : ∀ b xs, H b = some (.tup xs) → H' b = some (.tup xs)) : ObjOk P w H' h' a o := by
  induction o with
  | lst xs => obtain ⟨z, its, n, r, e⟩ := x; exact ⟨z, its, n, r, k _ _ (.inl rfl) e⟩
  | tup xs => obtain ⟨z, its, r, ob, e, c⟩ := x; exact ⟨z, its, r, ob, k _ _ (.inl rfl) e, c⟩
  | dK kvs => obtain ⟨z, y, vs, r, ob, es, ep, e, c⟩ := x; exact ⟨z, y, vs, r, ob, es, ep, k _ _ (.inl rfl) e, c⟩
  | dT kvs =>
    obtain ⟨z, y, xs, r, ob, es, ep, e, c⟩ := x
    exact ⟨z, y, xs, Paired.mapP r fun p q z => ⟨z.1, ht _ _ z.2.1, z.2.2⟩, ob, es, ep, k _ _ (.inl rfl) e, c⟩
  | set S n => obtain ⟨ob, es, ep, t, e, c⟩ := x; exact ⟨ob, es, ep, t, k _ _ (.inl rfl) e, c⟩
  | ins C dx fs =>
    obtain ⟨d, z, ne, e, mA, ⟨od, es, ep, e2, c⟩, r⟩ := x
    exact ⟨ho _ d, z, ne, k _ _ (.inl rfl) e, mA, ⟨od, es, ep, k _ _ (.inr d) e2, c⟩, r⟩
  | own y => obtain ⟨ob, e⟩ := x; exact ⟨ob, k _ _ (.inl rfl) e⟩
  | xd fs => obtain ⟨mA, ⟨od, es, ep, e, c⟩, r⟩ := x; exact ⟨mA, ⟨od, es, ep, k _ _ (.inl rfl) e, c⟩, r⟩
  | rng lo hi => obtain ⟨t, u, v, e⟩ := x; exact ⟨t, u, v, k _ _ (.inl rfl) e⟩
  | frz ob u ih => obtain ⟨e, q⟩ := x; exact ⟨k _ _ (.inl rfl) e, ih q⟩
  | tbl ps =>
    have e : h.get? a = some { cls := .none, data := .fields ps } := x
    show h'.get? a = some { cls := .none, data := .fields ps }
    exact k a _ (.inl rfl) e
  | met f y =>
    have e : h.get? a = some (PySem.W.methodObj (.ref f) (.ref y)) := x
    show h'.get? a = some (PySem.W.methodObj (.ref f) (.ref y))
    exact k a _ (.inl rfl) e
  | ext φ => obtain ⟨p, ⟨o, e⟩, st⟩ := x; exact ⟨st _ _ p fun o q => k _ _ (.inl rfl) q, ⟨o, k _ _ (.inl rfl) e⟩, st⟩
theorem HOk.lt (x : HOk P w H h) (e : H a = some o) : a < h.objs.size := (x a o e).lt
theorem HOk.fresh (x : HOk P w H h) (e : h.objs.size ≤ a) : H a = none := by
  cases q : H a with
  | none => rfl
  | some u => exact absurd (Nat.lt_of_lt_of_le (x.lt q) e) (Nat.lt_irrefl _)
theorem HOk.kept (x : HOk P w H h) (k : ∀ b u, h.get? b = some u → h'.get? b = some u) : HOk P w H h' := fun a o e =>
  (x a o e).stay (fun b u _ q => k b u q) (fun _ q => q) fun _ _ q => q
theorem HOk.laid (x : HOk P w H h) (k : ∀ b u, h.get? b = some u → h'.get? b = some u) (hp : h.objs.size ≤ a) (new : ObjOk P w (upd H a o) h' a o) : HOk P w (upd H a o) h' := fun b u e => by
  have hn := x.fresh hp
  by_cases hb : b = a
  · subst hb; rw [upd_same] at e; cases e; exact new
  · rw [upd_ne hb] at e
    exact (x b u e).stay (fun c v _ q => k c v q) (fun c q => by rw [upd_ne (ne_of_none q hn)]; exact q) fun c xs q => by rw [upd_ne (ne_of_none q hn)]; exact q
end
def Rd (H : Hp) (a : Addr) (u : HO) : Prop := H a = some u ∨ ∃ o, H a = some (.frz o u)
theorem Rd.ok {P : Program} {w : World} {H : Hp} {h : Heap} {a : Addr} {u : HO} (r : Rd H a u) (x : HOk P w H h) : ObjOk P w H h a u := by
  rcases r with r | ⟨o, r⟩
  · exact x a u r
  · obtain ⟨_, q⟩ := x a _ r
    exact q
def Mut : Option HO → Prop
  | some (.lst _) => True
  | some (.dK _) => True
  | some (.dT _) => True
  | some (.set _ _) => True
  | some (.ins _ _ _) => True
  | some (.ext _) => True
  | _ => False
section
variable {P : Program} {w : World} {H : Hp} {h h' : Heap} {x e : Addr} {o' : HO}
theorem HOk.write (ok : HOk P w H h) (mu : Mut (H x)) (he : e = x ∨ H e = some (.own x)) (k : ∀ b u, b ≠ e → h.get? b = some u → h'.get? b = some u) (heo : ∃ u, h'.get? e = some u)
    (new : ObjOk P w (upd H x o') h' x o') : HOk P w (upd H x o') h' := fun b u q => by
  have nown : ∀ c y, H c = some (.own y) → c ≠ x := fun c y r z => by subst z; rw [r] at mu; exact mu
  have ntup : ∀ c xs, H c = some (.tup xs) → c ≠ x := fun c xs r z => by subst z; rw [r] at mu; exact mu
  by_cases hb : b = x
  · subst hb; rw [upd_same] at q; cases q; exact new
  · rw [upd_ne hb] at q
    by_cases hbe : b = e
    · have q' : H b = some (.own x) := by
        rcases he with z | z
        · exact absurd (hbe.trans z) hb
        · rw [hbe]; exact z
      rw [q] at q'; cases q'
      obtain ⟨v, hv⟩ := heo
      exact ⟨v, by rw [hbe]; exact hv⟩
    · refine (ok b u q).stay (fun c v hc r => k c v ?_ r) (fun c r => by rw [upd_ne (nown c b r)]; exact r) fun c xs r => by rw [upd_ne (ntup c xs r)]; exact r
      rcases hc with rfl | hc
      · exact hbe
      · rintro rfl
        rcases he with z | z
        · exact nown c b hc z
        · rw [hc] at z; cases z; exact hb rfl
end
structure Un (fs ex : List Addr) (H H' : Hp) (h h' : Heap) : Prop where
  keep : ∀ b o, h.get? b = some o → H b = none → b ∉ fs → b ∉ ex → h'.get? b = some o
  slot : ∀ b o, h.get? b = some o → H b = none → b ∈ fs → b ∉ ex → ∃ sl, h'.get? b = some { o with slots := sl }
  free : ∀ b o, h.get? b = some o → H b = none → b ∉ ex → H' b = none
  there : ∀ b o, h.get? b = some o → b ∉ ex → ∃ o', h'.get? b = some o'
  tups : ∀ b xs, H b = some (.tup xs) → H' b = some (.tup xs)
  frzs : ∀ b o u, H b = some (.frz o u) → H' b = some (.frz o u)
  tbls : ∀ b ps, H b = some (.tbl ps) → ∃ more, H' b = some (.tbl (ps ++ more))
section
variable {fs fs' ex ex' : List Addr} {H H1 H2 : Hp} {h h1 h2 h' : Heap} {a x e : Addr} {o : HO}
theorem Un.any (u : Un fs ex H H1 h h1) {b : Addr} {ob : Obj} (q : h.get? b = some ob) (n : H b = none) (hx : b ∉ ex) : ∃ sl, h1.get? b = some { ob with slots := sl } := by
  by_cases hb : b ∈ fs
  · exact u.slot b ob q n hb hx
  · exact ⟨ob.slots, u.keep b ob q n hb hx⟩
theorem Un.kept (k : ∀ b u, h.get? b = some u → h'.get? b = some u) : Un fs ex H H h h' :=
  ⟨fun b ob q _ _ _ => k b ob q, fun b ob q _ _ _ => ⟨ob.slots, k b ob q⟩, fun _ _ _ n _ => n, fun b ob q _ => ⟨ob, k b ob q⟩, fun _ _ q => q, fun _ _ _ q => q, fun _ ps q => ⟨#[], by rw [q]; simp⟩⟩
theorem Un.refl : Un fs ex H H h h := Un.kept fun _ _ q => q
theorem Un.laid (k : ∀ b u, h.get? b = some u → h'.get? b = some u) (hp : h.objs.size ≤ a) (hn : H a = none) : Un fs ex H (upd H a o) h h' where
  keep := fun b u q _ _ _ => k b u q
  slot := fun b u q _ _ _ => ⟨u.slots, k b u q⟩
  free := fun b u q n _ => by rw [upd_ne (Nat.ne_of_lt (Nat.lt_of_lt_of_le (Heap.lt_size q) hp))]; exact n
  there := fun b u q _ => ⟨u, k b u q⟩
  tups := fun b xs q => by rw [upd_ne (ne_of_none q hn)]; exact q
  frzs := fun b u xs q => by rw [upd_ne (ne_of_none q hn)]; exact q
  tbls := fun b ps q => ⟨#[], by rw [upd_ne (ne_of_none q hn), q]; simp⟩
theorem Un.write (mu : Mut (H x)) (he : e = x ∨ H e = some (.own x)) (k : ∀ b u, b ≠ e → h.get? b = some u → h'.get? b = some u) (heo : ∃ u, h'.get? e = some u) : Un fs ex H (upd H x o) h h' := by
  have hx : ∀ b, H b = none → b ≠ x := fun b n z => by subst z; rw [n] at mu; exact mu
  have hb : ∀ b, H b = none → b ≠ e := fun b n z => by
    subst z
    rcases he with r | r
    · exact hx b n r
    · rw [n] at r; cases r
  have hm : ∀ b u, H b = some u → ¬ Mut (some u) → b ≠ x := fun b u q nm z => by subst z; rw [q] at mu; exact nm mu
  refine ⟨fun b u q n _ _ => k b u (hb b n) q, fun b u q n _ _ => ⟨u.slots, k b u (hb b n) q⟩, fun b u q n _ => by rw [upd_ne (hx b n)]; exact n, fun b u q _ => ?_,
    fun b xs q => by rw [upd_ne (hm b _ q fun z => z)]; exact q, fun b u xs q => by rw [upd_ne (hm b _ q fun z => z)]; exact q, fun b ps q => ⟨#[], by rw [upd_ne (hm b _ q fun z => z), q]; simp⟩⟩
  by_cases hbe : b = e
  · subst hbe; exact heo
  · exact ⟨u, k b u hbe q⟩
end
def trk (h : Heap) (H : Hp) : List Addr := (List.range h.objs.size).filter fun a => (H a).isSome
def hidT (h : Heap) (H : Hp) : Heap := PySem.W.hideAll h (trk h H)
theorem hidT_size (h : Heap) (H : Hp) : (hidT h H).objs.size = h.objs.size := PySem.W.hideAll_size _ _
theorem hidT_get {h : Heap} {H : Hp} {b : Addr} {o : Obj} (e : h.get? b = some o) (n : H b = none) : (hidT h H).get? b = some o :=
  PySem.W.hideAll_get _ e fun hm => by
    have q : (H b).isSome = true := (List.mem_filter.mp hm).2
    rw [n] at q; simp at q
theorem of_hidT {h : Heap} {H : Hp} {b : Addr} {o : Obj} (e : (hidT h H).get? b = some o) : h.get? b = some o ∧ H b = none := by
  have e' : h.get? b = some o := PySem.W.of_hideAll (trk h H) e
  refine ⟨e', ?_⟩
  cases q : H b with
  | none => rfl
  | some x =>
    have hm : b ∈ trk h H := List.mem_filter.mpr ⟨List.mem_range.mpr (Heap.lt_size e'), by simp [q]⟩
    have z : (hidT h H).get? b = none := PySem.W.hideAll_none (trk h H) hm
    rw [z] at e; cases e
def allNews (g h : Heap) (L : Addr) : List (Addr × Obj) := (List.range h.objs.size).filterMap fun a => if a = L ∨ (g.get? a).isSome = true then none else (h.get? a).map fun o => (a, o)
def rest (g h : Heap) (L d : Addr) : List (Addr × Obj) := (allNews g h L).filter fun p => decide (p.1 ≠ d)
open PySem PySem.Spec PyProof.Rows
structure Mod (K : PySem.W.Frag) (mg : Str → Option Value) (base : Heap) : Prop where
  kin : K.In base
  glob : base.Ns mainGlobals mg
  blt : ∃ mb, base.Ns builtinsNs mb ∧ ∀ x : Str, x ≠ "__name__" → mb x = bootBuiltins x
  nolimit : base.NoLimit
structure Cx where
  prog : Program
  w : World
  K : PySem.W.Frag
  mg : Str → Option Value
  base : Heap
  A : Around
  N : List Str
  s₀ : Shared
  H₀ : Hp
  env : Env
  outer : List Env
  stack : List Env
  ex : List Addr
  fn : Str → Bool
  calm : Bool
  pn : List (Addr × Obj)
  xe : Value → Shared → Prop
def frs (l : List Env) : List Addr := l.filterMap (·.frame)
abbrev Cx.fs (X : Cx) : List Addr := frs X.outer
def Vis (sc : Scope) (x : Str) : Prop := sc.names.lookup x = some .local ∨ sc.names.lookup x = some .cell ∨ sc.names.lookup x = some .free
def Loc (sc : Scope) (x : Str) : Prop := sc.names.lookup x = some .local ∨ sc.names.lookup x = some .cell
def Look (env : Env) (h : Heap) (m : Str → Option Value) (x : Str) (u : Value) : Prop :=
  (env.kindOf x = some .local ∧ m x = some u) ∨ ((env.kindOf x = some .cell ∨ env.kindOf x = some .free) ∧ ∃ c, env.cells.lookup x = some c ∧ h.IsCell c (some u))
structure Cx.Ok (X : Cx) : Prop where
  mod : Mod X.K X.mg X.base
  kind : X.env.scope.kind = .function
  glob : X.env.globals = mainGlobals
  blt : X.env.builtins = builtinsNs
  above : X.s₀.heap.objs.size ≤ X.env.locals
  inj : ∀ x y c, X.env.cells.lookup x = some c → X.env.cells.lookup y = some c → x = y
  has : ∀ x, (X.env.kindOf x = some .cell ∨ X.env.kindOf x = some .free) → ∃ c, X.env.cells.lookup x = some c
  cab : ∀ x c, X.fn x = true → X.env.cells.lookup x = some c → X.s₀.heap.objs.size ≤ c
  hd : X.calm = true → X.A.handled = none
  frames : X.A.frames = some X.stack
  stk : X.stack = X.outer ∨ (X.stack = X.env :: X.outer ∧ X.env.frame = some X.env.locals)
  exf : ∀ b ∈ X.ex, b ≠ X.env.locals ∧ ∀ x c, X.env.cells.lookup x = some c → c ≠ b
  bs : ∀ b o, X.base.get? b = some o → X.s₀.heap.get? b = some o ∧ X.H₀ b = none
  bsz : X.base.objs.size ≤ X.s₀.heap.objs.size
  noex : ∀ b o, X.base.get? b = some o → b ∉ X.ex
  exfs : ∀ b ∈ X.ex, b ∉ X.fs
  funs : X.s₀.heap.FunFrames X.base X.outer
  frf : ∀ b ∈ X.fs, X.H₀ b = none
structure Inv (X : Cx) (pins : List (Addr × Obj)) (σ : List (Option V)) (H : Hp) (s : Shared) : Prop where
  ok : X.Ok
  os : s.os = X.s₀.os
  bare : AllBare s.gens
  base : Un X.fs X.ex X.H₀ H X.s₀.heap s.heap
  loc : ∃ m, s.heap.Ns X.env.locals m ∧ ∀ (i : Nat) (x : Str) (v : V), X.N[i]? = some x → σ[i]? = some (some v) → Vis X.env.scope x → ∃ u, RelV v u ∧ Look X.env s.heap m x u
  cell : ∀ x c, X.env.cells.lookup x = some c → ∃ v, s.heap.IsCell c v
  free : H X.env.locals = none
  freeC : ∀ x c, X.env.cells.lookup x = some c → H c = none
  pin : ∀ p ∈ X.pn ++ pins, s.heap.get? p.1 = some p.2 ∧ H p.1 = none ∧ p.1 ≠ X.env.locals ∧ p.1 ∉ X.fs ∧ ∀ v, p.2.data ≠ .cell v
  hok : HOk X.prog X.w H s.heap
  len : σ.length = X.N.length
section
variable {X : Cx} {pins : List (Addr × Obj)} {σ : List (Option V)} {H H' : Hp} {s : Shared} {h' : Heap}
theorem Cx.Ok.nofr (ok : X.Ok) {b : Addr} {o : Obj} (e : X.base.get? b = some o) : b ∉ X.fs := fun hb => by
  have := (ok.funs.mem hb).1
  rw [e] at this; cases this
theorem Inv.bs (I : Inv X pins σ H s) : ∀ b o, X.base.get? b = some o → s.heap.get? b = some o ∧ H b = none := fun b o e =>
  ⟨I.base.keep b o (I.ok.bs b o e).1 (I.ok.bs b o e).2 (I.ok.nofr e) (I.ok.noex b o e), I.base.free b o (I.ok.bs b o e).1 (I.ok.bs b o e).2 (I.ok.noex b o e)⟩
theorem Inv.bk (I : Inv X pins σ H s) : ∀ b o, X.base.get? b = some o → s.heap.get? b = some o := fun b o e => (I.bs b o e).1
theorem Inv.mod (I : Inv X pins σ H s) : Mod X.K X.mg X.base := I.ok.mod
theorem Inv.kIn (I : Inv X pins σ H s) : X.K.In s.heap := I.ok.mod.kin.keeps I.bk
theorem Inv.lt (I : Inv X pins σ H s) : X.env.locals < s.heap.objs.size := let ⟨_, hn, _⟩ := I.loc; hn.lt
theorem Inv.sz (I : Inv X pins σ H s) : X.s₀.heap.objs.size ≤ s.heap.objs.size := Nat.le_trans I.ok.above (Nat.le_of_lt I.lt)
theorem Inv.nofs (I : Inv X pins σ H s) {a : Addr} (h : s.heap.objs.size ≤ a) : a ∉ X.fs := fun hb => by
  obtain ⟨_, o, ho, _⟩ := I.ok.funs.mem hb
  exact absurd (Nat.lt_of_lt_of_le (Heap.lt_size ho) (Nat.le_trans I.sz h)) (Nat.lt_irrefl _)
theorem Inv.cne (I : Inv X pins σ H s) : ∀ x c, X.env.cells.lookup x = some c → c ≠ X.env.locals := fun x c e z => by
  obtain ⟨v, o, ho, hd⟩ := I.cell x c e
  obtain ⟨m, ⟨o', es, ep, ho', hd', _⟩, _⟩ := I.loc
  rw [z, ho'] at ho; cases ho; rw [hd'] at hd; cases hd
theorem Inv.funs (I : Inv X pins σ H s) : s.heap.FunFrames X.base X.outer := by
  have all : ∀ (l : List Env), (∀ b ∈ frs l, b ∈ X.fs) → X.s₀.heap.FunFrames X.base l → s.heap.FunFrames X.base l := by
    intro l
    induction l with
    | nil => intro _ _; trivial
    | cons env r ih =>
      intro hs hl
      obtain ⟨hk, ⟨L, o, hf, hn, ho, hd⟩, hr⟩ := hl
      have hL : L ∈ X.fs := hs L (by unfold frs; rw [List.filterMap_cons, hf]; exact List.mem_cons_self)
      obtain ⟨sl, e⟩ := I.base.slot L o ho (I.ok.frf L hL) hL fun z => I.ok.exfs L z hL
      exact ⟨hk, ⟨L, _, hf, hn, e, hd⟩, ih (fun b hb => hs b (by unfold frs; rw [List.filterMap_cons, hf]; exact List.mem_cons_of_mem _ hb)) hr⟩
  exact all X.outer (fun _ hb => hb) I.ok.funs
theorem Inv.stack (I : Inv X pins σ H s) : s.heap.FunFrames X.base X.stack := by
  rcases I.ok.stk with e | ⟨e, hf⟩
  · rw [e]; exact I.funs
  · rw [e]
    obtain ⟨m, hn, _⟩ := I.loc
    refine .cons (by rw [I.ok.kind]; decide) hf hn ?_ I.funs
    exact Heap.get?_none_of_le (Nat.le_trans I.ok.bsz I.ok.above)
theorem Inv.stkSub (I : Inv X pins σ H s) : ∀ b ∈ frs X.stack, b ∈ X.env.locals :: X.fs := fun b hb => by
  rcases I.ok.stk with e | ⟨e, hf⟩
  · rw [e] at hb; exact List.mem_cons_of_mem _ hb
  · rw [e] at hb
    unfold frs at hb
    rw [List.filterMap_cons, hf] at hb
    exact hb
theorem Inv.stkFree (I : Inv X pins σ H s) : ∀ b ∈ frs X.stack, H b = none := fun b hb => by
  rcases List.mem_cons.mp (I.stkSub b hb) with e | hb
  · rw [e]; exact I.free
  · obtain ⟨_, o, ho, _⟩ := I.ok.funs.mem hb
    exact I.base.free b o ho (I.ok.frf b hb) fun z => I.ok.exfs b z hb
theorem Inv.step {g' : Array GenState} {t' : Nat} {d' : Drawn} {ch : List Addr} (I : Inv X pins σ H s)
    (hch : ∀ b ∈ ch, (b ∈ X.ex ∨ X.s₀.heap.objs.size ≤ b) ∧ b ≠ X.env.locals ∧ (∀ x c, X.env.cells.lookup x = some c → c ≠ b) ∧ ∀ p ∈ X.pn ++ pins, p.1 ≠ b)
    (keep : ∀ b o, b ≠ X.env.locals → b ∉ X.fs → b ∉ ch → s.heap.get? b = some o → H b = none → h'.get? b = some o)
    (slot : ∀ b o, b ≠ X.env.locals → b ∈ X.fs → b ∉ ch → s.heap.get? b = some o → H b = none → ∃ sl, h'.get? b = some { o with slots := sl }) (free : ∀ b o, b ∉ ch → s.heap.get? b = some o → H b = none → H' b = none)
    (there : ∀ b o, b ∉ ch → s.heap.get? b = some o → ∃ o', h'.get? b = some o')
    (tups : ∀ b xs, H b = some (.tup xs) → H' b = some (.tup xs)) (frzs : ∀ b o u, H b = some (.frz o u) → H' b = some (.frz o u)) (tbls : ∀ b ps, H b = some (.tbl ps) → ∃ more, H' b = some (.tbl (ps ++ more)))
    (ns : ∀ m, s.heap.Ns X.env.locals m → h'.Ns X.env.locals m) (hok : HOk X.prog X.w H' h') (hg : AllBare g') :
    Inv X pins σ H' { s with heap := h', gens := g', drawn := d', toks := t' } := by
  have neL : ∀ b o, X.s₀.heap.get? b = some o → b ≠ X.env.locals := fun b o e => Nat.ne_of_lt (Nat.lt_of_lt_of_le (Heap.lt_size e) I.ok.above)
  have neC : ∀ b o, X.s₀.heap.get? b = some o → b ∉ X.ex → b ∉ ch := fun b o e hx hb => by
    rcases (hch b hb).1 with z | z
    · exact hx z
    · exact absurd (Nat.lt_of_lt_of_le (Heap.lt_size e) z) (Nat.lt_irrefl _)
  have cellK : ∀ x c, X.env.cells.lookup x = some c → ∀ v, s.heap.IsCell c v → h'.IsCell c v := fun x c e v ⟨o, ho, hd⟩ => by
    have nch : c ∉ ch := fun z => (hch c z).2.2.1 x c e rfl
    by_cases hc : c ∈ X.fs
    · obtain ⟨sl, q⟩ := slot c o (I.cne x c e) hc nch ho (I.freeC x c e)
      exact ⟨_, q, hd⟩
    · exact ⟨o, keep c o (I.cne x c e) hc nch ho (I.freeC x c e), hd⟩
  refine ⟨I.ok, I.os, hg, ⟨fun b o e n hb hx => ?_, fun b o e n hb hx => ?_, fun b o e n hx => ?_, fun b o e hx => ?_, fun b xs e => tups b xs (I.base.tups b xs e), fun b o xs e => frzs b o xs (I.base.frzs b o xs e), fun b ps e => ?_⟩, ?_, fun x c e => ?_, ?_, fun x c e => ?_, fun p hp => ?_, hok, I.len⟩
  · exact keep b o (neL b o e) hb (neC b o e hx) (I.base.keep b o e n hb hx) (I.base.free b o e n hx)
  · obtain ⟨sl, e1⟩ := I.base.slot b o e n hb hx
    obtain ⟨sl', e2⟩ := slot b _ (neL b o e) hb (neC b o e hx) e1 (I.base.free b o e n hx)
    exact ⟨sl', e2⟩
  · obtain ⟨o', e1⟩ := I.base.there b o e hx
    exact free b o' (neC b o e hx) e1 (I.base.free b o e n hx)
  · obtain ⟨o', e1⟩ := I.base.there b o e hx
    exact there b o' (neC b o e hx) e1
  · obtain ⟨m1, e1⟩ := I.base.tbls b ps e
    obtain ⟨m2, e2⟩ := tbls b _ e1
    exact ⟨m1 ++ m2, by rw [e2, Array.append_assoc]⟩
  · obtain ⟨m, hn, hl⟩ := I.loc
    refine ⟨m, ns m hn, fun i x v e1 e2 e3 => ?_⟩
    obtain ⟨u, r, l⟩ := hl i x v e1 e2 e3
    refine ⟨u, r, ?_⟩
    rcases l with l | ⟨k, c, e, z⟩
    · exact .inl l
    · exact .inr ⟨k, c, e, cellK x c e _ z⟩
  · obtain ⟨v, z⟩ := I.cell x c e
    exact ⟨v, cellK x c e v z⟩
  · obtain ⟨m, ⟨o, _, _, ho, _⟩, _⟩ := I.loc
    exact free _ o (fun z => (hch _ z).2.1 rfl) ho I.free
  · obtain ⟨v, o, ho, hd⟩ := I.cell x c e
    exact free c o (fun z => (hch c z).2.2.1 x c e rfl) ho (I.freeC x c e)
  · obtain ⟨e, n, ne, nf, d⟩ := I.pin p hp
    have nch : p.1 ∉ ch := fun z => (hch p.1 z).2.2.2 p hp rfl
    exact ⟨keep p.1 p.2 ne nf nch e n, free p.1 p.2 nch e n, ne, nf, d⟩
theorem Inv.un {t' : Nat} (I : Inv X pins σ H s) (u : Un X.fs [] H H' s.heap h') (hok : HOk X.prog X.w H' h') : Inv X pins σ H' { s with heap := h', toks := t' } := by
  obtain ⟨m, ⟨o, es, ep, ho, r⟩, _⟩ := id I.loc
  obtain ⟨sl, hL⟩ := u.any ho I.free (by simp)
  exact I.step (g' := s.gens) (d' := s.drawn) (ch := []) (fun _ z => nomatch z) (fun b o _ hb _ e n => u.keep b o e n hb (by simp)) (fun b o _ hb _ e n => u.slot b o e n hb (by simp)) (fun b o _ e n => u.free b o e n (by simp)) (fun b o _ e => u.there b o e (by simp)) u.tups u.frzs u.tbls (fun m' hm => by
    obtain ⟨o', es', ep', ho', r'⟩ := hm
    rw [ho] at ho'; cases ho'
    exact ⟨_, es', ep', hL, r'⟩) hok I.bare
theorem Inv.call {g' : Array GenState} {t' : Nat} {d' : Drawn} {ch : List Addr} (I : Inv X pins σ H s) (u : Un (frs X.stack) ch H H' s.heap h') (hok : HOk X.prog X.w H' h') (hg : AllBare g')
    (hch : ∀ b ∈ ch, (b ∈ X.ex ∨ X.s₀.heap.objs.size ≤ b) ∧ b ≠ X.env.locals ∧ (∀ x c, X.env.cells.lookup x = some c → c ≠ b) ∧ ∀ p ∈ X.pn ++ pins, p.1 ≠ b) :
    Inv X pins σ H' { s with heap := h', gens := g', drawn := d', toks := t' } := by
  obtain ⟨m, ⟨o, es, ep, ho, r⟩, _⟩ := id I.loc
  obtain ⟨sl, hL⟩ := u.any ho I.free fun z => (hch _ z).2.1 rfl
  exact I.step (ch := ch) hch (fun b o hL hb hc e n => u.keep b o e n (fun z => (List.mem_cons.mp (I.stkSub b z)).elim hL hb) hc) (fun b o _ _ hc e n => u.any e n hc) (fun b o hc e n => u.free b o e n hc) (fun b o hc e => u.there b o e hc) u.tups u.frzs u.tbls (fun m' hm => by
    obtain ⟨o', es', ep', ho', r'⟩ := hm
    rw [ho] at ho'; cases ho'
    exact ⟨_, es', ep', hL, r'⟩) hok hg
theorem Inv.turned {t' : Nat} {it : Addr} (I : Inv X pins σ H s) (k : ∀ b o, b ≠ it → s.heap.get? b = some o → h'.get? b = some o) (hn : H it = none) (hL : it ≠ X.env.locals)
    (h1 : it ∈ X.ex ∨ X.s₀.heap.objs.size ≤ it) (h2 : ∀ x c, X.env.cells.lookup x = some c → c ≠ it) (h3 : ∀ p ∈ X.pn ++ pins, p.1 ≠ it) : Inv X pins σ H { s with heap := h', toks := t' } := by
  have nit : ∀ b u, H b = some u → b ≠ it := fun b u e z => by rw [z, hn] at e; cases e
  refine I.step (g' := s.gens) (d' := s.drawn) (ch := [it]) (fun b hb => ?_) (fun b o _ _ hc e _ => k b o (fun z => hc (by simp [z])) e) (fun b o _ _ hc e _ => ⟨o.slots, k b o (fun z => hc (by simp [z])) e⟩) (fun _ _ _ _ n => n)
    (fun b o hc e => ⟨o, k b o (fun z => hc (by simp [z])) e⟩) (fun _ _ e => e) (fun _ _ _ e => e) (fun b ps e => ⟨#[], by rw [e]; simp⟩) (fun m hm => ?_) (fun b u e => ?_) I.bare
  · have e : b = it := by simpa using hb
    subst e
    exact ⟨h1, hL, h2, h3⟩
  · obtain ⟨o, es, ep, ho, r⟩ := hm
    exact ⟨o, es, ep, k _ o (Ne.symm hL) ho, r⟩
  · refine (I.hok b u e).stay (fun c v hc q => k c v ?_ q) (fun _ q => q) fun _ _ q => q
    rcases hc with z | z
    · rw [z]; exact nit b u e
    · exact nit c _ z
theorem Inv.tok (I : Inv X pins σ H s) (t : Nat) : Inv X pins σ H { s with toks := t } := I.un (h' := s.heap) (t' := t) Un.refl I.hok
theorem Inv.kept {t' : Nat} (I : Inv X pins σ H s) (k : ∀ b u, s.heap.get? b = some u → h'.get? b = some u) : Inv X pins σ H { s with heap := h', toks := t' } := I.un (Un.kept k) (I.hok.kept k)
theorem Inv.laid {a : Addr} {o : HO} {t' : Nat} (I : Inv X pins σ H s) (k : ∀ b u, s.heap.get? b = some u → h'.get? b = some u) (hp : s.heap.objs.size ≤ a) (new : ObjOk X.prog X.w (upd H a o) h' a o) :
    Inv X pins σ (upd H a o) { s with heap := h', toks := t' } := I.un (Un.laid k hp (I.hok.fresh hp)) (I.hok.laid k hp new)
theorem Inv.write {x e : Addr} {o : HO} {t' : Nat} (I : Inv X pins σ H s) (mu : Mut (H x)) (he : e = x ∨ H e = some (.own x)) (k : ∀ b u, b ≠ e → s.heap.get? b = some u → h'.get? b = some u) (heo : ∃ u, h'.get? e = some u)
    (new : ObjOk X.prog X.w (upd H x o) h' x o) : Inv X pins σ (upd H x o) { s with heap := h', toks := t' } := I.un (Un.write mu he k heo) (I.hok.write mu he k heo new)
theorem Inv.pins_of {pins' : List (Addr × Obj)} (I : Inv X pins σ H s) (h : ∀ p ∈ pins', s.heap.get? p.1 = some p.2 ∧ H p.1 = none ∧ p.1 ≠ X.env.locals ∧ p.1 ∉ X.fs ∧ ∀ v, p.2.data ≠ .cell v) : Inv X pins' σ H s :=
  ⟨I.ok, I.os, I.bare, I.base, I.loc, I.cell, I.free, I.freeC, fun p hp => (List.mem_append.mp hp).elim (fun z => I.pin p (List.mem_append_left _ z)) (h p), I.hok, I.len⟩
theorem nodup_ix {N : List Str} (hN : N.Nodup) {i j : Nat} {x : Str} (a : N[i]? = some x) (b : N[j]? = some x) : i = j := by
  obtain ⟨h1, e1⟩ := List.getElem?_eq_some_iff.mp a
  obtain ⟨h2, e2⟩ := List.getElem?_eq_some_iff.mp b
  exact (List.getElem_inj hN).mp (e1.trans e2.symm)
theorem store_ok2 {M : Model} {A : Around} {E : Value → Shared → Prop} {i : Nat} {x : Str} {v : V} {u : Value} {Q : Unit → Shared → Prop} (I : Inv X pins σ H s) (hN : X.N.Nodup) (hi : X.N[i]? = some x) (hx : Loc X.env.scope x) (r : RelV v u)
    (h : ∀ s', Inv X pins (σ.set i (some v)) H s' → (∃ a, Heap.SameBut a s.heap s'.heap ∧ (a = X.env.locals ∨ X.env.cells.lookup x = some a)) → Q () s') (hf : X.fn x = true ∨ X.env.scope.names.lookup x = some .local := by first | exact .inl rfl | exact .inr rfl | assumption) : wpAny M A (storeName X.env x u) Q E s := by
  obtain ⟨m, hn, hl⟩ := id I.loc
  have hcls : (X.env.scope.kind == .class || (X.env.scope.kind == .module && X.env.locals != X.env.globals)) = false := by rw [I.ok.kind]; rfl
  have hiσ : i < σ.length := by rw [I.len]; exact (List.getElem?_eq_some_iff.mp hi).1
  have cne := I.cne
  have tracked : ∀ {a : Addr} {h' : Heap}, (∃ o, s.heap.get? a = some o ∧ H a = none) → Heap.SameBut a s.heap h' → HOk X.prog X.w H h' := fun {a h'} ha hs b ob e => by
    obtain ⟨_, _, hfree⟩ := ha
    refine (I.hok b ob e).stay (fun c w' hc q => (hs.2 c ?_).trans q) (fun _ q => q) fun _ _ q => q
    rintro rfl
    rcases hc with rfl | hc
    · rw [hfree] at e; cases e
    · rw [hfree] at hc; cases hc
  rcases hx with hk | hk
  · refine wpAny_storeName_local hk hn (fun h' hn' hs => ?_) hcls
    obtain ⟨oL, _, _, hoL, _⟩ := id hn
    refine h _ ⟨I.ok, I.os, I.bare, ⟨fun b o e n hb hx => ?_, fun b o e n hb hx => ?_, I.base.free, fun b o e hx => ?_, I.base.tups, I.base.frzs, I.base.tbls⟩, ⟨_, hn', fun j y v' e1 e2 e3 => ?_⟩, fun y c e => ?_, I.free, I.freeC, fun p hp => ?_, tracked ⟨oL, hoL, I.free⟩ hs, by simpa using I.len⟩ ⟨_, hs, .inl rfl⟩
    · exact (hs.2 b (Nat.ne_of_lt (Nat.lt_of_lt_of_le (Heap.lt_size e) I.ok.above))).trans (I.base.keep b o e n hb hx)
    · obtain ⟨sl, e1⟩ := I.base.slot b o e n hb hx
      exact ⟨sl, (hs.2 b (Nat.ne_of_lt (Nat.lt_of_lt_of_le (Heap.lt_size e) I.ok.above))).trans e1⟩
    · obtain ⟨o', e1⟩ := I.base.there b o e hx
      exact ⟨o', (hs.2 b (Nat.ne_of_lt (Nat.lt_of_lt_of_le (Heap.lt_size e) I.ok.above))).trans e1⟩
    · by_cases hj : j = i
      · subst hj
        rw [hi] at e1; cases e1
        rw [List.getElem?_set_self hiσ] at e2
        cases e2
        exact ⟨u, r, .inl ⟨hk, by simp⟩⟩
      · rw [List.getElem?_set_ne (Ne.symm hj)] at e2
        obtain ⟨u', r', q⟩ := hl j y v' e1 e2 e3
        refine ⟨u', r', ?_⟩
        rcases q with ⟨k, e⟩ | ⟨k, c, e, z⟩
        · refine .inl ⟨k, ?_⟩
          have : y ≠ x := fun e => hj (nodup_ix hN e1 (e ▸ hi))
          simp [this, e]
        · exact .inr ⟨k, c, e, z.sameBut hs (cne y c e)⟩
    · obtain ⟨w', z⟩ := I.cell y c e
      exact ⟨w', z.sameBut hs (cne y c e)⟩
    · obtain ⟨e, n, ne, nf, d⟩ := I.pin p hp
      exact ⟨(hs.2 p.1 ne).trans e, n, ne, nf, d⟩
  · have hfn : X.fn x = true := by
      rcases hf with z | z
      · exact z
      · rw [z] at hk; cases hk
    obtain ⟨c, hc⟩ := I.ok.has x (.inl hk)
    obtain ⟨w', z⟩ := I.cell x c hc
    refine wpAny_storeName_cell I.ok.kind hk hc z (fun h' hc' hs => ?_)
    obtain ⟨oc, hoc, hocd⟩ := id z
    refine h { s with heap := h' } ⟨I.ok, I.os, I.bare, ⟨fun b o e n hb hx => ?_, fun b o e n hb hx => ?_, I.base.free, fun b o e hx => ?_, I.base.tups, I.base.frzs, I.base.tbls⟩, ⟨m, hn.sameBut hs (Ne.symm (cne x c hc)), fun j y v' e1 e2 e3 => ?_⟩, fun y c' e => ?_, I.free, I.freeC, fun p hp => ?_, tracked ⟨oc, hoc, I.freeC x c hc⟩ hs, by simpa using I.len⟩ ⟨c, hs, .inr hc⟩
    · exact (hs.2 b (Nat.ne_of_lt (Nat.lt_of_lt_of_le (Heap.lt_size e) (I.ok.cab x c hfn hc)))).trans (I.base.keep b o e n hb hx)
    · obtain ⟨sl, e1⟩ := I.base.slot b o e n hb hx
      exact ⟨sl, (hs.2 b (Nat.ne_of_lt (Nat.lt_of_lt_of_le (Heap.lt_size e) (I.ok.cab x c hfn hc)))).trans e1⟩
    · obtain ⟨o', e1⟩ := I.base.there b o e hx
      exact ⟨o', (hs.2 b (Nat.ne_of_lt (Nat.lt_of_lt_of_le (Heap.lt_size e) (I.ok.cab x c hfn hc)))).trans e1⟩
    · by_cases hj : j = i
      · subst hj
        rw [hi] at e1; cases e1
        rw [List.getElem?_set_self hiσ] at e2
        cases e2
        exact ⟨u, r, .inr ⟨.inl hk, c, hc, hc'⟩⟩
      · rw [List.getElem?_set_ne (Ne.symm hj)] at e2
        obtain ⟨u', r', q⟩ := hl j y v' e1 e2 e3
        refine ⟨u', r', ?_⟩
        rcases q with q | ⟨k, c', e, z'⟩
        · exact .inl q
        · refine .inr ⟨k, c', e, z'.sameBut hs ?_⟩
          rintro rfl
          exact hj (nodup_ix hN e1 (I.ok.inj _ _ _ e hc ▸ hi))
    · by_cases hcc : c' = c
      · subst hcc; exact ⟨_, hc'⟩
      · obtain ⟨w2, z2⟩ := I.cell y c' e
        exact ⟨w2, z2.sameBut hs hcc⟩
    · obtain ⟨e, n, ne, nf, d⟩ := I.pin p hp
      refine ⟨(hs.2 p.1 ?_).trans e, n, ne, nf, d⟩
      intro q
      rw [q, hoc] at e
      have q' : oc = p.2 := Option.some.inj e
      exact d w' (by rw [← q']; exact hocd)
theorem store_ok {M : Model} {A : Around} {E : Value → Shared → Prop} {i : Nat} {x : Str} {v : V} {u : Value} {Q : Unit → Shared → Prop} (I : Inv X pins σ H s) (hN : X.N.Nodup) (hi : X.N[i]? = some x) (hx : Loc X.env.scope x) (r : RelV v u)
    (h : ∀ s', Inv X pins (σ.set i (some v)) H s' → Q () s') (hf : X.fn x = true ∨ X.env.scope.names.lookup x = some .local := by first | exact .inl rfl | exact .inr rfl | assumption) : wpAny M A (storeName X.env x u) Q E s :=
  store_ok2 I hN hi hx r (fun s' I' _ => h s' I') hf
theorem Inv.call' {s' : Shared} {ch : List Addr} (I : Inv X pins σ H s) (ho : s'.os = s.os) (u : Un (frs X.stack) ch H H' s.heap s'.heap) (hok : HOk X.prog X.w H' s'.heap) (hg : AllBare s'.gens)
    (hch : ∀ b ∈ ch, (b ∈ X.ex ∨ X.s₀.heap.objs.size ≤ b) ∧ b ≠ X.env.locals ∧ (∀ x c, X.env.cells.lookup x = some c → c ≠ b) ∧ ∀ p ∈ X.pn ++ pins, p.1 ≠ b) : Inv X pins σ H' s' := by
  obtain ⟨h', g', d', t', o'⟩ := s'
  have e : o' = s.os := ho
  subst e
  exact I.call (g' := g') (t' := t') (d' := d') u hok hg hch
end
abbrev XK := Value → Option Addr → Hp → Prop
abbrev St := List (Option V)
abbrev VK := V → Hp → Prop
abbrev TE := St → Hp → VK → Prop
abbrev TT := St → Hp → (Bool → Hp → Prop) → Prop
abbrev TA := St → Hp → (List V → Hp → Prop) → Prop
structure Ends where
  nx : St → Hp → Prop
  rt : VK
  bk : St → Hp → Prop := fun _ _ => False
  ct : St → Hp → Prop := fun _ _ => False
abbrev TS := Ends → St → Hp → Prop
def EP (X : Cx) (pins : List (Addr × Obj)) (σ : St) (Q : VK) (u : Value) (s' : Shared) : Prop := ∃ v H', Inv X pins σ H' s' ∧ RelV v u ∧ Q v H'
def TP (X : Cx) (pins : List (Addr × Obj)) (σ : St) (Q : Bool → Hp → Prop) (b : Bool) (s' : Shared) : Prop := ∃ H', Inv X pins σ H' s' ∧ Q b H'
def AP (X : Cx) (pins : List (Addr × Obj)) (σ : St) (Q : List V → Hp → Prop) (us : List Value) (s' : Shared) : Prop := ∃ vs H', Inv X pins σ H' s' ∧ Vals vs us ∧ Q vs H'
def SP (X : Cx) (pins : List (Addr × Obj)) (D : Ends) (f : Flow) (s' : Shared) : Prop :=
  match f with
  | .next => ∃ σ' H', Inv X pins σ' H' s' ∧ D.nx σ' H'
  | .brk => ∃ σ' H', Inv X pins σ' H' s' ∧ D.bk σ' H'
  | .cont => ∃ σ' H', Inv X pins σ' H' s' ∧ D.ct σ' H'
  | .ret u => ∃ v σ' H', Inv X pins σ' H' s' ∧ RelV v u ∧ D.rt v H'
def PE (X : Cx) (e : Expr) (t : TE) : Prop :=
  ∀ (pins : List (Addr × Obj)) (s : Shared) (σ : St) (H : Hp) (Q : VK), Inv X pins σ H s → t σ H Q → wpAny (model X.prog X.w) X.A (eval e X.env) (EP X pins σ Q) X.xe s
def PT (X : Cx) (e : Expr) (t : TT) : Prop :=
  ∀ (pins : List (Addr × Obj)) (s : Shared) (σ : St) (H : Hp) (Q : Bool → Hp → Prop), Inv X pins σ H s → t σ H Q → wpAny (model X.prog X.w) X.A (isTrue e X.env (eval e X.env)) (TP X pins σ Q) X.xe s
def PW (X : Cx) (e : Expr) (t : TT) : Prop :=
  ∀ (whole : Sem Value) (pins : List (Addr × Obj)) (s : Shared) (σ : St) (H : Hp) (Q : Bool → Hp → Prop), Inv X pins σ H s → t σ H Q → wpAny (model X.prog X.w) X.A (isTrue e X.env whole) (TP X pins σ Q) X.xe s
theorem PW.pt {X : Cx} {e : Expr} {t : TT} (h : PW X e t) : PT X e t := h _
def PA (X : Cx) (es : List Expr) (t : TA) : Prop :=
  ∀ (pos : Pos) (pins : List (Addr × Obj)) (s : Shared) (σ : St) (H : Hp) (Q : List V → Hp → Prop), Inv X pins σ H s → t σ H Q → wpAny (model X.prog X.w) X.A (spliced (backTo pos (starEach es X.env))) (AP X pins σ Q) X.xe s
def PS (X : Cx) (st : Stmt) (t : TS) : Prop :=
  ∀ (pins : List (Addr × Obj)) (s : Shared) (σ : St) (H : Hp) (D : Ends), Inv X pins σ H s → t D σ H → wpAny (model X.prog X.w) X.A (exec st X.env) (SP X pins D) X.xe s
def PSs (X : Cx) (st : List Stmt) (t : TS) : Prop :=
  ∀ (pins : List (Addr × Obj)) (s : Shared) (σ : St) (H : Hp) (D : Ends), Inv X pins σ H s → t D σ H → wpAny (model X.prog X.w) X.A (execs st X.env) (SP X pins D) X.xe s
theorem thn {α : Type} {t : Sem α} {Q Q' : α → Shared → Prop} {M : Model} {A : Around} {E : Value → Shared → Prop} {s : Shared} (h : wpAny M A t Q E s) (hQ : ∀ a s, Q a s → Q' a s) : wpAny M A t Q' E s := wpAny_mono h hQ fun _ _ x => x
open PySem PySem.Spec PyProof.Rows
section
variable {X : Cx}
def tVar (i : Nat) : TE := fun σ H Q => ∃ v, σ[i]? = some (some v) ∧ Q v H
def tC (v : V) : TE := fun _ H Q => Q v H
theorem pe_var {i : Nat} {x : Str} {pos : Pos} (hN : X.N[i]? = some x) (hv : Vis X.env.scope x) (hd : (x == ("__debug__" : Str)) = false := by decide) (hcd : (x == ("__classdict__" : Str)) = false := by decide) : PE X (.Name x pos) (tVar i) := by
  intro pins s σ H Q I h
  obtain ⟨v, e, h⟩ := h
  obtain ⟨m, hn, hl⟩ := I.loc
  obtain ⟨u, r, l⟩ := hl i x v hN e hv
  have fin : EP X pins σ Q u s := ⟨v, H, I, r, h⟩
  rcases l with ⟨hk, hm⟩ | ⟨hk, c, hc, hcell⟩
  · exact wpAny_Name (wpAny_loadName_local I.ok.kind hk hn hm fin) hd
  · rcases hk with hk | hk
    · exact wpAny_Name (wpAny_loadName_cell I.ok.kind hk hc hcell fin) hd
    · exact wpAny_Name (wpAny_loadName_free I.ok.kind hk hc hcell fin hcd) hd
theorem pe_int {i j pos} : PE X (.Constant (.int i) j pos) (tC (.int i)) := fun _ _ _ H _ I h => wpAny_Constant_int ⟨.int i, H, I.tok _, ⟨_, rfl⟩, h⟩
theorem pe_bl {b j pos} : PE X (.Constant (.bool b) j pos) (tC (.bl b)) := fun _ _ _ H _ I h => Constant_bool ⟨.bl b, H, I, rfl, h⟩
theorem pe_non {j pos} : PE X (.Constant .none j pos) (tC .non) := fun _ _ _ H _ I h => Constant_none ⟨.non, H, I, rfl, h⟩
theorem pe_str {x j pos} : PE X (.Constant (.str x) j pos) (tC (.str x)) := fun _ _ _ H _ I h => Calls.Constant_str ⟨.str x, H, I.tok _, ⟨_, rfl⟩, h⟩
def Gl (X : Cx) (x : Str) : Prop := X.env.kindOf x = some .globalImplicit
theorem ld_glob {E : Value → Shared → Prop} {pins : List (Addr × Obj)} {s : Shared} {σ : St} {H : Hp} {x : Str} {u : Value} {pos : Pos} {Q : Value → Shared → Prop} (I : Inv X pins σ H s) (hg : Gl X x) (hm : X.mg x = some u) (h : Q u s)
    (hd : (x == ("__debug__" : Str)) = false := by decide) : wpAny (model X.prog X.w) X.A (eval (.Name x pos) X.env) Q E s :=
  Calls.Name_function_global I.ok.kind hg (Calls.loadGlobal_global (by rw [I.ok.glob]; exact I.mod.glob.keeps I.bk) hm h) hd
theorem ld_blt {E : Value → Shared → Prop} {pins : List (Addr × Obj)} {s : Shared} {σ : St} {H : Hp} {x : Str} {u : Value} {pos : Pos} {Q : Value → Shared → Prop} (I : Inv X pins σ H s) (hg : Gl X x) (hm : X.mg x = none) (hv : bootBuiltins x = some u) (h : Q u s)
    (hn : x ≠ "__name__" := by decide) (hd : (x == ("__debug__" : Str)) = false := by decide) : wpAny (model X.prog X.w) X.A (eval (.Name x pos) X.env) Q E s := by
  obtain ⟨mb, h1, h2⟩ := I.mod.blt
  exact Calls.Name_function_global I.ok.kind hg (Calls.loadGlobal_builtin (by rw [I.ok.glob]; exact I.mod.glob.keeps I.bk) hm (by rw [I.ok.blt]; exact h1.keeps I.bk) ((h2 x hn).trans hv) h) hd
theorem pe_glob {x : Str} {v : V} {u : Value} {pos : Pos} (hg : Gl X x) (hm : X.mg x = some u) (r : RelV v u) (hd : (x == ("__debug__" : Str)) = false := by decide) : PE X (.Name x pos) (tC v) :=
  fun _ _ _ H _ I h => ld_glob I hg hm ⟨v, H, I, r, h⟩ hd
theorem pe_bltn {x : Str} {v : V} {u : Value} {pos : Pos} (hg : Gl X x) (hm : X.mg x = none) (hv : bootBuiltins x = some u) (r : RelV v u) (hn : x ≠ "__name__" := by decide) (hd : (x == ("__debug__" : Str)) = false := by decide) : PE X (.Name x pos) (tC v) :=
  fun _ _ _ H _ I h => ld_blt I hg hm hv ⟨v, H, I, r, h⟩ hn hd
def t2I (ta tb : TE) (k : Int → Int → Hp → Prop) : St → Hp → Prop := fun σ H => ta σ H fun x H1 => tb σ H1 fun y H2 => ∃ i j, x = .int i ∧ y = .int j ∧ k i j H2
def tAdd (ta tb : TE) : TE := fun σ H Q => t2I ta tb (fun i j H2 => Q (.int (i + j)) H2) σ H
def tSub (ta tb : TE) : TE := fun σ H Q => t2I ta tb (fun i j H2 => Q (.int (i - j)) H2) σ H
def tMul (ta tb : TE) : TE := fun σ H Q => t2I ta tb (fun i j H2 => (-(2 ^ 64) < i ∧ i < 2 ^ 64) ∧ Q (.int (i * j)) H2) σ H
variable {a b : Expr} {ta tb : TE} {pos : Pos}
def PC (X : Cx) (op : CmpOp) (a b : Expr) (t : TE) : Prop :=
  ∀ (pins : List (Addr × Obj)) (s : Shared) (σ : St) (H : Hp) (Q : VK), Inv X pins σ H s → t σ H Q →
    wpAny (model X.prog X.w) X.A (eval a X.env) (fun v s₁ => wpAny (model X.prog X.w) X.A (eval b X.env) (fun u s₂ => wpAny (model X.prog X.w) X.A (compareOp op v u) (EP X pins σ Q) X.xe s₂) X.xe s₁) X.xe s
def tCmp (p : Int → Int → Bool) (ta tb : TE) : TE := fun σ H Q => t2I ta tb (fun i j H2 => Q (.bl (p i j)) H2) σ H
abbrev tLt : TE → TE → TE := tCmp fun i j => decide (i < j)
abbrev tLe : TE → TE → TE := tCmp fun i j => decide (i ≤ j)
abbrev tGt : TE → TE → TE := tCmp fun i j => decide (j < i)
abbrev tGe : TE → TE → TE := tCmp fun i j => decide (j ≤ i)
abbrev tEqI : TE → TE → TE := tCmp fun i j => decide (i = j)
abbrev tNeI : TE → TE → TE := tCmp fun i j => !decide (i = j)
def tIsN (ta : TE) : TE := fun σ H Q => ta σ H fun x H1 => Q (.bl (decide (x = .non))) H1
def tNotN (ta : TE) : TE := fun σ H Q => ta σ H fun x H1 => Q (.bl (!decide (x = .non))) H1
def tB (t : TE) : TT := fun σ H Q => t σ H fun x H1 => ∃ c, x = .bl c ∧ Q c H1
theorem pt_val {e : Expr} {t : TE} (h : PE X e t) (he : ∀ whole, isTrue e X.env whole = (do let v ← whole; standAt e.pos; holding [v] (truthy v)) := by intro _; rfl) : PT X e (tB t) := by
  intro pins s σ H Q I hw
  refine isTrue_plain (thn (h pins s σ H _ I hw) fun v s1 ⟨x, H1, I1, r1, q1⟩ => ?_) (he _)
  obtain ⟨d, rfl, q⟩ := q1
  cases r1
  exact wpAny_truthy_bool ⟨H1, I1, q⟩
variable {tA tB' : TT} {rest : List Expr}
def tAnd (t u : TT) : TT := fun σ H Q => t σ H fun c H1 => if c = true then u σ H1 Q else Q false H1
def tOr (t u : TT) : TT := fun σ H Q => t σ H fun c H1 => if c = true then Q true H1 else u σ H1 Q
def tNot (t : TT) : TT := fun σ H Q => t σ H fun c H1 => Q (!c) H1
theorem pw_and1 (ha : PT X a tA) : PW X (.BoolOp .And [a] pos) tA := by
  intro wh pins s σ H Q I h
  refine isTrue_and (thn (ha pins s σ H Q I h) fun c s1 e => ?_)
  cases c with
  | true => exact isTrue_and_nil e
  | false => exact e
theorem pw_or1 (ha : PT X a tA) : PW X (.BoolOp .Or [a] pos) tA := by
  intro wh pins s σ H Q I h
  refine isTrue_or (thn (ha pins s σ H Q I h) fun c s1 e => ?_)
  cases c with
  | false => exact isTrue_or_nil e
  | true => exact e
theorem pw_and (ha : PT X a tA) (hb : PW X (.BoolOp .And (b :: rest) pos) tB') : PW X (.BoolOp .And (a :: b :: rest) pos) (tAnd tA tB') := by
  intro wh pins s σ H Q I h
  refine isTrue_and (thn (ha pins s σ H _ I h) fun c s1 ⟨H1, I1, q1⟩ => ?_)
  cases c with
  | true => exact hb wh pins s1 σ H1 Q I1 q1
  | false => exact ⟨H1, I1, q1⟩
theorem pw_or (ha : PT X a tA) (hb : PW X (.BoolOp .Or (b :: rest) pos) tB') : PW X (.BoolOp .Or (a :: b :: rest) pos) (tOr tA tB') := by
  intro wh pins s σ H Q I h
  refine isTrue_or (thn (ha pins s σ H _ I h) fun c s1 ⟨H1, I1, q1⟩ => ?_)
  cases c with
  | true => exact ⟨H1, I1, q1⟩
  | false => exact hb wh pins s1 σ H1 Q I1 q1
theorem pt_not (ha : PT X a tA) : PT X (.UnaryOp .Not a pos) (tNot tA) := by
  intro pins s σ H Q I h
  exact isTrue_not (ha pins s σ H (fun c H1 => Q (!c) H1) I h)
def tAndV (ta tb : TE) : TE := fun σ H Q => ta σ H fun x H1 => ∃ c, x = .bl c ∧ if c = true then tb σ H1 Q else Q (.bl false) H1
def tOrV (ta tb : TE) : TE := fun σ H Q => ta σ H fun x H1 => ∃ c, x = .bl c ∧ if c = true then Q (.bl true) H1 else tb σ H1 Q
def tNotV (ta : TE) : TE := fun σ H Q => ta σ H fun x H1 => ∃ c, x = .bl c ∧ Q (.bl (!c)) H1
theorem pe_one {op} {t : TE} (h : PE X a t) : PE X (.BoolOp op [a] pos) t := fun pins s σ H Q I hw => BoolOp_one (h pins s σ H Q I hw)
theorem pe_and (ha : PE X a ta) (hb : PE X (.BoolOp .And (b :: rest) pos) tb) : PE X (.BoolOp .And (a :: b :: rest) pos) (tAndV ta tb) := by
  intro pins s σ H Q I h
  refine BoolOp_and (thn (ha pins s σ H _ I h) fun v s1 ⟨x, H1, I1, r1, q1⟩ => ?_)
  obtain ⟨c, rfl, q1⟩ := q1
  cases r1
  refine wpAny_truthy_bool ?_
  cases c with
  | true => exact hb pins s1 σ H1 Q I1 q1
  | false => exact ⟨.bl false, H1, I1, rfl, q1⟩
def tIf (t : TT) (ta tb : TE) : TE := fun σ H Q => t σ H fun c H1 => if c = true then ta σ H1 Q else tb σ H1 Q
end
open PySem PySem.Spec PyProof.Rows
def SqL (K : PySem.W.Frag) (H : Hp) (a : Addr) (xs : List V) : Prop :=
  Rd H a (.lst xs) ∨
    ∃ (o : Obj) (its : Array Value) (n : Nat), K.lookup a = some o ∧ o.cls = .type "list" ∧ o.dict = none ∧ o.data = .seq its n ∧ its.size ≤ sizeLine ∧ Vals xs its.toList
def SqT (K : PySem.W.Frag) (H : Hp) (a : Addr) (xs : List V) : Prop :=
  Rd H a (.tup xs) ∨
    ∃ (o : Obj) (its : Array Value) (n : Nat), K.lookup a = some o ∧ o.cls = .type "tuple" ∧ o.data = .seq its n ∧ its.size ≤ sizeLine ∧ Vals xs its.toList
def absV : Value → Option V
  | .none => some .non
  | .bool b => some (.bl b)
  | .int i _ => some (.int i)
  | .str x _ => some (.str x)
  | .bytes b _ => some (.byt b)
  | .float b _ => some (.flt b)
  | .ref a => some (.ref a)
  | .type n => some (.ty n)
  | _ => none
theorem RelV.abs {x : V} {u : Value} (r : RelV x u) : absV u = some x := by
  cases x with
  | non => cases r; rfl
  | bl _ => cases r; rfl
  | int _ => obtain ⟨t, rfl⟩ := r; rfl
  | str _ => obtain ⟨t, rfl⟩ := r; rfl
  | byt _ => obtain ⟨t, rfl⟩ := r; rfl
  | flt _ => obtain ⟨t, rfl⟩ := r; rfl
  | ref _ => cases r; rfl
  | ty _ => cases r; rfl
theorem RelV.inj {x y : V} {u : Value} (r : RelV x u) (q : RelV y u) : x = y := Option.some.inj (r.abs.symm.trans q.abs)
theorem Vals.inj : ∀ {xs ys : List V} {us : List Value}, Vals xs us → Vals ys us → xs = ys
  | _, _, _, .nil, .nil => rfl
  | _, _, _, .cons r t, .cons r' t' => by rw [r.inj r', Vals.inj t t']
section
variable {X : Cx} {pins : List (Addr × Obj)} {σ : St} {H : Hp} {s : Shared} {a : Addr} {xs ys : List V}
theorem SqL.of {K : PySem.W.Frag} (h : H a = some (.lst xs)) : SqL K H a xs := .inl (.inl h)
theorem SqT.of {K : PySem.W.Frag} (h : H a = some (.tup xs)) : SqT K H a xs := .inl (.inl h)
theorem Inv.list (I : Inv X pins σ H s) (h : SqL X.K H a xs) : ∃ its : List Value, Vals xs its ∧ PlainL s.heap a its.toArray ∧ xs.length ≤ sizeLine := by
  rcases h with h | ⟨o, its, n, hk, hc, hd, hs, hz, r⟩
  · obtain ⟨z, its, n, r, e⟩ := h.ok I.hok
    exact ⟨its, r, ⟨_, n, e, rfl, rfl, rfl⟩, z⟩
  · refine ⟨its.toList, r, ⟨o, n, I.kIn a o hk, hc, hd, by simpa using hs⟩, ?_⟩
    have e := r.length
    simp only [Array.length_toList] at e
    omega
theorem Inv.tuple (I : Inv X pins σ H s) (h : SqT X.K H a xs) : ∃ its : List Value, Vals xs its ∧ IsTup s.heap a its.toArray ∧ xs.length ≤ sizeLine := by
  rcases h with h | ⟨o, its, n, hk, hc, hs, hz, r⟩
  · obtain ⟨z, its, r, p⟩ := h.ok I.hok
    exact ⟨its, r, p, z⟩
  · refine ⟨its.toList, r, ⟨o, I.kIn a o hk, hc, n, by simpa using hs⟩, ?_⟩
    have e := r.length
    simp only [Array.length_toList] at e
    omega
theorem Inv.list_inj (I : Inv X pins σ H s) (h : SqL X.K H a xs) (h' : SqL X.K H a ys) : xs = ys := by
  obtain ⟨its, r, ⟨o, n, e, _, _, d⟩, _⟩ := I.list h
  obtain ⟨its', r', ⟨o', n', e', _, _, d'⟩, _⟩ := I.list h'
  rw [e] at e'; cases e'
  rw [d] at d'
  injection d' with d1 _
  have : its = its' := by simpa using congrArg Array.toList d1
  subst this
  exact r.inj r'
end
abbrev Cx.wish (X : Cx) (E : Value → Shared → Prop) : Cx := { X with xe := E }
abbrev Cx.nox (X : Cx) : Cx := X.wish fun _ _ => False
theorem Cx.Ok.wish {X : Cx} (ok : X.Ok) (E : Value → Shared → Prop) : (X.wish E).Ok :=
  ⟨ok.mod, ok.kind, ok.glob, ok.blt, ok.above, ok.inj, ok.has, ok.cab, ok.hd, ok.frames, ok.stk, ok.exf, ok.bs, ok.bsz, ok.noex, ok.exfs, ok.funs, ok.frf⟩
theorem Cx.Ok.unwish {X : Cx} {E : Value → Shared → Prop} (ok : (X.wish E).Ok) : X.Ok :=
  ⟨ok.mod, ok.kind, ok.glob, ok.blt, ok.above, ok.inj, ok.has, ok.cab, ok.hd, ok.frames, ok.stk, ok.exf, ok.bs, ok.bsz, ok.noex, ok.exfs, ok.funs, ok.frf⟩
section
variable {X : Cx} {pins : List (Addr × Obj)} {σ : St} {H : Hp} {s : Shared} {E : Value → Shared → Prop}
theorem Inv.wish (I : Inv X pins σ H s) (E : Value → Shared → Prop) : Inv (X.wish E) pins σ H s := ⟨I.ok.wish E, I.os, I.bare, I.base, I.loc, I.cell, I.free, I.freeC, I.pin, I.hok, I.len⟩
theorem Inv.unwish (I : Inv (X.wish E) pins σ H s) : Inv X pins σ H s := ⟨I.ok.unwish, I.os, I.bare, I.base, I.loc, I.cell, I.free, I.freeC, I.pin, I.hok, I.len⟩
theorem SP.unwish {D : Ends} {f : Flow} {s' : Shared} (h : SP (X.wish E) pins D f s') : SP X pins D f s' := by
  cases f with
  | next => obtain ⟨σ', H', I, q⟩ := h; exact ⟨σ', H', I.unwish, q⟩
  | brk => obtain ⟨σ', H', I, q⟩ := h; exact ⟨σ', H', I.unwish, q⟩
  | cont => obtain ⟨σ', H', I, q⟩ := h; exact ⟨σ', H', I.unwish, q⟩
  | ret u => obtain ⟨v, σ', H', I, r, q⟩ := h; exact ⟨v, σ', H', I.unwish, r, q⟩
theorem PSs.nox {st : List Stmt} {t : TS} (h : PSs X.nox st t) : PSs X st t := fun pins s σ H D I hw =>
  wpAny_mono (h pins s σ H D (I.wish _) hw) (fun _ _ q => q.unwish) fun _ _ z => False.elim z
end
section
variable {X : Cx} {st : Stmt} {rest : List Stmt} {t u : TS} {e : Expr} {te : TE} {pos : Pos}
def tNext : TS := fun D σ H => D.nx σ H
def tSeq (t u : TS) : TS := fun D σ H => t { D with nx := u D } σ H
theorem pss_nil : PSs X [] tNext := fun _ _ σ H _ I h => wpAny_execs_nil ⟨σ, H, I, h⟩
theorem pss_cons (h1 : PS X st t) (h2 : PSs X rest u) : PSs X (st :: rest) (tSeq t u) := by
  intro pins s σ H D I h
  refine wpAny_execs_cons (thn (h1 pins s σ H { D with nx := u D } I h) fun f s1 q => ?_)
  cases f with
  | next =>
    obtain ⟨σ', H', I', q⟩ := q
    exact h2 pins s1 σ' H' D I' q
  | ret v => exact q
  | brk => exact q
  | cont => exact q
theorem pss_one (h1 : PS X st t) : PSs X [st] t := by
  intro pins s σ H D I h
  refine wpAny_execs_cons (thn (h1 pins s σ H D I h) fun f s1 q => ?_)
  cases f with
  | next => exact wpAny_execs_nil q
  | ret v => exact q
  | brk => exact q
  | cont => exact q
def tBreak : TS := fun D σ H => D.bk σ H
def tCont : TS := fun D σ H => D.ct σ H
theorem Inv.quiet {pins : List (Addr × Obj)} {σ : St} {H : Hp} {s : Shared} (I : Inv X pins σ H s) : interactive X.env = false := by simp [interactive, I.ok.kind]
def tDrop (te : TE) : TS := fun D σ H => te σ H fun _ H1 => D.nx σ H1
theorem ps_expr (he : PE X e te) (hs : swapsWith e none pos.line X.env = pure false := by rfl) : PS X (.Expr e pos) (tDrop te) := by
  intro pins s σ H D I h
  exact wpAny_Expr_any (thn (he pins s σ H _ I h) fun v s1 ⟨x, H1, I1, r1, q1⟩ => ⟨σ, H1, I1, q1⟩) I.quiet hs
def tRet (te : TE) : TS := fun D σ H => te σ H D.rt
theorem ps_ret (he : PE X e te) : PS X (.Return (some e) pos) (tRet te) := by
  intro pins s σ H D I h
  exact wpAny_Return_some (thn (he pins s σ H _ I h) fun v s1 ⟨x, H1, I1, r1, q1⟩ => ⟨x, σ, H1, I1, r1, q1⟩)
def tRetN : TS := fun D _ H => D.rt .non H
def tIfS (c : TT) (t u : TS) : TS := fun D σ H => c σ H fun b H1 => if b = true then t D σ H1 else u D σ H1
theorem ps_if {c : Expr} {a b : List Stmt} {tc : TT} (hc : PT X c tc) (ha : PSs X a t) (hb : PSs X b u) : PS X (.If c a b pos) (tIfS tc t u) := by
  intro pins s σ H D I h
  refine wpAny_If (thn (hc pins s σ H _ I h) fun d s1 ⟨H1, I1, q1⟩ => ?_)
  cases d with
  | true => exact ha pins s1 σ H1 D I1 q1
  | false => exact hb pins s1 σ H1 D I1 q1
def tNever : TS := fun _ _ _ => False
end
abbrev TG := V → St → Hp → (St → Hp → Prop) → Prop
abbrev TGs := List V → St → Hp → (St → Hp → Prop) → Prop
def PG (X : Cx) (target : Expr) (t : TG) : Prop :=
  ∀ (pins : List (Addr × Obj)) (s : Shared) (σ : St) (H : Hp) (v : V) (u : Value) (Q : St → Hp → Prop), Inv X pins σ H s → RelV v u → t v σ H Q →
    wpAny (model X.prog X.w) X.A (assign target X.env u) (fun _ s' => ∃ σ' H', Inv X pins σ' H' s' ∧ Q σ' H') X.xe s
def PGs (X : Cx) (ts : List Expr) (t : TGs) : Prop :=
  ∀ (pins : List (Addr × Obj)) (s : Shared) (σ : St) (H : Hp) (vs : List V) (us : List Value) (Q : St → Hp → Prop), Inv X pins σ H s → Vals vs us → t vs σ H Q →
    wpAny (model X.prog X.w) X.A (assignInOrder ((assignEach ts X.env).map (·.2)) us) (fun _ s' => ∃ σ' H', Inv X pins σ' H' s' ∧ Q σ' H') X.xe s
abbrev TSet := V → V → V → Hp → (Hp → Prop) → Prop
def PSet (X : Cx) (t : TSet) : Prop :=
  ∀ (pins : List (Addr × Obj)) (s : Shared) (σ : St) (H : Hp) (o i v : V) (ov iv u : Value) (Q : Hp → Prop), Inv X pins σ H s → RelV o ov → RelV i iv → RelV v u → t o i v H Q →
    wpAny (model X.prog X.w) X.A (setItem ov iv u) (fun _ s' => ∃ H', Inv X pins σ H' s' ∧ Q H') X.xe s
abbrev TIp := V → V → Hp → VK → Prop
def PIp (X : Cx) (op : Operator) (t : TIp) : Prop :=
  ∀ (pins : List (Addr × Obj)) (s : Shared) (σ : St) (H : Hp) (x y : V) (v u : Value) (Q : VK), Inv X pins σ H s → RelV x v → RelV y u → t x y H Q →
    wpAny (model X.prog X.w) X.A (inplaceOp op v u) (EP X pins σ Q) X.xe s
section
variable {X : Cx} {pos : Pos}
def gName (i : Nat) : TG := fun v σ H Q => Q (σ.set i (some v)) H
theorem pg_name {i : Nat} {x : Str} (hN : X.N.Nodup) (hi : X.N[i]? = some x) (hx : Loc X.env.scope x) (hf : X.fn x = true ∨ X.env.scope.names.lookup x = some .local := by first | exact .inl rfl | exact .inr rfl | assumption) : PG X (.Name x pos) (gName i) := by
  intro pins s σ H v u Q I r h
  exact wpAny_assign_Name (store_ok I hN hi hx r (fun s' I' => ⟨_, H, I', h⟩) hf)
def gNil : TGs := fun vs σ H Q => vs = [] ∧ Q σ H
def gCons (t : TG) (u : TGs) : TGs := fun vs σ H Q => ∃ v r, vs = v :: r ∧ t v σ H fun σ' H' => u r σ' H' Q
def gTup (K : PySem.W.Frag) (n : Nat) (t : TGs) : TG := fun v σ H Q => ∃ a xs, v = .ref a ∧ SqT K H a xs ∧ xs.length = n ∧ t xs σ H Q
def gSub (to ti : TE) (t : TSet) : TG := fun v σ H Q => to σ H fun o H1 => ti σ H1 fun i H2 => t o i v H2 fun H3 => Q σ H3
theorem pg_sub {o i : Expr} {to ti : TE} {t : TSet} (ho : PE X o to) (hi : PE X i ti) (hs : PSet X t)
    (ha : ∀ v, assign (.Subscript o i pos) X.env v = (do
      let ov ← holding [v] (eval o X.env)
      let iv ← holding [v, ov] (eval i X.env)
      standAt pos
      holding [v, ov, iv] (setItem ov iv v)
      release [v, ov, iv] []) := by intro _; rfl) : PG X (.Subscript o i pos) (gSub to ti t) := by
  intro pins s σ H v u Q I r h
  rw [ha]
  refine wpAny_bind (wpAny_holding (thn (ho pins s σ H _ I h) fun ov s1 ⟨x, H1, I1, r1, q1⟩ => ?_))
  refine wpAny_bind (wpAny_holding (thn (hi pins s1 σ H1 _ I1 q1) fun iv s2 ⟨y, H2, I2, r2, q2⟩ => ?_))
  refine wpAny_bind (wpAny_standAt (wpAny_bind (wpAny_holding (thn (hs pins s2 σ H2 x y v ov iv u _ I2 r1 r2 r q2) fun _ s3 ⟨H3, I3, q3⟩ => ?_))))
  exact wpAny_release ⟨σ, H3, I3, q3⟩
def tAsg (te : TE) (g : TG) : TS := fun D σ H => te σ H fun x H1 => g x σ H1 D.nx
theorem ps_asg {tg e : Expr} {te : TE} {g : TG} (he : PE X e te) (hg : PG X tg g) (hs : swapsWithSole [tg] e pos.line X.env = pure false := by rfl) (hw : swappedStores [tg] e X.env = pure none := by rfl)
    (h1 : (assignEach [tg] X.env).map (·.2) = [assign tg X.env] := by rfl) : PS X (.Assign [tg] e pos) (tAsg te g) := by
  intro pins s σ H D I h
  refine wpAny_Assign_stores (thn (he pins s σ H _ I h) fun v s1 ⟨x, H1, I1, r1, q1⟩ => ?_) hs hw
  rw [h1]
  exact thn (hg pins s1 σ H1 x v _ I1 r1 q1) fun _ s2 q => q
theorem ps_set {i : Nat} {x : Str} {e : Expr} {te : TE} {pos' : Pos} (hN : X.N.Nodup) (hi : X.N[i]? = some x) (hx : Loc X.env.scope x) (he : PE X e te) (hs : swapsWith e (some (.Name x pos')) pos.line X.env = pure false := by rfl) (hf : X.fn x = true ∨ X.env.scope.names.lookup x = some .local := by first | exact .inl rfl | exact .inr rfl | assumption) :
    PS X (.Assign [.Name x pos'] e pos) (tAsg te (gName i)) := by
  intro pins s σ H D I h
  refine wpAny_Assign_Name (thn (he pins s σ H _ I h) fun v s1 ⟨y, H1, I1, r1, q1⟩ => ?_) hs
  exact store_ok I1 hN hi hx r1 (fun s2 I2 => ⟨_, H1, I2, q1⟩) hf
def tPar (i j : Nat) (ta : TA) : TS := fun D σ H => ta σ H fun vs H1 => ∃ v w, vs = [v, w] ∧ D.nx ((σ.set i (some v)).set j (some w)) H1
def tAug (i : Nat) (te : TE) (ti : TIp) : TS := fun D σ H => ∃ x, σ[i]? = some (some x) ∧ te σ H fun y H1 => ti x y H1 fun z H2 => D.nx (σ.set i (some z)) H2
theorem ps_aug {i : Nat} {x : Str} {e : Expr} {te : TE} {op : Operator} {ti : TIp} {pos' : Pos} (hN : X.N.Nodup) (hi : X.N[i]? = some x) (hx : Loc X.env.scope x) (he : PE X e te) (ho : PIp X op ti) (hf : X.fn x = true ∨ X.env.scope.names.lookup x = some .local := by first | exact .inl rfl | exact .inr rfl | assumption) :
    PS X (.AugAssign (.Name x pos') op e pos) (tAug i te ti) := by
  intro pins s σ H D I h
  obtain ⟨v, e1, h⟩ := h
  obtain ⟨m, hn, hl⟩ := I.loc
  have vis : Vis X.env.scope x := by rcases hx with k | k; exact .inl k; exact .inr (.inl k)
  obtain ⟨u, r, l⟩ := hl i x v hi e1 vis
  refine wpAny_AugAssign_Name ?_
  have go : wpAny (model X.prog X.w) X.A (eval e X.env) (fun w s₂ => wpAny (model X.prog X.w) X.A (inplaceOp op u w) (fun r s₃ => wpAny (model X.prog X.w) X.A (storeName X.env x r) (fun _ => SP X pins D .next) X.xe s₃) X.xe s₂) X.xe s := by
    refine thn (he pins s σ H _ I h) fun w s1 ⟨y, H1, I1, r1, q1⟩ => ?_
    refine thn (ho pins s1 σ H1 v y u w _ I1 r r1 q1) fun z s2 ⟨zv, H2, I2, r2, q2⟩ => ?_
    exact store_ok I2 hN hi hx r2 (fun s3 I3 => ⟨_, H2, I3, q2⟩) hf
  rcases l with ⟨hk, hm⟩ | ⟨hk, c, hc, hcell⟩
  · exact wpAny_loadName_local I.ok.kind hk hn hm go
  · rcases hk with hk | hk
    · exact wpAny_loadName_cell I.ok.kind hk hc hcell go
    · rcases hx with k | k
      · have : X.env.scope.names.lookup x = some .free := hk
        rw [k] at this; cases this
      · have : X.env.scope.names.lookup x = some .free := hk
        rw [k] at this; cases this
def tAugS (to ti te : TE) (tget : V → V → Hp → VK → Prop) (tip : TIp) (tset : TSet) : TS := fun D σ H => to σ H fun o H1 => ti σ H1 fun i H2 => tget o i H2 fun x H3 => te σ H3 fun y H4 => tip x y H4 fun z H5 => tset o i z H5 fun H6 => D.nx σ H6
def PGet (X : Cx) (t : V → V → Hp → VK → Prop) : Prop :=
  ∀ (pins : List (Addr × Obj)) (s : Shared) (σ : St) (H : Hp) (o i : V) (ov iv : Value) (Q : VK), Inv X pins σ H s → RelV o ov → RelV i iv → t o i H Q →
    wpAny (model X.prog X.w) X.A (getItem ov iv) (EP X pins σ Q) X.xe s
def ipI (f : Int → Int → Int) : TIp := fun x y H Q => ∃ i j, x = .int i ∧ y = .int j ∧ Q (.int (f i j)) H
theorem ip_add : PIp X .Add (ipI fun i j => i + j) := by
  intro pins s σ H x y v u Q I r1 r2 h
  obtain ⟨i, j, e1, e2, q⟩ := h
  subst e1; subst e2
  obtain ⟨t, rfl⟩ := r1
  obtain ⟨t', rfl⟩ := r2
  exact iadd_int ⟨.int _, H, I.tok _, ⟨_, rfl⟩, q⟩
end
section
variable {X : Cx} {pos : Pos}
def tWhile (c : TT) (tb : TS) : TS := fun D σ H => ∃ W : Nat → St → Hp → Prop, (∃ m, W m σ H) ∧ ∀ m σ H, W m σ H →
  c σ H fun b H1 => if b = true then ∃ N : St → Hp → Prop, (∀ σ' H', N σ' H' → ∃ m', m' < m ∧ W m' σ' H') ∧ tb { D with nx := N, ct := N, bk := D.nx } σ H1 else D.nx σ H1
theorem ps_while {c : Expr} {body : List Stmt} {tc : TT} {tb : TS} (hp : PassesOwn (model X.prog X.w) X.A X.env X.xe) (hc : PT X c tc) (hb : PSs X body tb) : PS X (.While c body [] pos) (tWhile tc tb) := by
  intro pins s σ H D I h
  obtain ⟨W, ⟨m0, w0⟩, turn⟩ := h
  refine wpAny_While (codeAny_whileLoop (fun n s' => ∃ σ' H', Inv X pins σ' H' s' ∧ W n σ' H') ?_ m0 ⟨σ, H, I, w0⟩)
  rintro n s1 ⟨σ1, H1, I1, w1⟩
  refine wpAny_passesOwn hp (thn (hc pins s1 σ1 H1 _ I1 (turn n σ1 H1 w1)) fun b s2 ⟨H2, I2, q2⟩ => ?_)
  cases b with
  | true =>
    obtain ⟨N, hN, q2⟩ := q2
    rw [if_pos rfl]
    refine wpAny_passesOwn hp (thn (hb pins s2 σ1 H2 _ I2 q2) fun f s3 q3 => ?_)
    cases f with
    | next =>
      obtain ⟨σ3, H3, I3, n3⟩ := q3
      obtain ⟨m', hm, w3⟩ := hN σ3 H3 n3
      exact ⟨m', hm, σ3, H3, I3, w3⟩
    | cont =>
      obtain ⟨σ3, H3, I3, n3⟩ := q3
      obtain ⟨m', hm, w3⟩ := hN σ3 H3 n3
      exact ⟨m', hm, σ3, H3, I3, w3⟩
    | brk => exact q3
    | ret v => exact q3
  | false =>
    rw [if_neg Bool.false_ne_true]
    exact wpAny_execs_nil ⟨σ1, H2, I2, q2⟩
end
structure It where
  go : Nat → Hp → Prop
  yld : Nat → Hp → V → Hp → Prop
  stop : Nat → Hp → Prop
def FpOk (X : Cx) (pins : List (Addr × Obj)) (H : Hp) (b : Addr) : Prop :=
  H b = none ∧ b ≠ X.env.locals ∧ b ∉ X.fs ∧ (b ∈ X.ex ∨ X.s₀.heap.objs.size ≤ b) ∧ (∀ x c, X.env.cells.lookup x = some c → c ≠ b) ∧ ∀ p ∈ X.pn ++ pins, p.1 ≠ b
theorem Inv.fpOk {X : Cx} {pins : List (Addr × Obj)} {σ : St} {H H' : Hp} {s : Shared} {b : Addr} (I : Inv X pins σ H s) (hb : s.heap.objs.size ≤ b) (hn : H' b = none) : FpOk X pins H' b := by
  refine ⟨hn, Nat.ne_of_gt (Nat.lt_of_lt_of_le I.lt hb), I.nofs hb, .inr (Nat.le_trans I.sz hb), fun x c e z => ?_, fun p hp z => ?_⟩
  · obtain ⟨v, q⟩ := I.cell x c e
    exact absurd (Nat.lt_of_lt_of_le q.lt (by rw [z]; exact hb)) (Nat.lt_irrefl _)
  · exact absurd (Nat.lt_of_lt_of_le (Heap.lt_size (I.pin p hp).1) (by rw [z]; exact hb)) (Nat.lt_irrefl _)
structure Turn (P : Program) (w : World) (K : PySem.W.Frag) (tg : Expr) (J : It) (fp : List Addr) (it : Addr) (tn : Nat → Heap → Prop) : Prop where
  mem : it ∈ fp
  obj : ∀ i h, tn i h → ∀ b ∈ fp, ∃ o, h.get? b = some o ∧ ∀ v, o.data ≠ .cell v
  keep : ∀ i h h', tn i h → (∀ b ∈ fp, ∀ o, h.get? b = some o → h'.get? b = some o) → tn i h'
  item : ∀ (X : Cx), X.prog = P → X.w = w → X.K = K → X.calm = true → ∀ (i : Nat) (pins : List (Addr × Obj)) (s : Shared) (σ : St) (H : Hp) (E : Value → Shared → Prop), Inv X pins σ H s → (∀ b ∈ fp, FpOk X pins H b) → tn i s.heap → J.go i H →
    wpAny (model P w) X.A (pyNext (.ref it)) (fun r s1 => ∃ u, r = some u ∧
      wpAny (model P w) X.A (letOwnedTupleGo tg (.ref it) u) (fun _ s2 => ∃ x H', Inv X pins σ H' s2 ∧ RelV x u ∧ J.yld i H x H' ∧ tn (i + 1) s2.heap ∧ ∀ b ∈ fp, H' b = none) E s1) E s
  done : ∀ (X : Cx), X.prog = P → X.w = w → X.K = K → X.calm = true → ∀ (i : Nat) (pins : List (Addr × Obj)) (s : Shared) (σ : St) (H : Hp) (E : Value → Shared → Prop), Inv X pins σ H s → (∀ b ∈ fp, FpOk X pins H b) → tn i s.heap → J.stop i H →
    wpAny (model P w) X.A (pyNext (.ref it)) (fun r s1 => r = none ∧ Inv X pins σ H s1) E s
  self : ∀ (A : Around) (i : Nat) (s : Shared) (Q : Value → Shared → Prop) (E : Value → Shared → Prop), tn i s.heap → Q (.ref it) s → wpAny (model P w) A (pyIter (.ref it)) Q E s
abbrev TI := St → Hp → (It → Hp → Prop) → Prop
def PIE (X : Cx) (pins : List (Addr × Obj)) (σ : St) (tg : Expr) (R : It → Hp → Prop) (itv : Value) (s2 : Shared) : Prop :=
  ∃ (it : Addr) (fp : List Addr) (tn : Nat → Heap → Prop) (J : It) (H' : Hp), itv = .ref it ∧ Inv X pins σ H' s2 ∧ Turn X.prog X.w X.K tg J fp it tn ∧ tn 0 s2.heap ∧ (∀ b ∈ fp, FpOk X pins H' b) ∧ R J H'
def PI (X : Cx) (tg iter : Expr) (wi : TI) : Prop :=
  ∀ (pins : List (Addr × Obj)) (s : Shared) (σ : St) (H : Hp) (R : It → Hp → Prop), Inv X pins σ H s → wi σ H R →
    wpAny (model X.prog X.w) X.A (eval iter X.env) (fun v s1 => wpAny (model X.prog X.w) X.A (pyIter v) (PIE X pins σ tg R) X.xe s1) X.xe s
theorem go_of {M : Model} {A : Around} {E : Value → Shared → Prop} {s : Shared} {tg : Expr} {it : Addr} {u : Value} {o : Obj} {n : String} {vs : Array Value} {Q : Unit → Shared → Prop} (ho : s.heap.get? it = some o) (hc : o.cls = .type n) (hd : o.data = .fields vs)
    (hn : ["enumerate", "zip", "dict_itemiterator", "dict_reverseitemiterator", "odict_iterator", "itertools.zip_longest", "itertools.pairwise"].contains n = false) (hQ : Q () s) : wpAny M A (letOwnedTupleGo tg (.ref it) u) Q E s := by
  unfold letOwnedTupleGo
  cases tg <;> first
    | exact wpAny_pure hQ
    | (cases u <;> first
        | exact wpAny_pure hQ
        | (refine wpAny_bind (wpAny_load ho ?_)
           rw [hc, hd]
           show wpAny M A (if (["enumerate", "zip", "dict_itemiterator", "dict_reverseitemiterator", "odict_iterator", "itertools.zip_longest", "itertools.pairwise"].contains n && vs[0]? == some (rawInt _)) = true then _ else _) Q E s
           rw [if_neg (by intro h; rw [hn, Bool.false_and] at h; cases h)]
           exact wpAny_pure hQ))
def Itl (K : PySem.W.Frag) (a : Addr) : It :=
  ⟨fun i H => ∃ xs x, SqL K H a xs ∧ xs[i]? = some x, fun i H x H' => H' = H ∧ ∀ xs, SqL K H a xs → xs[i]? = some x, fun i H => ∃ xs, SqL K H a xs ∧ xs.length ≤ i⟩
def Itt (K : PySem.W.Frag) (a : Addr) : It :=
  ⟨fun i H => ∃ xs x, SqT K H a xs ∧ xs[i]? = some x, fun i H x H' => H' = H ∧ ∀ xs, SqT K H a xs → xs[i]? = some x, fun i H => ∃ xs, SqT K H a xs ∧ xs.length ≤ i⟩
def Itr (lo : Int) (n : Nat) : It := ⟨fun i _ => i < n, fun i H x H' => H' = H ∧ x = .int (lo + i), fun i _ => n ≤ i⟩
theorem turn_list {P : Program} {w : World} {K : PySem.W.Frag} {tg : Expr} (a it : Addr) : Turn P w K tg (Itl K a) [it] it (fun i h => h.IsListIter it a i) where
  mem := by simp
  obj := fun i h st b hb => by
    have e : b = it := by simpa using hb
    subst e
    obtain ⟨o, e, c, d⟩ := st
    exact ⟨o, e, fun v z => by rw [d] at z; cases z⟩
  keep := fun i h h' st k => st.at fun o e => k it (by simp) o e
  item := by
    intro X hP hw hK hc i pins s σ H E I hf st hg
    subst hP hw hK
    obtain ⟨xs, x, hq, hx⟩ := hg
    obtain ⟨its, rv, p, hz⟩ := I.list hq
    obtain ⟨u, hu, ru⟩ := rv.get hx
    obtain ⟨f0, f1, f2, f3, f4, f5⟩ := hf it (by simp)
    refine wpAny_pyNext_list_item st p.isList (x := u) (by simpa using hu) fun h' st' sb => ?_
    have I1 : Inv X pins σ H { s with heap := h' } := I.turned (t' := s.toks) (fun b o hb e => (sb.2 b hb).trans e) f0 f1 f3 f4 f5
    obtain ⟨o, e, c, d⟩ := id st'
    exact ⟨u, rfl, go_of (s := { s with heap := h' }) e c d (by decide) ⟨x, H, I1, ru, ⟨rfl, fun ys hy => by rw [I.list_inj hy hq]; exact hx⟩, st', fun b hb => (hf b hb).1⟩⟩
  done := by
    intro X hP hw hK hc i pins s σ H E I hf st hg
    subst hP hw hK
    obtain ⟨xs, hq, hx⟩ := hg
    obtain ⟨its, rv, p, hz⟩ := I.list hq
    obtain ⟨f0, f1, f2, f3, f4, f5⟩ := hf it (by simp)
    have hl := rv.length
    exact wpAny_pyNext_list_end (I.ok.hd hc) st p.isList (by simp; omega) fun h' eb => ⟨rfl, I.turned (t' := s.toks) (fun b o hb e => eb b o hb e) f0 f1 f3 f4 f5⟩
  self := fun _ _ _ _ _ st h => wpAny_pyIter_listiter st h
theorem turn_range {P : Program} {w : World} {K : PySem.W.Frag} {tg : Expr} (it : Addr) (lo : Int) (n : Nat) : Turn P w K tg (Itr lo n) [it] it (fun i h => IsRangeIter h it (lo + (i : Nat) * 1) ((n : Int) - (i : Nat)) 1) where
  mem := by simp
  obj := fun i h st b hb => by
    have e : b = it := by simpa using hb
    subst e
    exact ⟨_, st, fun v z => by
      have z' : Data.fields _ = Data.cell v := z
      cases z'⟩
  keep := fun i h h' st k => k it (by simp) _ st
  item := by
    intro X hP hw hK hc i pins s σ H E I hf st hg
    subst hP hw hK
    obtain ⟨f0, f1, f2, f3, f4, f5⟩ := hf it (by simp)
    have W := Walks.range (prog := X.prog) (w := X.w) (I.ok.hd hc) it lo 1 n
    refine W.item i s _ _ hg st fun v h' tk hv st' kk => ?_
    obtain ⟨t, rfl⟩ := hv
    have I1 : Inv X pins σ H { s with heap := h', toks := tk } := I.turned (fun b o hb e => kk b o (by simpa using hb) e) f0 f1 f3 f4 f5
    refine ⟨_, rfl, go_of (s := { s with heap := h', toks := tk }) (n := "range_iterator") st' rfl rfl (by decide) ⟨.int (lo + i), H, I1, ⟨t, ?_⟩, ⟨rfl, rfl⟩, st', fun b hb => (hf b hb).1⟩⟩
    rw [Int.mul_one]
  done := by
    intro X hP hw hK hc i pins s σ H E I hf st hg
    subst hP hw hK
    obtain ⟨f0, f1, f2, f3, f4, f5⟩ := hf it (by simp)
    exact wpAny_pyNext_range_end (I.ok.hd hc) st (by have : n ≤ i := hg; omega) fun h' eb => ⟨rfl, I.turned (t' := s.toks) (fun b o hb e => eb b o hb e) f0 f1 f3 f4 f5⟩
  self := fun _ _ _ _ _ st h => wpAny_pyIter_rangeiter st h
open PySem PySem.Spec PyProof.Rows
section
variable {X : Cx} {tg : Expr}
def iList (K : PySem.W.Frag) (tl : TE) : TI := fun σ H R => tl σ H fun x H1 => ∃ a, x = .ref a ∧ (∃ xs, SqL K H1 a xs) ∧ R (Itl K a) H1
def iTup (K : PySem.W.Frag) (tl : TE) : TI := fun σ H R => tl σ H fun x H1 => ∃ a, x = .ref a ∧ (∃ xs, SqT K H1 a xs) ∧ R (Itt K a) H1
theorem pi_list {l : Expr} {tl : TE} (hl : PE X l tl) : PI X tg l (iList X.K tl) := by
  intro pins s σ H R I h
  refine thn (hl pins s σ H _ I h) fun v s1 ⟨x, H1, I1, r1, q1⟩ => ?_
  obtain ⟨a, e, ⟨xs, hq⟩, q⟩ := q1
  subst e
  cases r1
  obtain ⟨its, rv, p, hz⟩ := I1.list hq
  refine wpAny_pyIter_list p.isList ?_
  refine ⟨s1.heap.objs.size, [s1.heap.objs.size], _, _, H1, rfl, I1.kept (t' := s1.toks) fun b o e => Heap.get?_push_of_some _ e, turn_list a _, ⟨_, Heap.get?_push_size _ rfl, rfl, rfl⟩, fun b hb => ?_, q⟩
  have e : b = s1.heap.objs.size := by simpa using hb
  subst e
  exact I1.fpOk (Nat.le_refl _) (I1.hok.fresh (Nat.le_refl _))
theorem range_it {pins : List (Addr × Obj)} {σ : St} {H : Hp} {s : Shared} {R : It → Hp → Prop} {E : Value → Shared → Prop} {lo hi : Int} {t u v : Tok} {tk : Nat} (I : Inv X pins σ H s) (h1 : -(2 ^ 62) ≤ lo) (h2 : lo < 2 ^ 62) (h3 : -(2 ^ 62) ≤ hi) (h4 : hi < 2 ^ 62)
    (q : R (Itr lo (hi - lo).toNat) H) : wpAny (model X.prog X.w) X.A (pyIter (.ref s.heap.objs.size)) (PIE X pins σ tg R) E { s with heap := s.heap.push { cls := .type "range", data := .fields #[.int lo t, .int hi u, .int 1 v] }, toks := tk } := by
  refine wpAny_pyIter_range (IsRange.new ..) (small_one h1 h2 h3 h4) ?_
  have I1 : Inv X pins σ H { s with heap := s.heap.push { cls := .type "range", data := .fields #[.int lo t, .int hi u, .int 1 v] }, toks := tk } := I.kept fun b o e => Heap.get?_push_of_some _ e
  refine ⟨(s.heap.push { cls := .type "range", data := .fields #[.int lo t, .int hi u, .int 1 v] }).objs.size, [(s.heap.push { cls := .type "range", data := .fields #[.int lo t, .int hi u, .int 1 v] }).objs.size], _, _, H, rfl,
    I1.kept (t' := tk) fun b o e => Heap.get?_push_of_some _ e, turn_range _ lo (hi - lo).toNat, ?_, fun b hb => ?_, q⟩
  · have e1 : lo + ((0 : Nat) : Int) * 1 = lo := by simp
    have e2 : (((hi - lo).toNat : Nat) : Int) - ((0 : Nat) : Int) = Builtin.Range.rangeSize lo hi 1 := by rw [rangeSize_one]; split <;> omega
    show IsRangeIter _ _ (lo + ((0 : Nat) : Int) * 1) ((((hi - lo).toNat : Nat) : Int) - ((0 : Nat) : Int)) 1
    rw [e1, e2]
    exact Heap.get?_push_size _ rfl
  · have e : b = (s.heap.push { cls := .type "range", data := .fields #[.int lo t, .int hi u, .int 1 v] }).objs.size := by simpa using hb
    subst e
    exact I1.fpOk (Nat.le_refl _) (I1.hok.fresh (Nat.le_refl _))
def iRng1 (ta : TA) : TI := fun σ H R => ta σ H fun vs H1 => ∃ j : Int, vs = [.int j] ∧ -(2 ^ 62) ≤ j ∧ j < 2 ^ 62 ∧ R (Itr 0 j.toNat) H1
def iRng2 (ta : TA) : TI := fun σ H R => ta σ H fun vs H1 => ∃ i j : Int, vs = [.int i, .int j] ∧ (-(2 ^ 62) ≤ i ∧ i < 2 ^ 62 ∧ -(2 ^ 62) ≤ j ∧ j < 2 ^ 62) ∧ R (Itr i (j - i).toNat) H1
theorem pi_range1 {a : Expr} {ta : TA} {p pos : Pos} (hg : Gl X "range") (hm : X.mg "range" = none) (ha : PA X [a] ta) (hs : starEach [a] X.env = [(false, eval a X.env)] := by rfl) : PI X tg (.Call (.Name "range" p) [a] [] pos) (iRng1 ta) := by
  intro pins s σ H R I h
  refine Call_ (ld_blt I hg hm boot_range (PyProof.Rows.callWith_type1 (thn (ha pos pins s σ H _ I h) fun us s1 ⟨vs, H1, I1, r1, q1⟩ => ?_) hs rfl))
  obtain ⟨j, e, q1, q2, q⟩ := q1
  subst e
  cases r1 with
  | cons r rr =>
    cases rr
    obtain ⟨t, rfl⟩ := r
    exact call_range_1 (range_it I1 (by omega) (by omega) q1 q2 (by simpa using q))
theorem pi_range2 {a b : Expr} {ta : TA} {p pos : Pos} (hg : Gl X "range") (hm : X.mg "range" = none) (ha : PA X [a, b] ta) (hs : starEach [a, b] X.env = [(false, eval a X.env), (false, eval b X.env)] := by rfl) (hs2 : starEach [b] X.env = [(false, eval b X.env)] := by rfl) :
    PI X tg (.Call (.Name "range" p) [a, b] [] pos) (iRng2 ta) := by
  intro pins s σ H R I h
  refine Call_ (ld_blt I hg hm boot_range (PyProof.Rows.callWith_type1 (thn (ha pos pins s σ H _ I h) fun us s1 ⟨vs, H1, I1, r1, q1⟩ => ?_) (by rw [hs, hs2]) (by rw [hs2]; rfl)))
  obtain ⟨i, j, e, ⟨q1, q2, q3, q4⟩, q⟩ := q1
  subst e
  cases r1 with
  | cons r rr =>
    cases rr with
    | cons r' rr =>
      cases rr
      obtain ⟨t, rfl⟩ := r
      obtain ⟨t', rfl⟩ := r'
      exact call_range_2 (range_it I1 q1 q2 q3 q4 q)
def tFor (wi : TI) (g : TG) (tb : TS) : TS := fun D σ H => wi σ H fun J H1 => ∃ W : Nat → Nat → St → Hp → Prop, (∃ m, W 0 m σ H1) ∧ ∀ i m σ H, W i m σ H →
  (J.stop i H ∧ D.nx σ H) ∨ (J.go i H ∧ ∃ N : St → Hp → Prop, (∀ σ' H', N σ' H' → ∃ m', m' < m ∧ W (i + 1) m' σ' H') ∧ ∀ x H', J.yld i H x H' → g x σ H' fun σ2 H2 => tb { D with nx := N, ct := N, bk := D.nx } σ2 H2)
def pinsAt (fp : List Addr) (h : Heap) : List (Addr × Obj) := fp.filterMap fun b => (h.get? b).map fun o => (b, o)
theorem mem_pinsAt {fp : List Addr} {h : Heap} {b : Addr} {o : Obj} (hb : b ∈ fp) (e : h.get? b = some o) : (b, o) ∈ pinsAt fp h := List.mem_filterMap.mpr ⟨b, hb, by rw [e]; rfl⟩
theorem of_pinsAt {fp : List Addr} {h : Heap} {p : Addr × Obj} (hp : p ∈ pinsAt fp h) : p.1 ∈ fp ∧ h.get? p.1 = some p.2 := by
  obtain ⟨b, hb, e⟩ := List.mem_filterMap.mp hp
  cases q : h.get? b with
  | none => rw [q] at e; cases e
  | some o =>
    rw [q] at e
    have e' : (b, o) = p := Option.some.inj e
    subst e'
    exact ⟨hb, q⟩
theorem Inv.pinned {pins : List (Addr × Obj)} {σ : St} {H : Hp} {s : Shared} {fp : List Addr} (I : Inv X pins σ H s) (hf : ∀ b ∈ fp, FpOk X pins H b) (ho : ∀ b ∈ fp, ∃ o, s.heap.get? b = some o ∧ ∀ v, o.data ≠ .cell v) : Inv X (pins ++ pinsAt fp s.heap) σ H s :=
  I.pins_of fun p hp => (List.mem_append.mp hp).elim (fun z => I.pin p (List.mem_append_right _ z)) fun z => by
    obtain ⟨hb, e⟩ := of_pinsAt z
    obtain ⟨f0, f1, f2, _⟩ := hf p.1 hb
    obtain ⟨o, e', d⟩ := ho p.1 hb
    rw [e] at e'; cases e'
    exact ⟨e, f0, f1, f2, d⟩
theorem Inv.unpinned {pins pl : List (Addr × Obj)} {σ : St} {H : Hp} {s : Shared} (I : Inv X (pins ++ pl) σ H s) : Inv X pins σ H s := I.pins_of fun p hp => I.pin p (List.mem_append_right _ (List.mem_append_left _ hp))
theorem ps_for {iter : Expr} {body : List Stmt} {wi : TI} {g : TG} {tb : TS} {pos : Pos} (hp : PassesOwn (model X.prog X.w) X.A X.env X.xe) (hc : X.calm = true) (hi : PI X tg iter wi) (hg : PG X tg g) (hb : PSs X body tb)
    (hs : ∀ x, foldedSetIterable iter X.env x = pure x := by intro _; rfl) : PS X (.For tg iter body [] pos) (tFor wi g tb) := by
  intro pins s σ H D I h
  refine wpAny_For (thn (hi pins s σ H _ I h) fun v s1 h1 => thn h1 fun itv s2 h2 => ?_) hs
  obtain ⟨it, fp, tn, J, H2, e, I2, T, st2, f2, W, ⟨m0, w0⟩, turn⟩ := h2
  subst e
  have stat : ∀ {H' : Hp}, (∀ b ∈ fp, H' b = none) → ∀ b ∈ fp, FpOk X pins H' b := fun hn b hb => ⟨hn b hb, (f2 b hb).2⟩
  refine codeAny_forLoop_any (fun n s' => ∃ i σ' H', Inv X pins σ' H' s' ∧ tn i s'.heap ∧ (∀ b ∈ fp, H' b = none) ∧ W i n σ' H') ?_ m0 ⟨0, σ, H2, I2, st2, fun b hb => (f2 b hb).1, w0⟩
  rintro n s3 ⟨i, σ3, H3, I3, st3, fr3, w3⟩
  rcases turn i n σ3 H3 w3 with ⟨stop, qn⟩ | ⟨go, N, hN, step⟩
  · refine wpAny_passesOwn hp (thn (T.done X rfl rfl rfl hc i pins s3 σ3 H3 X.xe I3 (stat fr3) st3 stop) fun r s4 ⟨hr, I4⟩ => ?_)
    subst hr
    exact wpAny_execs_nil ⟨σ3, H3, I4, qn⟩
  · refine wpAny_passesOwn hp (thn (T.item X rfl rfl rfl hc i pins s3 σ3 H3 X.xe I3 (stat fr3) st3 go) fun r s4 ⟨u, hr, h4⟩ => ?_)
    subst hr
    refine wpAny_passesOwn hp (thn h4 fun _ s5 ⟨x, H5, I5, r5, y5, st5, fr5⟩ => ?_)
    have I5' := I5.pinned (stat fr5) (T.obj _ _ st5)
    refine wpAny_passesOwn hp (thn (hg _ s5 σ3 H5 x u _ I5' r5 (step x H5 y5)) fun _ s6 ⟨σ6, H6, I6, q6⟩ => ?_)
    refine wpAny_passesOwn hp (thn (hb _ s6 σ6 H6 _ I6 q6) fun f s7 q7 => ?_)
    have again : ∀ {σ7 : St} {H7 : Hp}, Inv X (pins ++ pinsAt fp s5.heap) σ7 H7 s7 → N σ7 H7 → ∃ m, m < n ∧ ∃ i σ' H', Inv X pins σ' H' s7 ∧ tn i s7.heap ∧ (∀ b ∈ fp, H' b = none) ∧ W i m σ' H' := fun {σ7 H7} I7 n7 => by
      obtain ⟨m', hm, w7⟩ := hN σ7 H7 n7
      refine ⟨m', hm, i + 1, σ7, H7, I7.unpinned, T.keep _ _ _ st5 fun b hb o e => (I7.pin (b, o) (List.mem_append_right _ (List.mem_append_right _ (mem_pinsAt hb e)))).1, fun b hb => ?_, w7⟩
      obtain ⟨o, e, d⟩ := T.obj _ _ st5 b hb
      exact (I7.pin (b, o) (List.mem_append_right _ (List.mem_append_right _ (mem_pinsAt hb e)))).2.1
    cases f with
    | next => obtain ⟨σ7, H7, I7, n7⟩ := q7; exact again I7 n7
    | cont => obtain ⟨σ7, H7, I7, n7⟩ := q7; exact again I7 n7
    | brk => obtain ⟨σ7, H7, I7, q7⟩ := q7; exact ⟨σ7, H7, I7.unpinned, q7⟩
    | ret v => obtain ⟨x7, σ7, H7, I7, r7, q7⟩ := q7; exact ⟨x7, σ7, H7, I7.unpinned, r7, q7⟩
end
theorem for_list {K : PySem.W.Frag} {a : Addr} {xs : List V} {g : TG} {tb : TS} {D : Ends} {σ : St} {H : Hp} (Pv : Nat → St → Hp → Prop) (h0 : Pv 0 σ H) (hl : ∀ i σ H, i ≤ xs.length → Pv i σ H → SqL K H a xs)
    (hs : ∀ i x σ H, xs[i]? = some x → Pv i σ H → g x σ H fun σ2 H2 => tb { D with nx := Pv (i + 1), ct := Pv (i + 1), bk := D.nx } σ2 H2) (hd : ∀ σ H, Pv xs.length σ H → D.nx σ H) :
    ∃ W : Nat → Nat → St → Hp → Prop, (∃ m, W 0 m σ H) ∧ ∀ i m σ H, W i m σ H →
      ((Itl K a).stop i H ∧ D.nx σ H) ∨ ((Itl K a).go i H ∧ ∃ N : St → Hp → Prop, (∀ σ' H', N σ' H' → ∃ m', m' < m ∧ W (i + 1) m' σ' H') ∧ ∀ x H', (Itl K a).yld i H x H' → g x σ H' fun σ2 H2 => tb { D with nx := N, ct := N, bk := D.nx } σ2 H2) := by
  refine ⟨fun i m σ H => m = xs.length - i ∧ i ≤ xs.length ∧ Pv i σ H, ⟨xs.length, by simp, Nat.zero_le _, h0⟩, ?_⟩
  rintro i m σ H ⟨rfl, hi, p⟩
  have q := hl i σ H hi p
  by_cases hlt : i < xs.length
  · refine .inr ⟨⟨xs, xs[i], q, by simp [hlt]⟩, Pv (i + 1), fun σ' H' p' => ⟨xs.length - (i + 1), by omega, rfl, hlt, p'⟩, fun x H' y => ?_⟩
    obtain ⟨e, y⟩ := y
    subst e
    exact hs i x σ _ (y xs q) p
  · have e : i = xs.length := by omega
    subst e
    exact .inl ⟨⟨xs, q, Nat.le_refl _⟩, hd σ H p⟩
theorem for_range {lo : Int} {n : Nat} {g : TG} {tb : TS} {D : Ends} {σ : St} {H : Hp} (Pv : Nat → St → Hp → Prop) (h0 : Pv 0 σ H)
    (hs : ∀ i σ H, i < n → Pv i σ H → g (.int (lo + i)) σ H fun σ2 H2 => tb { D with nx := Pv (i + 1), ct := Pv (i + 1), bk := D.nx } σ2 H2) (hd : ∀ σ H, Pv n σ H → D.nx σ H) :
    ∃ W : Nat → Nat → St → Hp → Prop, (∃ m, W 0 m σ H) ∧ ∀ i m σ H, W i m σ H →
      ((Itr lo n).stop i H ∧ D.nx σ H) ∨ ((Itr lo n).go i H ∧ ∃ N : St → Hp → Prop, (∀ σ' H', N σ' H' → ∃ m', m' < m ∧ W (i + 1) m' σ' H') ∧ ∀ x H', (Itr lo n).yld i H x H' → g x σ H' fun σ2 H2 => tb { D with nx := N, ct := N, bk := D.nx } σ2 H2) := by
  refine ⟨fun i m σ H => m = n - i ∧ i ≤ n ∧ Pv i σ H, ⟨n, by simp, Nat.zero_le _, h0⟩, ?_⟩
  rintro i m σ H ⟨rfl, hi, p⟩
  by_cases hlt : i < n
  · refine .inr ⟨hlt, Pv (i + 1), fun σ' H' p' => ⟨n - (i + 1), by omega, rfl, hlt, p'⟩, fun x H' y => ?_⟩
    obtain ⟨e, y⟩ := y
    subst e y
    exact hs i σ _ hlt p
  · have e : i = n := by omega
    subst e
    exact .inl ⟨Nat.le_refl _, hd σ H p⟩
open PySem PySem.Spec PyProof.Rows
abbrev R2 := V → V → Hp → VK → Prop
def OpR (X : Cx) (f : Value → Value → Sem Value) (r : R2) : Prop :=
  ∀ (pins : List (Addr × Obj)) (s : Shared) (σ : St) (H : Hp) (x y : V) (v u : Value) (Q : VK), Inv X pins σ H s → RelV x v → RelV y u → r x y H Q →
    wpAny (model X.prog X.w) X.A (f v u) (EP X pins σ Q) X.xe s
def UnR (X : Cx) (f : Value → Sem Value) (r : V → Hp → VK → Prop) : Prop :=
  ∀ (pins : List (Addr × Obj)) (s : Shared) (σ : St) (H : Hp) (x : V) (v : Value) (Q : VK), Inv X pins σ H s → RelV x v → r x H Q →
    wpAny (model X.prog X.w) X.A (f v) (EP X pins σ Q) X.xe s
def CallR (X : Cx) (f : Value) (r : List V → Hp → VK → Prop) : Prop :=
  ∀ (pins : List (Addr × Obj)) (s : Shared) (σ : St) (H : Hp) (xs : List V) (us : List Value) (Q : VK), Inv X pins σ H s → Vals xs us → r xs H Q →
    wpAny (model X.prog X.w) X.A (call f us) (EP X pins σ Q) X.xe s
def TruR (X : Cx) (r : V → Hp → (Bool → Hp → Prop) → Prop) : Prop :=
  ∀ (pins : List (Addr × Obj)) (s : Shared) (σ : St) (H : Hp) (x : V) (v : Value) (Q : Bool → Hp → Prop), Inv X pins σ H s → RelV x v → r x H Q →
    wpAny (model X.prog X.w) X.A (truthy v) (TP X pins σ Q) X.xe s
def tOp (r : R2) (ta tb : TE) : TE := fun σ H Q => ta σ H fun x H1 => tb σ H1 fun y H2 => r x y H2 Q
def tUn (r : V → Hp → VK → Prop) (ta : TE) : TE := fun σ H Q => ta σ H fun x H1 => r x H1 Q
def rI (C : Int → Int → Prop) (g : Int → Int → V) : R2 := fun x y H Q => ∃ i j, x = .int i ∧ y = .int j ∧ C i j ∧ Q (g i j) H
def rI0 (g : Int → Int → V) : R2 := fun x y H Q => ∃ i j, x = .int i ∧ y = .int j ∧ Q (g i j) H
def rU (g : Int → V) : V → Hp → VK → Prop := fun x H Q => ∃ i, x = .int i ∧ Q (g i) H
section
variable {X : Cx} {a b c : Expr} {ta tb tc : TE} {pos : Pos}
theorem binT (ha : PE X a ta) (hb : PE X b tb) {pins : List (Addr × Obj)} {s : Shared} {σ : St} {H : Hp} {R : V → V → Hp → Prop} (I : Inv X pins σ H s)
    (h : ta σ H fun x H1 => tb σ H1 fun y H2 => R x y H2) {Q : Value → Shared → Prop} {f : Value → Value → Sem Value}
    (hf : ∀ v u s2 x y H2, Inv X pins σ H2 s2 → RelV x v → RelV y u → R x y H2 → wpAny (model X.prog X.w) X.A (f v u) Q X.xe s2) :
    wpAny (model X.prog X.w) X.A (eval a X.env) (fun v s₁ => wpAny (model X.prog X.w) X.A (eval b X.env) (fun u s₂ => wpAny (model X.prog X.w) X.A (f v u) Q X.xe s₂) X.xe s₁) X.xe s := by
  refine thn (ha pins s σ H _ I h) fun v s1 ⟨x, H1, I1, r1, q1⟩ => ?_
  refine thn (hb pins s1 σ H1 _ I1 q1) fun u s2 ⟨y, H2, I2, r2, q2⟩ => ?_
  exact hf v u s2 x y H2 I2 r1 r2 q2
theorem pe_op {op : Operator} {r : R2} (ho : OpR X (binaryOp op) r) (ha : PE X a ta) (hb : PE X b tb) : PE X (.BinOp a op b pos) (tOp r ta tb) := by
  intro pins s σ H Q I h
  exact wpAny_BinOp (binT ha hb I h fun v u s2 x y H2 I2 rx ry q => ho pins s2 σ H2 x y v u Q I2 rx ry q)
theorem pe_un {op : UnaryOp} {r : V → Hp → VK → Prop} (ho : UnR X (unaryOp op) r) (ha : PE X a ta) : PE X (.UnaryOp op a pos) (tUn r ta) := by
  intro pins s σ H Q I h
  exact UnaryOp_ (thn (ha pins s σ H _ I h) fun v s1 ⟨x, H1, I1, r1, q1⟩ => ho pins s1 σ H1 x v Q I1 r1 q1)
theorem opI {f : Value → Value → Sem Value} {C : Int → Int → Prop} {g : Int → Int → Int}
    (rule : ∀ (i j : Int) (t u : Tok) (s : Shared) (Q : Value → Shared → Prop) (E : Value → Shared → Prop), C i j → Q (.int (g i j) s.toks) { s with toks := s.toks + 1 } → wpAny (model X.prog X.w) X.A (f (.int i t) (.int j u)) Q E s) :
    OpR X f (rI C fun i j => .int (g i j)) := by
  intro pins s σ H x y v u Q I rx ry h
  obtain ⟨i, j, rfl, rfl, hc, q⟩ := h
  obtain ⟨t, rfl⟩ := rx
  obtain ⟨t', rfl⟩ := ry
  exact rule i j t t' s _ _ hc ⟨.int (g i j), H, I.tok _, ⟨_, rfl⟩, q⟩
theorem opI0 {f : Value → Value → Sem Value} {g : Int → Int → Int}
    (rule : ∀ (i j : Int) (t u : Tok) (s : Shared) (Q : Value → Shared → Prop) (E : Value → Shared → Prop), Q (.int (g i j) s.toks) { s with toks := s.toks + 1 } → wpAny (model X.prog X.w) X.A (f (.int i t) (.int j u)) Q E s) :
    OpR X f (rI0 fun i j => .int (g i j)) := by
  intro pins s σ H x y v u Q I rx ry h
  obtain ⟨i, j, rfl, rfl, q⟩ := h
  obtain ⟨t, rfl⟩ := rx
  obtain ⟨t', rfl⟩ := ry
  exact rule i j t t' s _ _ ⟨.int (g i j), H, I.tok _, ⟨_, rfl⟩, q⟩
theorem opB0 {f : Value → Value → Sem Value} {g : Int → Int → Bool}
    (rule : ∀ (i j : Int) (t u : Tok) (s : Shared) (Q : Value → Shared → Prop) (E : Value → Shared → Prop), Q (.bool (g i j)) s → wpAny (model X.prog X.w) X.A (f (.int i t) (.int j u)) Q E s) :
    OpR X f (rI0 fun i j => .bl (g i j)) := by
  intro pins s σ H x y v u Q I rx ry h
  obtain ⟨i, j, rfl, rfl, q⟩ := h
  obtain ⟨t, rfl⟩ := rx
  obtain ⟨t', rfl⟩ := ry
  exact rule i j t t' s _ _ ⟨.bl (g i j), H, I, rfl, q⟩
def CDiv (i j : Int) : Prop := 0 < j ∧ j < 1073741824
def CDivN (i j : Int) : Prop := j ≠ 0 ∧ j.natAbs < 1073741824
def CPow (i j : Int) : Prop := 0 ≤ j ∧ j ≤ 1000000 ∧ i.natAbs < 2 ^ 64
def CMul (i j : Int) : Prop := (-(2 ^ 64) < i ∧ i < 2 ^ 64) ∨ (-(2 ^ 64) < j ∧ j < 2 ^ 64)
theorem CMul.ok {i j : Int} (h : CMul i j) : IntMulOk i j := by
  rcases h with ⟨h1, h2⟩ | ⟨h1, h2⟩
  · exact .of_left (intBits_le_64 h1 h2)
  · exact .of_right (intBits_le_64 h1 h2)
theorem op_add : OpR X (binaryOp .Add) (rI0 fun i j => .int (i + j)) := opI0 fun _ _ _ _ _ _ _ q => add_int q
theorem op_sub : OpR X (binaryOp .Sub) (rI0 fun i j => .int (i - j)) := opI0 fun _ _ _ _ _ _ _ q => sub_int q
theorem op_mul : OpR X (binaryOp .Mult) (rI CMul fun i j => .int (i * j)) := opI fun _ _ _ _ _ _ _ hc q => mul_int q hc.ok
theorem op_fdiv : OpR X (binaryOp .FloorDiv) (rI CDiv fun i j => .int (i / j)) := opI fun i j _ _ _ _ _ hc q => by
  have h1 : (0 : Int) < j := hc.1
  have h2 : j < 1073741824 := hc.2
  exact floordiv_int (by omega) (by rw [Int.fdiv_eq_ediv_of_nonneg i (by omega)]; exact q) (.inl (PyProof.noPylong_small (by omega)))
theorem op_mod : OpR X (binaryOp .Mod) (rI (fun _ j => 0 < j) fun i j => .int (i % j)) := opI fun i j _ _ _ _ _ hc q => by
  have h1 : (0 : Int) < j := hc
  exact mod_int' (by omega) (by rw [Int.fmod_eq_emod_of_nonneg i (by omega)]; exact q)
theorem op_pow : OpR X (binaryOp .Pow) (rI CPow fun i j => .int (i ^ j.toNat)) := opI fun _ _ _ _ _ _ _ hc q => pow_int_small hc.1 hc.2.1 hc.2.2 q
theorem unI {f : Value → Sem Value} {g : Int → Int}
    (rule : ∀ (i : Int) (t : Tok) (s : Shared) (Q : Value → Shared → Prop) (E : Value → Shared → Prop), Q (.int (g i) s.toks) { s with toks := s.toks + 1 } → wpAny (model X.prog X.w) X.A (f (.int i t)) Q E s) :
    UnR X f (rU fun i => .int (g i)) := by
  intro pins s σ H x v Q I rx h
  obtain ⟨i, rfl, q⟩ := h
  obtain ⟨t, rfl⟩ := rx
  exact rule i t s _ _ ⟨.int (g i), H, I.tok _, ⟨_, rfl⟩, q⟩
theorem un_neg : UnR X (unaryOp .USub) (rU fun i => .int (-i)) := unI fun _ _ _ _ _ q => neg_int q
end
def scal : V → V → Bool
  | .non, .non => true | .non, .int _ => true | .int _, .non => true | .non, .bl _ => true | .bl _, .non => true | .non, .str _ => true | .str _, .non => true
  | .int _, .int _ => true | .bl _, .bl _ => true | .str _, .str _ => true | .byt _, .byt _ => true
  | .int _, .str _ => true | .str _, .int _ => true | .bl _, .str _ => true | .str _, .bl _ => true
  | _, _ => false
def rEq : R2 := fun x y H Q => scal x y = true ∧ Q (.bl (decide (x = y))) H
def rNe : R2 := fun x y H Q => scal x y = true ∧ Q (.bl (!decide (x = y))) H
theorem dec_int {i j : Int} : decide (V.int i = V.int j) = (i == j) := by
  rw [Bool.eq_iff_iff]
  simp
theorem dec_bl {i j : Bool} : decide (V.bl i = V.bl j) = (i == j) := by
  rw [Bool.eq_iff_iff]
  simp
theorem dec_str {i j : Str} : decide (V.str i = V.str j) = (i == j) := by
  rw [Bool.eq_iff_iff]
  simp
theorem dec_byt {i j : Array UInt8} : decide (V.byt i = V.byt j) = (i.toList == j.toList) := by
  rw [Bool.eq_iff_iff]
  cases i
  cases j
  simp
section
variable {X : Cx} {a b c : Expr} {ta tb tc : TE} {pos : Pos}
theorem fin_bl {pins : List (Addr × Obj)} {σ : St} {H : Hp} {s : Shared} {Q : VK} {k k' : Bool} (I : Inv X pins σ H s) (q : Q (.bl k) H) (e : k = k') : EP X pins σ Q (.bool k') s := by
  subst e
  exact ⟨.bl k, H, I, rfl, q⟩
theorem op_eq : OpR X (compareOp .Eq) rEq := by
  intro pins s σ H x y v u Q I rx ry h
  obtain ⟨hs, q⟩ := h
  cases x with
  | non =>
    cases rx
    cases y with
    | non => cases ry; exact PySem.EqNone.eq_none_none (fin_bl I q (by simp))
    | bl j => cases ry; exact PySem.EqNone.eq_none_bool (fin_bl I q (by simp))
    | int j => obtain ⟨t', rfl⟩ := ry; exact PySem.EqNone.eq_none_int (fin_bl I q (by simp))
    | str j => obtain ⟨t', rfl⟩ := ry; exact PySem.EqNone.eq_none_str (fin_bl I q (by simp))
    | _ => exact absurd (show false = true from hs) Bool.false_ne_true
  | bl i =>
    cases rx
    cases y with
    | non => cases ry; exact PySem.EqNone.eq_bool_none (fin_bl I q (by simp))
    | bl j => cases ry; exact eq_bool (fin_bl I q dec_bl)
    | str j => obtain ⟨t', rfl⟩ := ry; exact PySem.EqMixed.eq_bool_str (fin_bl I q (by simp))
    | _ => exact absurd (show false = true from hs) Bool.false_ne_true
  | int i =>
    obtain ⟨t, rfl⟩ := rx
    cases y with
    | non => cases ry; exact PySem.EqNone.eq_int_none (fin_bl I q (by simp))
    | int j => obtain ⟨t', rfl⟩ := ry; exact eq_int (fin_bl I q dec_int)
    | str j => obtain ⟨t', rfl⟩ := ry; exact PySem.EqMixed.eq_int_str (fin_bl I q (by simp))
    | _ => exact absurd (show false = true from hs) Bool.false_ne_true
  | str i =>
    obtain ⟨t, rfl⟩ := rx
    cases y with
    | non => cases ry; exact PySem.EqNone.eq_str_none (fin_bl I q (by simp))
    | bl j => cases ry; exact PySem.EqMixed.eq_str_bool (fin_bl I q (by simp))
    | int j => obtain ⟨t', rfl⟩ := ry; exact PySem.EqMixed.eq_str_int (fin_bl I q (by simp))
    | str j => obtain ⟨t', rfl⟩ := ry; exact eq_str (fin_bl I q dec_str)
    | _ => exact absurd (show false = true from hs) Bool.false_ne_true
  | byt i =>
    obtain ⟨t, rfl⟩ := rx
    cases y with
    | byt j => obtain ⟨t', rfl⟩ := ry; exact PySem.W.eq_bytes (fin_bl I q dec_byt)
    | _ => exact absurd (show false = true from hs) Bool.false_ne_true
  | _ => cases y <;> exact absurd (show false = true from hs) Bool.false_ne_true
theorem op_ne : OpR X (compareOp .NotEq) rNe := by
  intro pins s σ H x y v u Q I rx ry h
  obtain ⟨hs, q⟩ := h
  cases x with
  | non =>
    cases rx
    cases y with
    | non => cases ry; exact PySem.EqNone.ne_none_none (fin_bl I q (by simp))
    | bl j => cases ry; exact PySem.EqNone.ne_none_bool (fin_bl I q (by simp))
    | int j => obtain ⟨t', rfl⟩ := ry; exact PySem.EqNone.ne_none_int (fin_bl I q (by simp))
    | str j => obtain ⟨t', rfl⟩ := ry; exact PySem.EqNone.ne_none_str (fin_bl I q (by simp))
    | _ => exact absurd (show false = true from hs) Bool.false_ne_true
  | bl i =>
    cases rx
    cases y with
    | non => cases ry; exact PySem.EqNone.ne_bool_none (fin_bl I q (by simp))
    | bl j => cases ry; exact ne_bool (fin_bl I q (congrArg not dec_bl))
    | str j => obtain ⟨t', rfl⟩ := ry; exact PySem.EqMixed.ne_bool_str (fin_bl I q (by simp))
    | _ => exact absurd (show false = true from hs) Bool.false_ne_true
  | int i =>
    obtain ⟨t, rfl⟩ := rx
    cases y with
    | non => cases ry; exact PySem.EqNone.ne_int_none (fin_bl I q (by simp))
    | int j => obtain ⟨t', rfl⟩ := ry; exact ne_int (fin_bl I q (congrArg not dec_int))
    | str j => obtain ⟨t', rfl⟩ := ry; exact PySem.EqMixed.ne_int_str (fin_bl I q (by simp))
    | _ => exact absurd (show false = true from hs) Bool.false_ne_true
  | str i =>
    obtain ⟨t, rfl⟩ := rx
    cases y with
    | non => cases ry; exact PySem.EqNone.ne_str_none (fin_bl I q (by simp))
    | bl j => cases ry; exact PySem.EqMixed.ne_str_bool (fin_bl I q (by simp))
    | int j => obtain ⟨t', rfl⟩ := ry; exact PySem.EqMixed.ne_str_int (fin_bl I q (by simp))
    | str j => obtain ⟨t', rfl⟩ := ry; exact ne_str (fin_bl I q (congrArg not dec_str))
    | _ => exact absurd (show false = true from hs) Bool.false_ne_true
  | byt i =>
    obtain ⟨t, rfl⟩ := rx
    cases y with
    | byt j => obtain ⟨t', rfl⟩ := ry; exact PySem.W.ne_bytes (fin_bl I q (congrArg not dec_byt))
    | _ => exact absurd (show false = true from hs) Bool.false_ne_true
  | _ => cases y <;> exact absurd (show false = true from hs) Bool.false_ne_true
theorem op_lt : OpR X (compareOp .Lt) (rI0 fun i j => .bl (decide (i < j))) := opB0 fun _ _ _ _ _ _ _ q => lt_int q
theorem op_le : OpR X (compareOp .LtE) (rI0 fun i j => .bl (decide (i ≤ j))) := opB0 fun _ _ _ _ _ _ _ q => le_int q
theorem op_gt : OpR X (compareOp .Gt) (rI0 fun i j => .bl (decide (j < i))) := opB0 fun _ _ _ _ _ _ _ q => gt_int q
theorem op_ge : OpR X (compareOp .GtE) (rI0 fun i j => .bl (decide (j ≤ i))) := opB0 fun _ _ _ _ _ _ _ q => ge_int q
theorem op_in_str : OpR X (compareOp .In) (fun x y H Q => ∃ i j, x = .str i ∧ y = .str j ∧ Q (.bl (!(Builtin.Str.occurrences j i 0 j.length 1).isEmpty)) H) := by
  intro pins s σ H x y v u Q I rx ry h
  obtain ⟨i, j, rfl, rfl, q⟩ := h
  obtain ⟨t, rfl⟩ := rx
  obtain ⟨t', rfl⟩ := ry
  exact in_str (fin_bl I q rfl)
theorem op_isN : OpR X (compareOp .Is) (fun x y H Q => y = .non ∧ Q (.bl (decide (x = .non))) H) := by
  intro pins s σ H x y v u Q I rx ry h
  obtain ⟨rfl, q⟩ := h
  cases ry
  refine is_none_gen (fin_bl I q ?_)
  cases x <;> first
    | (cases rx; rfl)
    | (obtain ⟨t, rfl⟩ := rx; rfl)
theorem op_notN : OpR X (compareOp .IsNot) (fun x y H Q => y = .non ∧ Q (.bl (!decide (x = .non))) H) := by
  intro pins s σ H x y v u Q I rx ry h
  obtain ⟨rfl, q⟩ := h
  cases ry
  refine isnot_none_gen (fin_bl I q ?_)
  cases x <;> first
    | (cases rx; rfl)
    | (obtain ⟨t, rfl⟩ := rx; rfl)
def isObj : HO → Bool
  | .lst _ => true
  | .ins _ _ _ => true
  | _ => false
theorem nomark (b : Expr) {op : CmpOp} (h : op ≠ .In := by decide) (h2 : op ≠ .NotIn := by decide) : behindInMarks op b = false := by
  have e1 : (op == CmpOp.In) = false := by cases op <;> first | rfl | exact absurd rfl h
  have e2 : (op == CmpOp.NotIn) = false := by cases op <;> first | rfl | exact absurd rfl h2
  cases b <;> simp [behindInMarks, e1, e2]
theorem pe_cmpR {op : CmpOp} {r : R2} (ho : OpR X (compareOp op) r) (ha : PE X a ta) (hb : PE X b tb) (hm : behindInMarks op b = false) : PE X (.Compare a [op] [b] pos) (tOp r ta tb) := by
  intro pins s σ H Q I h
  exact wpAny_Compare1 (binT ha hb I h fun v u s2 x y H2 I2 rx ry q => ho pins s2 σ H2 x y v u Q I2 rx ry q) hm
def tTest (t : TE) : TT := fun σ H Q => t σ H fun x H' => ∃ k, x = .bl k ∧ Q k H'
theorem pt_cmpR {op : CmpOp} {r : R2} (ho : OpR X (compareOp op) r) (ha : PE X a ta) (hb : PE X b tb) (hm : behindInMarks op b = false) : PT X (.Compare a [op] [b] pos) (tTest (tOp r ta tb)) := by
  intro pins s σ H Q I h
  refine wpAny_isTrue_Compare1 (thn (ha pins s σ H _ I h) fun v s1 ⟨x, H1, I1, r1, q1⟩ => thn (hb pins s1 σ H1 _ I1 q1) fun u s2 ⟨y, H2, I2, r2, q2⟩ =>
    thn (ho pins s2 σ H2 x y v u _ I2 r1 r2 q2) fun c s3 ⟨z, H3, I3, r3, k, e, q3⟩ => ?_) hm
  subst e
  cases r3
  exact wpAny_truthy_bool ⟨H3, I3, q3⟩
def tChain (r r' : R2) (ta tb tc : TE) : TE := fun σ H Q => ta σ H fun x H1 => tb σ H1 fun y H2 => r x y H2 fun z H3 => ∃ k, z = .bl k ∧
  (if k = true then tc σ H3 fun w' H4 => r' y w' H4 Q else Q (.bl false) H3)
def TruV (K : PySem.W.Frag) (x : V) (H : Hp) (k : Bool) : Prop :=
  match x with
  | .non => k = false
  | .bl b => k = b
  | .int i => k = (i != 0)
  | .str y => y.length ≤ sizeLine ∧ k = ((y.length : Int) != 0)
  | .byt y => y.size ≤ sizeLine ∧ k = ((y.size : Int) != 0)
  | .ref p => (∃ xs, SqL K H p xs ∧ k = !xs.isEmpty) ∨ (∃ xs, SqT K H p xs ∧ k = !xs.isEmpty) ∨ ∃ kvs, H p = some (.dK kvs) ∧ k = !kvs.isEmpty
  | _ => False
theorem line63 : (sizeLine : Nat) < 2 ^ 63 := by rw [sizeLine_eq]; decide
theorem op_add_str : OpR X (binaryOp .Add) (fun x y H Q => ∃ i j, x = .str i ∧ y = .str j ∧ i.length + j.length ≤ sizeLine ∧ Q (.str (i ++ j)) H) := by
  intro pins s σ H x y v u Q I rx ry h
  obtain ⟨i, j, rfl, rfl, hz, q⟩ := h
  obtain ⟨t, rfl⟩ := rx
  obtain ⟨t', rfl⟩ := ry
  exact add_str (fun t' tk => ⟨.str (i ++ j), H, I.tok _, ⟨_, rfl⟩, q⟩) hz
def PlainIxT (b : Expr) : Prop := ∀ o i, subscripted b false o i = operate [o, i] (getItem o i)
theorem vals1 {x : V} {us : List Value} (r : Vals [x] us) : ∃ u, us = [u] ∧ RelV x u := by
  cases r with
  | cons r1 r2 => cases r2; exact ⟨_, rfl, r1⟩
theorem call_abs : CallR X (.builtin "abs") (fun xs H Q => ∃ i, xs = [.int i] ∧ Q (.int (if i < 0 then -i else i)) H) := by
  intro pins s σ H xs us Q I r h
  obtain ⟨i, rfl, q⟩ := h
  obtain ⟨u, rfl, t, rfl⟩ := vals1 r
  exact call_abs_int fun u tk => ⟨.int (if i < 0 then -i else i), H, I.tok _, ⟨_, rfl⟩, q⟩
theorem call_str_int : CallR X (.type "str") (fun xs H Q => ∃ i, xs = [.int i] ∧ i.natAbs.log2 < 1920 ∧ Q (.str (toString i)) H) := by
  intro pins s σ H xs us Q I r h
  obtain ⟨i, rfl, hz, q⟩ := h
  obtain ⟨u, rfl, t, rfl⟩ := vals1 r
  exact PySem.P.str_of_int hz ⟨.str _, H, I.tok _, ⟨_, rfl⟩, q⟩
def LenV (K : PySem.W.Frag) (x : V) (H : Hp) (n : Nat) : Prop :=
  match x with
  | .str y => y.length ≤ sizeLine ∧ n = y.length
  | .byt y => y.size ≤ sizeLine ∧ n = y.size
  | .ref p => (∃ xs, SqL K H p xs ∧ n = xs.length) ∨ ∃ xs, SqT K H p xs ∧ n = xs.length
  | _ => False
end
open PySem PySem.Spec PyProof.Rows
structure ObjM (h : Heap) (x dx C : Addr) (mA : Str → Option Value) : Prop where
  obj : h.get? x = some (PySem.W.instObj C dx)
  ns : h.Ns1 dx mA
  ne : dx ≠ x
theorem lookIn_ns {h : Heap} {dx : Addr} {mA : Str → Option Value} (n : h.Ns1 dx mA) : ∃ od, h.get? dx = some od ∧ ∀ name, PySem.W.lookIn name od = some (mA name) := by
  obtain ⟨o, es, ep, ho, hd, hk, _, hm⟩ := n
  refine ⟨o, ho, fun name => ?_⟩
  have e := hm name
  unfold nsFind findBy at e
  rw [← Array.find?_toList] at e
  unfold PySem.W.lookIn
  rw [hd]
  dsimp only
  split
  · rename_i y q
    rw [q] at e
    exact congrArg some e
  · rename_i q
    rw [q] at e
    have a : es.toList.any (·.refKey) = false := by
      rw [List.any_eq_false]
      intro y hy
      obtain ⟨z, t, hkey⟩ := hk y (Array.mem_toList_iff.mp hy)
      simp [DictEntry.refKey, hkey]
    have a' : ¬ es.toList.any (·.refKey) = true := by rw [a]; exact Bool.false_ne_true
    rw [if_neg a']
    exact congrArg some e
theorem ObjM.look {h : Heap} {x dx C : Addr} {mA : Str → Option Value} (I : ObjM h x dx C mA) : ∃ od, PySem.W.InstAt h x (PySem.W.instObj C dx) C (some od) ∧ ∀ name, PySem.W.lookIn name od = some (mA name) :=
  let ⟨od, ho, hl⟩ := lookIn_ns I.ns
  ⟨od, ⟨I.obj, rfl, rfl, ho⟩, hl⟩
section
variable {prog : Program} {w : World} {A : Around} {E : Value → Shared → Prop} {s : Shared} {K : PySem.W.Frag} {x dx C f : Addr} {mA : Str → Option Value} {name : Str} {v : Value}
theorem get_map {expr : Bool} {Q : Value → Shared → Prop} (X : K.In s.heap) (I : ObjM s.heap x dx C mA) (hg : PySem.W.plainGet K C name = true) (hh : PySem.W.hasDictIn K C = true)
    (ha : PySem.W.findIn K (.ref C) name = some none) (hv : mA name = some v) (hv' : PySem.W.handedIn v = true) (h : Q v { s with toks := s.toks + 1 }) :
    wpAny (model prog w) A (getAttr (.ref x) name expr) Q E s := by
  obtain ⟨od, J, hl⟩ := I.look
  exact PySem.W.get_value X J (PySem.W.plainGet_of hg).1 (PySem.W.findObj_own hh ha rfl (by rw [hl, hv])) hv' h
theorem get_meth {pl : Sem Bool} {Q : Value × List Value → Shared → Prop} (X : K.In s.heap) (I : ObjM s.heap x dx C mA) (hg : PySem.W.plainGet K C name = true)
    (hf : PySem.W.findIn K (.ref C) name = some (some (.ref f))) (ht : PySem.W.isFn K (.ref f) = true) (hv : mA name = none) (h : Q (.ref f, [.ref x]) s) :
    wpAny (model prog w) A (getMethod (.ref x) name pl) Q E s := by
  obtain ⟨od, J, hl⟩ := I.look
  exact PySem.W.method_fn X J (PySem.W.plainGet_of hg).1 (PySem.W.plainGet_of hg).2 hf (beq_iff_eq.mp ht) (by show (PySem.W.lookIn name od).map (·.isSome) = some false; rw [hl, hv]; rfl) h
theorem set_map {ns : List Str} {Q : Unit → Shared → Prop} (X : K.In s.heap) (I : ObjM s.heap x dx C mA)
    (hs : PySem.W.findIn K (.ref C) "__setattr__" = some (some (.builtin "object.__setattr__"))) (hp : PySem.W.plainOver K C = true) (ht : PySem.W.takerIn K C name = some none) (hh : PySem.W.hasDictIn K C = true)
    (hw : PySem.Within mA ns) (hsz : ns.length ≤ sizeLine)
    (h : ∀ h', ObjM h' x dx C (fun y => if y = name then some v else mA y) → Heap.SameBut dx s.heap h' → Q () { s with heap := h', toks := s.toks + 2 }) :
    wpAny (model prog w) A (setAttr (.ref x) name v) Q E s := by
  obtain ⟨od, J, hl⟩ := I.look
  refine PySem.W.set_plain X J hs (PySem.W.osa_open (s := { s with toks := s.toks + 1 }) (r := none) X J hp ht fun b => ?_)
  obtain ⟨cd, hc, hd'⟩ := PySem.W.any_some hh
  have hx : s.heap.get? x = some ⟨.ref C, some dx, .plain, #[]⟩ := I.obj
  refine wpAny_bind (wpAny_pure (wpAny_bind (wpAny_bind (wpAny_loadPart hx (wpAny_bind (PySem.W.Looks.here (s := { s with toks := s.toks + 1 }) (PySem.W.looks_clsIn X hc) ?_))))))
  rw [hd']
  refine wpAny_pure (a := some dx) (wpAny_bind (wpAny_pure (wpAny_bind ?_)))
  refine wpAny_nsSet1 (s := { s with toks := s.toks + 1 }) I.ns fun h' hn2 hs2 => ?_
  obtain ⟨oD, esD, epD, hoD, hdD, hcD⟩ := hn2.count (PySem.Within.cons name v hw)
  refine wpAny_bind (wpAny_lookBehind hoD (by rw [hdD]; exact pastItsLine_dict (Nat.le_trans hcD (by rw [List.length_cons]; omega))) ?_)
  exact wpAny_pure (h _ ⟨(hs2.2 _ (Ne.symm I.ne)).trans I.obj, hn2, I.ne⟩ hs2)
theorem make_map {R : Result → Shared → Prop} {vs : List Value} {kw : List (Str × Value)} (X : K.In s.heap) (hm : PySem.W.makesIn K C = true)
    (hi : PySem.W.findIn K (.ref C) "__init__" = some (some (.ref f))) (hf : PySem.W.typeIn K (.ref f) = some (.type "function"))
    (h : codeAny (model prog w) (A.under (.builtin "type.__call__" ⟨.ref C :: vs, kw⟩)) (.call (.ref f) ⟨.ref (s.heap.objs.size + 1) :: vs, kw⟩) (PySem.W.InitBack (s.heap.objs.size + 1) R)
      { s with heap := (s.heap.push PySem.W.emptyDict).push (PySem.W.instObj C s.heap.objs.size) }) :
    codeAny (model prog w) A (.call (.ref C) ⟨vs, kw⟩) R s := by
  obtain ⟨hh, g, d, t, os⟩ := s
  exact PySem.W.make_core (PySem.W.makes_of X hm) (PySem.W.looks_findIn X hi) (fun self => PySem.W.bind_fn X self hf) (.inl rfl) h
end
def putF (f : Str) (v : V) : List (Str × V) → List (Str × V)
  | [] => [(f, v)]
  | (g, x) :: r => if g = f then (g, v) :: r else (g, x) :: putF f v r
theorem lookup_putF (f g : Str) (v : V) : ∀ fs : List (Str × V), (putF f v fs).lookup g = if g = f then some v else fs.lookup g
  | [] => by
    show List.lookup g [(f, v)] = _
    by_cases h : g = f
    · have hb : (g == f) = true := beq_iff_eq.mpr h
      simp only [List.lookup, hb, if_pos h]
    · have hb : (g == f) = false := beq_eq_false_iff_ne.mpr h
      simp only [List.lookup, hb, if_neg h]
  | (k, x) :: r => by
    have ih := lookup_putF f g v r
    rw [show putF f v ((k, x) :: r) = (if k = f then (k, v) :: r else (k, x) :: putF f v r) from rfl]
    by_cases hk : k = f
    · rw [if_pos hk]
      by_cases h : g = k
      · have hb : (g == k) = true := beq_iff_eq.mpr h
        simp only [List.lookup, hb, if_pos (h.trans hk)]
      · have hb : (g == k) = false := beq_eq_false_iff_ne.mpr h
        simp only [List.lookup, hb, if_neg (fun e : g = f => h (e.trans hk.symm))]
    · rw [if_neg hk]
      by_cases h : g = k
      · have hb : (g == k) = true := beq_iff_eq.mpr h
        simp only [List.lookup, hb, if_neg (fun e : g = f => hk (h.symm.trans e))]
      · have hb : (g == k) = false := beq_eq_false_iff_ne.mpr h
        simp only [List.lookup, hb]
        exact ih
theorem keys_putF (f : Str) (v : V) : ∀ fs : List (Str × V), f ∈ (putF f v fs).map (·.1) ∧ ∀ g, g ∈ fs.map (·.1) → g ∈ (putF f v fs).map (·.1)
  | [] => ⟨by simp [putF], fun g h => by simp at h⟩
  | (k, x) :: r => by
    obtain ⟨i1, i2⟩ := keys_putF f v r
    rw [show putF f v ((k, x) :: r) = (if k = f then (k, v) :: r else (k, x) :: putF f v r) from rfl]
    by_cases hk : k = f
    · rw [if_pos hk]
      subst hk
      exact ⟨by simp, fun g h => by simpa using h⟩
    · rw [if_neg hk]
      refine ⟨?_, fun g h => ?_⟩
      · rw [List.map_cons]
        exact List.mem_cons_of_mem _ i1
      · rw [List.map_cons] at h ⊢
        rcases List.mem_cons.mp h with e | e
        · exact List.mem_cons.mpr (.inl e)
        · exact List.mem_cons_of_mem _ (i2 g e)
theorem length_putF (f : Str) (v : V) : ∀ fs : List (Str × V), (putF f v fs).length ≤ fs.length + 1
  | [] => by simp [putF]
  | (k, x) :: r => by
    have ih := length_putF f v r
    rw [show putF f v ((k, x) :: r) = (if k = f then (k, v) :: r else (k, x) :: putF f v r) from rfl]
    by_cases hk : k = f
    · rw [if_pos hk, List.length_cons, List.length_cons]; omega
    · rw [if_neg hk, List.length_cons, List.length_cons]; omega
theorem RelO.some_of {v : V} {o : Option Value} (r : RelO (some v) o) : ∃ u, o = some u ∧ RelV v u := by
  cases o with
  | none => exact (show False from r).elim
  | some u => exact ⟨u, rfl, r⟩
theorem RelO.none_of {o : Option Value} (r : RelO none o) : o = none := by
  cases o with
  | none => rfl
  | some u => exact (show False from r).elim
theorem handed_of {v : V} {u : Value} (r : RelV v u) : PySem.W.handedIn u = true := by
  cases v with
  | non => cases (show u = Value.none from r); rfl
  | bl b => cases (show u = Value.bool b from r); rfl
  | int i => obtain ⟨t, e⟩ := (show ∃ t, u = Value.int i t from r); cases e; rfl
  | str x => obtain ⟨t, e⟩ := (show ∃ t, u = Value.str x t from r); cases e; rfl
  | byt b => obtain ⟨t, e⟩ := (show ∃ t, u = Value.bytes b t from r); cases e; rfl
  | flt b => obtain ⟨t, e⟩ := (show ∃ t, u = Value.float b t from r); cases e; rfl
  | ref a => cases (show u = Value.ref a from r); rfl
  | ty n => cases (show u = Value.type n from r); rfl
section
variable {P : Program} {w : World} {H H' : Hp} {h h' : Heap} {a C dx : Addr} {fs fs' : List (Str × V)}
theorem ins_get (hok : HOk P w H h) (e : H a = some (.ins C dx fs)) : ∃ mA, ObjM h a dx C mA ∧ (∀ f, RelO (fs.lookup f) (mA f)) ∧ PySem.Within mA (fs.map (·.1)) ∧ fs.length ≤ 1000 ∧ H dx = some (.own a) := by
  obtain ⟨d, z, ne, ob, mA, n, r, q⟩ := (show ObjOk P w H h a (.ins C dx fs) from hok a _ e)
  exact ⟨mA, ⟨ob, n, ne⟩, r, q, z, d⟩
end
structure Cls (K : PySem.W.Frag) (C : Addr) : Prop where
  pg : PySem.W.plainGet K C Str.empty = true
  hd : PySem.W.hasDictIn K C = true
  po : PySem.W.plainOver K C = true
  sa : PySem.W.findIn K (.ref C) "__setattr__" = some (some (.builtin "object.__setattr__"))
theorem Cls.get {K : PySem.W.Frag} {C : Addr} (c : Cls K C) (f : Str) : PySem.W.plainGet K C f = true := c.pg
def NoAttr (K : PySem.W.Frag) (C : Addr) (f : Str) : Prop := PySem.W.findIn K (.ref C) f = some none
theorem NoAttr.taker {K : PySem.W.Frag} {C : Addr} {f : Str} (n : NoAttr K C f) : PySem.W.takerIn K C f = some none := by
  unfold PySem.W.takerIn
  rw [show PySem.W.findIn K (.ref C) f = some none from n]
  rfl
structure Con (K : PySem.W.Frag) (C : Addr) (f : Str) (v : V) (u : Value) : Prop where
  at_ : PySem.W.findIn K (.ref C) f = some (some u)
  rel : RelV v u
  get : PySem.W.specialIn K u "__get__" = some none
  cp : PySem.W.copiedNames.contains f = false
structure Meth (K : PySem.W.Frag) (C : Addr) (m : Str) (f : Addr) : Prop where
  at_ : PySem.W.findIn K (.ref C) m = some (some (.ref f))
  fn : PySem.W.isFn K (.ref f) = true
  kp : PySem.W.keepIn K (.ref f) = true
section
variable {X : Cx} {pins : List (Addr × Obj)} {σ : St} {H : Hp} {s : Shared} {a C dx : Addr} {fs : List (Str × V)} {f : Str} {v : V} {A : Around} {E : Value → Shared → Prop}
theorem getattr_ok {b : Bool} {Q : Value → Shared → Prop} (I : Inv X pins σ H s) (e : H a = some (.ins C dx fs)) (c : Cls X.K C) (n : NoAttr X.K C f) (l : fs.lookup f = some v)
    (h : ∀ u s', Inv X pins σ H s' → RelV v u → Q u s') : wpAny (model X.prog X.w) A (getAttr (.ref a) f b) Q E s := by
  obtain ⟨mA, O, r, _, _, _⟩ := ins_get I.hok e
  obtain ⟨u, hu, ru⟩ := RelO.some_of (v := v) (o := mA f) (by rw [← l]; exact r f)
  exact get_map I.kIn O (c.get f) c.hd n hu (handed_of ru) (h u _ (I.tok _) ru)
theorem getmeth_ok {m : Str} {g : Addr} {pl : Sem Bool} {Q : Value × List Value → Shared → Prop} (I : Inv X pins σ H s) (e : H a = some (.ins C dx fs)) (c : Cls X.K C) (k : Meth X.K C m g) (l : fs.lookup m = none)
    (h : Q (.ref g, [.ref a]) s) : wpAny (model X.prog X.w) A (getMethod (.ref a) m pl) Q E s := by
  obtain ⟨mA, O, r, _, _, _⟩ := ins_get I.hok e
  have hn : mA m = none := RelO.none_of (by rw [← l]; exact r m)
  exact get_meth I.kIn O (c.get m) k.at_ k.fn hn h
theorem setattr_ok {y : V} {u : Value} {Q : Unit → Shared → Prop} (I : Inv X pins σ H s) (e : H a = some (.ins C dx fs)) (c : Cls X.K C) (n : NoAttr X.K C f) (hl : fs.length < 1000) (ry : RelV y u)
    (h : ∀ s', Inv X pins σ (upd H a (.ins C dx (putF f y fs))) s' → Q () s') : wpAny (model X.prog X.w) A (setAttr (.ref a) f u) Q E s := by
  obtain ⟨mA, O, r, wi, _, ho⟩ := ins_get I.hok e
  have hz : (fs.map (·.1)).length ≤ sizeLine := by rw [List.length_map, sizeLine_eq]; omega
  refine set_map I.kIn O c.sa c.po n.taker c.hd wi hz fun h' O' sb => h _ ?_
  have hd : ∃ o, h'.get? dx = some o := let ⟨o, _, _, e', _⟩ := O'.ns; ⟨o, e'⟩
  refine I.write (x := a) (e := dx) (by rw [e]; exact True.intro) (.inr ho) (fun b q hb z => (sb.2 b hb).trans z) hd ?_
  refine ⟨by rw [upd_ne O.ne]; exact ho, ?_, O.ne, O'.obj, _, O'.ns, fun g => ?_, fun g hg => ?_⟩
  · have := length_putF f y fs; omega
  · show RelO ((putF f y fs).lookup g) (if g = f then some u else mA g)
    rw [lookup_putF]
    by_cases q : g = f
    · rw [if_pos q, if_pos q]; exact ry
    · rw [if_neg q, if_neg q]; exact r g
  · by_cases q : g = f
    · rw [q]; exact (keys_putF f y fs).1
    · refine (keys_putF f y fs).2 g (wi g fun z => hg ?_)
      show (if g = f then some u else mA g) = none
      rw [if_neg q]; exact z
theorem Inv.made (I : Inv X pins σ H s) : Inv X pins σ (upd (upd H s.heap.objs.size (.own (s.heap.objs.size + 1))) (s.heap.objs.size + 1) (.ins C s.heap.objs.size []))
    { s with heap := (s.heap.push PySem.W.emptyDict).push (PySem.W.instObj C s.heap.objs.size) } := by
  have e1 : (s.heap.push PySem.W.emptyDict).get? s.heap.objs.size = some PySem.W.emptyDict := Heap.get?_push_size s.heap rfl
  have e2 : ((s.heap.push PySem.W.emptyDict).push (PySem.W.instObj C s.heap.objs.size)).get? (s.heap.objs.size + 1) = some (PySem.W.instObj C s.heap.objs.size) := by
    have := Heap.get?_push_size (s.heap.push PySem.W.emptyDict) (o := PySem.W.instObj C s.heap.objs.size) rfl
    rwa [Heap.size_push] at this
  have e3 : (s.heap.push PySem.W.emptyDict).Ns s.heap.objs.size (fun _ => none) := ⟨PySem.W.emptyDict, #[], _, e1, rfl, (fun e he => absurd he (by simp)), fun _ => rfl⟩
  have I1 := I.laid (a := s.heap.objs.size) (o := .own (s.heap.objs.size + 1)) (h' := s.heap.push PySem.W.emptyDict) (t' := s.toks) (fun b u q => Heap.get?_push_of_some _ q) (Nat.le_refl _) ⟨_, e1⟩
  refine I1.laid (a := s.heap.objs.size + 1) (o := .ins C s.heap.objs.size []) (t' := s.toks) (fun b u q => Heap.get?_push_of_some _ q) (Nat.le_of_eq (Heap.size_push _ _)) ?_
  have ne : s.heap.objs.size ≠ s.heap.objs.size + 1 := Nat.ne_of_lt (Nat.lt_succ_self _)
  refine ⟨by rw [upd_ne ne, upd_same], Nat.zero_le _, ne, e2, fun _ => none, (Heap.Ns1.of_empty e3).at fun o q => Heap.get?_push_of_some _ q, fun _ => True.intro, fun y hy => absurd rfl hy⟩
theorem attr_of {prog : Program} {w : World} {env : Env} {e : Expr} {f : Str} {pos : Pos} {s : Shared} {Q : Value → Shared → Prop} (hb : attributeBase e f env (eval e env) = eval e env)
    (h : wpAny (model prog w) A (eval e env) (fun o s₁ => wpAny (model prog w) A (getAttr o f true) Q E s₁) E s) : wpAny (model prog w) A (eval (.Attribute e f pos) env) Q E s :=
  Attribute_any_ h (by rw [arm_eval_Attribute, hb])
end
def tFld (K : PySem.W.Frag) (ta : TE) (f : Str) : TE := fun σ H Q => ta σ H fun x H1 => ∃ a C dx fs v, x = .ref a ∧ H1 a = some (.ins C dx fs) ∧ Cls K C ∧ NoAttr K C f ∧ fs.lookup f = some v ∧ Q v H1
def tCon (K : PySem.W.Frag) (ta : TE) (f : Str) : TE := fun σ H Q => ta σ H fun x H1 => ∃ a C dx fs v u, x = .ref a ∧ H1 a = some (.ins C dx fs) ∧ Cls K C ∧ Con K C f v u ∧ fs.lookup f = none ∧ Q v H1
def sFld (K : PySem.W.Frag) (ta tv : TE) (f : Str) : TS := fun D σ H => tv σ H fun y H1 => ta σ H1 fun x H2 => ∃ a C dx fs, x = .ref a ∧ H2 a = some (.ins C dx fs) ∧ Cls K C ∧ NoAttr K C f ∧ fs.length < 1000 ∧
  D.nx σ (upd H2 a (.ins C dx (putF f y fs)))
def InOp (X : Cx) (op : Operator) (rd : V → V → Hp → VK → Prop) : Prop :=
  ∀ (pins : List (Addr × Obj)) (s : Shared) (σ : St) (H : Hp) (x y : V) (u v : Value) (Q : VK), Inv X pins σ H s → RelV x u → RelV y v → rd x y H Q → wpAny (model X.prog X.w) X.A (inplaceOp op u v) (EP X pins σ Q) X.xe s
def sFldAug (K : PySem.W.Frag) (ta tv : TE) (rd : V → V → Hp → VK → Prop) (f : Str) : TS := fun D σ H => ta σ H fun x H1 => ∃ a C dx fs v, x = .ref a ∧ H1 a = some (.ins C dx fs) ∧ Cls K C ∧ NoAttr K C f ∧ fs.lookup f = some v ∧
  tv σ H1 fun y H2 => rd v y H2 fun z H3 => ∃ dx' fs', H3 a = some (.ins C dx' fs') ∧ fs'.length < 1000 ∧ D.nx σ (upd H3 a (.ins C dx' (putF f z fs')))
section
variable {X : Cx} {o e value : Expr} {f : Str} {pos pos' tpos : Pos} {ta tv : TE}
theorem pe_fld (he : PE X e ta) (hb : attributeBase e f X.env (eval e X.env) = eval e X.env) : PE X (.Attribute e f pos) (tFld X.K ta f) := by
  intro pins s σ H Q I h
  refine attr_of hb (thn (he pins s σ H _ I h) fun u s1 ⟨x, H1, I1, rx, a, C, dx, fs, v, ex, ea, c, n, l, q⟩ => ?_)
  subst ex
  obtain rfl : u = Value.ref a := rx
  exact getattr_ok I1 ea c n l fun u' s2 I2 ru => ⟨v, H1, I2, ru, q⟩
theorem ps_fld (ha : PE X o ta) (hv : PE X value tv) (hs : swapsWith value (some (.Attribute o f pos')) pos.line X.env = pure false) : PS X (.Assign [.Attribute o f pos'] value pos) (sFld X.K ta tv f) := by
  intro pins s σ H D I h
  refine plainObj_wpAny_Assign_Attribute (thn (hv pins s σ H _ I h) fun u s1 ⟨y, H1, I1, ry, q⟩ => thn (ha pins s1 σ H1 _ I1 q) fun ov s2 ⟨x, H2, I2, rx, a, C, dx, fs, ex, ea, c, n, l, q2⟩ => ?_) hs
  subst ex
  obtain rfl : ov = Value.ref a := rx
  exact setattr_ok I2 ea c n l ry fun s3 I3 => ⟨σ, _, I3, q2⟩
theorem ps_fldaug {op : Operator} {rd : V → V → Hp → VK → Prop} (ha : PE X o ta) (hv : PE X value tv) (hop : InOp X op rd) : PS X (.AugAssign (.Attribute o f tpos) op value pos) (sFldAug X.K ta tv rd f) := by
  intro pins s σ H D I h
  refine wpAny_AugAssign_AttributeAny (thn (ha pins s σ H _ I h) fun ov s1 ⟨x, H1, I1, rx, a, C, dx, fs, v, ex, ea, c, n, l, q⟩ => ?_)
  subst ex
  obtain rfl : ov = Value.ref a := rx
  refine getattr_ok I1 ea c n l fun u s2 I2 ru => thn (hv pins s2 σ H1 _ I2 q) fun w3 s3 ⟨y, H2, I3, ry, q3⟩ => thn (hop pins s3 σ H2 v y u w3 _ I3 ru ry q3) fun w4 s4 ⟨z, H3, I4, rz, dx', fs', ea', l', q4⟩ => ?_
  exact setattr_ok I4 ea' c n l' rz fun s5 I5 => ⟨σ, _, I5, q4⟩
def rAdd : V → V → Hp → VK → Prop := fun x y H Q => ∃ i j, x = .int i ∧ y = .int j ∧ Q (.int (i + j)) H
def rSub : V → V → Hp → VK → Prop := fun x y H Q => ∃ i j, x = .int i ∧ y = .int j ∧ Q (.int (i - j)) H
theorem in_add : InOp X .Add rAdd := by
  rintro pins s σ H x y u v Q I rx ry ⟨i, j, rfl, rfl, q⟩
  obtain ⟨t, rfl⟩ := (show ∃ t, u = Value.int i t from rx)
  obtain ⟨t', rfl⟩ := (show ∃ t', v = Value.int j t' from ry)
  exact PyProof.Rows.iadd_int ⟨.int (i + j), H, I.tok _, ⟨_, rfl⟩, q⟩
end
section
variable {X : Cx} {pins : List (Addr × Obj)} {σ : St} {H : Hp} {s : Shared} {A : Around} {E : Value → Shared → Prop} {Q : Value → Shared → Prop} {c : Value} {b : Bool}
inductive TyOf (K : PySem.W.Frag) (H : Hp) : V → Value → Prop where
  | non : TyOf K H .non (.type "NoneType")
  | bl (x : Bool) : TyOf K H (.bl x) (.type "bool")
  | int (i : Int) : TyOf K H (.int i) (.type "int")
  | str (x : Str) : TyOf K H (.str x) (.type "str")
  | flt (x : UInt64) : TyOf K H (.flt x) (.type "float")
  | lst {a : Addr} {xs : List V} (e : H a = some (.lst xs)) : TyOf K H (.ref a) (.type "list")
  | frz {a : Addr} {o : Obj} {xs : List V} (e : H a = some (.frz o (.lst xs))) : TyOf K H (.ref a) (.type "list")
  | tup {a : Addr} {xs : List V} (e : H a = some (.tup xs)) : TyOf K H (.ref a) (.type "tuple")
  | dK {a : Addr} {kvs : List (Key × V)} (e : H a = some (.dK kvs)) : TyOf K H (.ref a) (.type "dict")
  | dT {a : Addr} {kvs : List (List Key × V)} (e : H a = some (.dT kvs)) : TyOf K H (.ref a) (.type "dict")
  | ins {a C dx : Addr} {fs : List (Str × V)} (e : H a = some (.ins C dx fs)) (cl : Cls K C) (ha : PySem.W.findIn K (.ref C) "__class__" = some (some (.builtin "object.__class__")))
      (hn : PySem.W.specialIn K (.builtin "object.__class__") "__get__" = some (some (.builtin "getset_descriptor.__get__"))) (htk : PySem.W.takesIn K (.builtin "object.__class__") = some true)
      (hm : PySem.W.mroIn K C (.type "object") = some true) : TyOf K H (.ref a) (.ref C)
theorem isinst_ok {x : V} {u t : Value} (I : Inv X pins σ H s) (rx : RelV x u) (ty : TyOf X.K H x t) (e : PySem.W.kitOne X.K t c = some b) (h : ∀ tk, Q (.bool b) { s with toks := tk }) :
    wpAny (model X.prog X.w) A (call (.builtin "isinstance") [u, c]) Q E s := by
  cases ty with
  | non => cases (show u = Value.none from rx); exact PySem.W.kia_one PySem.W.kitx_none I.kIn True.intro e (fun z => nomatch z) h
  | bl y => cases (show u = Value.bool y from rx); exact PySem.W.kia_one PySem.W.kitx_bool I.kIn True.intro e (fun z => nomatch z) h
  | int i => obtain ⟨t, q⟩ := (show ∃ t, u = Value.int i t from rx); cases q; exact PySem.W.kia_one PySem.W.kitx_int I.kIn True.intro e (fun z => nomatch z) h
  | str y => obtain ⟨t, q⟩ := (show ∃ t, u = Value.str y t from rx); cases q; exact PySem.W.kia_one PySem.W.kitx_str I.kIn True.intro e (fun z => nomatch z) h
  | flt y => obtain ⟨t, q⟩ := (show ∃ t, u = Value.float y t from rx); cases q; exact PySem.W.kia_one PySem.W.kitx_float I.kIn True.intro e (fun z => nomatch z) h
  | @lst a xs ea =>
    cases (show u = Value.ref a from rx)
    obtain ⟨_, _, n, _, h1⟩ := (show ObjOk X.prog X.w H s.heap a (.lst xs) from I.hok a _ ea)
    exact PySem.W.kia_one PySem.W.kitx_list I.kIn ⟨_, h1, rfl⟩ e (fun z => nomatch z) h
  | @frz a ob xs ea =>
    cases (show u = Value.ref a from rx)
    obtain ⟨_, _, _, n, _, h1⟩ := (show ObjOk X.prog X.w H s.heap a (.frz ob (.lst xs)) from I.hok a _ ea)
    exact PySem.W.kia_one PySem.W.kitx_list I.kIn ⟨_, h1, rfl⟩ e (fun z => nomatch z) h
  | @tup a xs ea =>
    cases (show u = Value.ref a from rx)
    obtain ⟨_, _, _, p⟩ := (show ObjOk X.prog X.w H s.heap a (.tup xs) from I.hok a _ ea)
    obtain ⟨o, h1, h2, _⟩ := p
    exact PySem.W.kia_one PySem.W.kitx_tuple I.kIn ⟨o, h1, h2⟩ e (fun z => nomatch z) h
  | @dK a kvs ea =>
    cases (show u = Value.ref a from rx)
    obtain ⟨_, _, vs, _, p⟩ := (show ObjOk X.prog X.w H s.heap a (.dK kvs) from I.hok a _ ea)
    obtain ⟨o, es, ep, h1, h2, _⟩ := p
    exact PySem.W.kia_one PySem.W.kitx_dict I.kIn ⟨o, h1, h2.1⟩ e (fun z => nomatch z) h
  | @dT a kvs ea =>
    cases (show u = Value.ref a from rx)
    obtain ⟨_, _, xs, _, o, es, ep, h1, h2, _⟩ := (show ObjOk X.prog X.w H s.heap a (.dT kvs) from I.hok a _ ea)
    exact PySem.W.kia_one PySem.W.kitx_dict I.kIn ⟨o, h1, h2.1⟩ e (fun z => nomatch z) h
  | @ins a C dx fs ea cl ha hn htk hm =>
    cases (show u = Value.ref a from rx)
    obtain ⟨mA, O, _⟩ := ins_get I.hok ea
    obtain ⟨od, J, _⟩ := O.look
    exact PySem.W.kia_one (PySem.W.kitx_own (cl.get _) cl.hd ha hn htk hm) I.kIn J e (fun z => nomatch z) h
end
open PySem PySem.Spec PyProof.Rows
structure Room (k : Nat) (A : Around) : Prop where
  hd : A.handled = none
  dp : A.depth + 3 * k + 5 < recursionLimit
  un : A.units + 16 * k + 200 < cLine
theorem Room.mono {j k : Nat} {A : Around} (r : Room k A) (h : j ≤ k) : Room j A := ⟨r.hd, by have := r.dp; omega, by have := r.un; omega⟩
theorem Room.deeper {k : Nat} {A : Around} (r : Room (k + 1) A) (env : Env) : Room k (A.deeper env) :=
  ⟨r.hd, by have := r.dp; show A.depth + 1 + 3 * k + 5 < _; omega, by have := r.un; show A.units + 3 + 16 * k + 200 < _; omega⟩
theorem make_depth {A : Around} {C : Addr} {us : List Value} {kw : List (Str × Value)} : (A.under (.builtin "type.__call__" ⟨.ref C :: us, kw⟩)).depth = A.depth + 1 := by
  first | rfl | simp [Around.under, Code.weight, Code.isCreation, Code.isGuard, Code.isCaller, Code.frames, Code.isFrame, guardIds]
theorem make_units {A : Around} {C : Addr} {us : List Value} {kw : List (Str × Value)} : (A.under (.builtin "type.__call__" ⟨.ref C :: us, kw⟩)).units = A.units + 1 := by
  first | rfl | simp [Around.under, Code.cUnits, Code.frames, Code.isFrame]
theorem Room.make {k : Nat} {A : Around} (r : Room (k + 1) A) (C : Addr) (us : List Value) (kw : List (Str × Value)) : Room k (A.under (.builtin "type.__call__" ⟨.ref C :: us, kw⟩)) :=
  ⟨r.hd, by have := r.dp; rw [make_depth]; omega, by have := r.un; rw [make_units]; omega⟩
theorem Room.depth {k : Nat} {A : Around} (r : Room k A) : A.depth < recursionLimit := by have := r.dp; omega
theorem Room.units0 {k : Nat} {A : Around} (r : Room k A) : A.units < cLine := by have := r.un; omega
def tNil : TA := fun _ H Q => Q [] H
def tCons (ta : TE) (tr : TA) : TA := fun σ H Q => ta σ H fun x H1 => tr σ H1 fun xs H2 => Q (x :: xs) H2
section
variable {X : Cx} {e : Expr} {es : List Expr} {te : TE} {t : TA} {pos : Pos}
theorem pa_nil : PA X [] tNil := fun _ _ _ _ H Q I h => Calls.spliced_nil ⟨[], H, I, .nil, h⟩
theorem pa_cons (ha : PE X e te) (hr : PA X es t) (hs : starEach (e :: es) X.env = (false, eval e X.env) :: starEach es X.env := by rfl) : PA X (e :: es) (tCons te t) := by
  intro pos pins s σ H Q I h
  rw [hs]
  show wpAny _ _ (spliced ((false, eval e X.env) :: backTo pos (starEach es X.env))) _ _ s
  refine Calls.spliced_cons (thn (ha pins s σ H _ I h) fun u s1 ⟨x, H1, I1, r1, q1⟩ => ?_)
  exact thn (hr pos pins s1 σ H1 _ I1 q1) fun us s2 ⟨xs, H2, I2, r2, q2⟩ => ⟨x :: xs, H2, I2, .cons r1 r2, q2⟩
def tTup (t : TA) : TE := fun σ H Q => t σ H fun xs H1 => xs.length ≤ sizeLine ∧ ∀ p, H1 p = none → Q (.ref p) (upd H1 p (.tup xs))
def tLst (t : TA) : TE := fun σ H Q => t σ H fun xs H1 => xs.length ≤ sizeLine ∧ ∀ p, H1 p = none → Q (.ref p) (upd H1 p (.lst xs))
theorem pe_tup {x1} (h : PA X es t) : PE X (.Tuple es x1 pos) (tTup t) := by
  intro pins s σ H Q I hq
  refine wpAny_Tuple_spliced (thn (h pos pins s σ H _ I hq) fun us s1 ⟨xs, H1, I1, r, z, q⟩ => ⟨by rw [← r.length]; exact z, ?_⟩)
  have hf : H1 s1.heap.objs.size = none := I1.hok.fresh (Nat.le_refl _)
  refine ⟨.ref s1.heap.objs.size, upd H1 s1.heap.objs.size (.tup xs), I1.laid (t' := s1.toks) (fun b u e => Heap.get?_push_of_some _ e) (Nat.le_refl _) ?_, rfl, q _ hf⟩
  exact ⟨z, us, r, ⟨_, Heap.get?_push_size _ rfl, rfl, _, rfl⟩⟩
theorem pe_lst (h : PA X es t) : PE X (.List es pos) (tLst t) := by
  intro pins s σ H Q I hq
  refine wpAny_List_spliced (thn (h pos pins s σ H _ I hq) fun us s1 ⟨xs, H1, I1, r, z, q⟩ => ⟨by rw [← r.length]; exact z, ?_⟩)
  have hf : H1 s1.heap.objs.size = none := I1.hok.fresh (Nat.le_refl _)
  refine ⟨.ref s1.heap.objs.size, upd H1 s1.heap.objs.size (.lst xs), I1.laid (t' := s1.toks) (fun b u e => Heap.get?_push_of_some _ e) (Nat.le_refl _) ?_, rfl, q _ hf⟩
  exact ⟨z, us, 0, r, Heap.get?_push_size _ rfl⟩
end
abbrev Sp := List V → Hp → VK → XK → Prop
abbrev CXT := List Env → Hp → Shared → XK → Value → Shared → Prop
structure Env0 (P : Program) (w : World) (K : PySem.W.Frag) (mg : Str → Option Value) (base : Heap) (A : Around) (outer : List Env) (s : Shared) (H : Hp) : Prop where
  frames : A.frames = some outer
  mod : Mod K mg base
  bs : ∀ b o, base.get? b = some o → s.heap.get? b = some o ∧ H b = none
  bsz : base.objs.size ≤ s.heap.objs.size
  funs : s.heap.FunFrames base outer
  frf : ∀ b ∈ frs outer, H b = none
  hok : HOk P w H s.heap
  bare : AllBare s.gens
def CE (outer : List Env) (P : Program) (w : World) (H : Hp) (s : Shared) (Q : VK) (u : Value) (s' : Shared) : Prop :=
  ∃ v H', s'.os = s.os ∧ AllBare s'.gens ∧ Un (frs outer) [] H H' s.heap s'.heap ∧ HOk P w H' s'.heap ∧ RelV v u ∧ Q v H'
def CR (CX : CXT) (outer : List Env) (P : Program) (w : World) (H : Hp) (s : Shared) (Q : VK) (E : XK) (r : Result) (s' : Shared) : Prop :=
  match r with
  | .ok (.ret u) => CE outer P w H s Q u s'
  | .ok _ => False
  | .error e => CX outer H s E e s'
structure FnOk (P : Program) (w : World) (K : PySem.W.Frag) (mg : Str → Option Value) (base : Heap) (CX : CXT) (k : Nat) (f : Addr) (fd : FuncData) (ps : List Str) (sp : Sp) : Prop where
  len : ∀ vs H Q E, sp vs H Q E → vs.length = ps.length
  run : ∀ (A : Around) (outer : List Env) (s : Shared) (H : Hp) (args : Args) (us : List Value) (vs : List V) (Q : VK) (E : XK), Room k A → Env0 P w K mg base A outer s H → BindsTo s fd args (ps.zip us) → Vals vs us → sp vs H Q E →
    codeAny (model P w) A (.call (.ref f) args) (CR CX outer P w H s Q E) s
theorem FnOk.mono {P : Program} {w : World} {K : PySem.W.Frag} {mg : Str → Option Value} {base : Heap} {CX : CXT} {j k : Nat} {f : Addr} {fd : FuncData} {ps : List Str} {sp : Sp} (F : FnOk P w K mg base CX j f fd ps sp) (h : j ≤ k) :
    FnOk P w K mg base CX k f fd ps sp := ⟨F.len, fun A outer s H args us vs Q E hr => F.run A outer s H args us vs Q E (hr.mono h)⟩
theorem FnOk.imp {P : Program} {w : World} {K : PySem.W.Frag} {mg : Str → Option Value} {base : Heap} {CX : CXT} {k : Nat} {f : Addr} {fd : FuncData} {ps : List Str} {sp sp' : Sp} (F : FnOk P w K mg base CX k f fd ps sp)
    (h : ∀ vs H Q E, sp' vs H Q E → sp vs H Q E) : FnOk P w K mg base CX k f fd ps sp' :=
  ⟨fun vs H Q E q => F.len vs H Q E (h _ _ _ _ q), fun A outer s H args us vs Q E hr he hb hv hs => F.run A outer s H args us vs Q E hr he hb hv (h _ _ _ _ hs)⟩
theorem Env0.make {P : Program} {w : World} {K : PySem.W.Frag} {mg : Str → Option Value} {base : Heap} {A : Around} {outer : List Env} {s : Shared} {H : Hp} (e : Env0 P w K mg base A outer s H) (C : Addr) (us : List Value) (kw : List (Str × Value)) :
    Env0 P w K mg base (A.under (.builtin "type.__call__" ⟨.ref C :: us, kw⟩)) outer s H := ⟨by first | exact e.frames | (simpa [Around.under, Code.envs, Code.isFrame, pushEnvs] using e.frames), e.mod, e.bs, e.bsz, e.funs, e.frf, e.hok, e.bare⟩
section
variable {X : Cx} {pins : List (Addr × Obj)} {σ : St} {H : Hp} {s s' : Shared}
theorem Inv.env0 (I : Inv X pins σ H s) : Env0 X.prog X.w X.K X.mg X.base X.A X.stack s H :=
  ⟨I.ok.frames, I.ok.mod, I.bs, Nat.le_trans I.ok.bsz I.sz, I.stack, I.stkFree, I.hok, I.bare⟩
theorem Inv.after {Q : VK} {u : Value} (I : Inv X pins σ H s) (h : CE X.stack X.prog X.w H s Q u s') : EP X pins σ Q u s' := by
  obtain ⟨v, H', os, bare, un, hok, r, q⟩ := h
  obtain ⟨hh, g, d, t, os'⟩ := s'
  obtain rfl : os' = s.os := os
  exact ⟨v, H', I.call (h' := hh) (g' := g) (d' := d) (t' := t) (ch := []) un hok bare (fun b z => absurd z (by simp)), r, q⟩
end
def tCall (sp : Sp) (dvs : List V) (E : XK) (t : TA) : TE := fun σ H Q => t σ H fun vs H1 => sp (vs ++ dvs) H1 Q E
def tMeth (C : Addr) (m : Str) (sp : Sp) (dvs : List V) (E : XK) (ta : TE) (t : TA) : TE := fun σ H Q => ta σ H fun x H1 => ∃ a dx fs, x = .ref a ∧ H1 a = some (.ins C dx fs) ∧ fs.lookup m = none ∧
  t σ H1 fun vs H2 => sp (x :: (vs ++ dvs)) H2 Q E
def tMake (C : Addr) (sp : Sp) (dvs : List V) (E : XK) (t : TA) : TE := fun σ H Q => t σ H fun vs H1 => ∀ x dx, H1 x = none → H1 dx = none → dx ≠ x →
  sp (.ref x :: (vs ++ dvs)) (upd (upd H1 dx (.own x)) x (.ins C dx [])) (fun v H2 => v = .non ∧ Q (.ref x) H2) E
def Binds (K : PySem.W.Frag) (fd : FuncData) (ps : List Str) (ds : List Value) : Prop :=
  ∀ (s : Shared) (us : List Value), K.In s.heap → (us ++ ds).length = ps.length → BindsTo s fd ⟨us, []⟩ (ps.zip (us ++ ds))
theorem Binds.all {K : PySem.W.Frag} {fd : FuncData} {ps : List Str} (h : ∀ us : List Value, us.length = ps.length → bindArgs fd ⟨us, []⟩ = pure (ps.zip us)) : Binds K fd ps [] := fun s us _ hl => by
  rw [List.append_nil] at hl ⊢
  exact .of_eq (h us hl)
def Passes (CX : CXT) (X : Cx) (E : XK) : Prop := ∀ (pins : List (Addr × Obj)) (σ : St) (H : Hp) (s : Shared) (e : Value) (s' : Shared), Inv X pins σ H s → CX X.stack H s E e s' → X.xe e s'
section
variable {X : Cx} {CX : CXT} {k : Nat} {f C : Addr} {fd : FuncData} {ps : List Str} {sp : Sp} {dvs : List V} {ds : List Value} {E : XK} {x m : Str} {p pos apos : Pos} {e o : Expr} {es : List Expr} {ta : TE} {t : TA}
theorem run_fn {pins : List (Addr × Obj)} {σ : St} {H : Hp} {s : Shared} {Q : VK} {us : List Value} {vs : List V} (F : FnOk X.prog X.w X.K X.mg X.base CX k f fd ps sp) (hr : Room k X.A) (hb : Binds X.K fd ps ds) (hd : Vals dvs ds) (hx : Passes CX X E)
    (I : Inv X pins σ H s) (r : Vals vs us) (h : sp (vs ++ dvs) H Q E) : wpAny (model X.prog X.w) X.A (call (.ref f) us) (EP X pins σ Q) X.xe s := by
  have r2 : Vals (vs ++ dvs) (us ++ ds) := r.append hd
  have hl : (us ++ ds).length = ps.length := by rw [← r2.length]; exact F.len _ _ _ _ h
  refine wpAny_call (codeAny_mono (F.run X.A X.stack s H ⟨us, []⟩ (us ++ ds) (vs ++ dvs) Q E hr I.env0 (hb s us I.kIn hl) r2 h) fun r s' hq => ?_)
  cases r with
  | error e => exact hx pins σ H s e s' I hq
  | ok fl =>
    cases fl with
    | ret u => exact I.after hq
    | next => exact False.elim hq
    | brk => exact False.elim hq
    | cont => exact False.elim hq
theorem pe_call (F : FnOk X.prog X.w X.K X.mg X.base CX k f fd ps sp) (hr : Room k X.A) (hg : Gl X x) (hm : X.mg x = some (.ref f)) (hk : PySem.W.keepIn X.K (.ref f) = true) (hb : Binds X.K fd ps ds) (hd : Vals dvs ds) (hx : Passes CX X E)
    (ha : PA X (e :: es) t) (hdb : (x == ("__debug__" : Str)) = false := by decide) (he : starEach (e :: es) X.env = (false, eval e X.env) :: starEach es X.env := by rfl) (hpl : (backTo pos (starEach es X.env)).any (·.1) = false := by rfl) :
    PE X (.Call (.Name x p) (e :: es) [] pos) (tCall sp dvs E t) := by
  intro pins s σ H Q I h
  refine wpAny_Call_Name_kw (ld_glob I hg hm ?_ hdb)
  refine PySem.W.callWith_K (h₀ := X.base) I.ok.mod.kin hk (thn (ha pos pins s σ H _ I h) fun us s1 ⟨vs, H1, I1, r, q⟩ => ⟨I1.kIn, ?_⟩) he hpl
  exact run_fn F hr hb hd hx I1 r q
theorem pe_meth {pl : Sem Bool} (he : PE X o ta) (c : Cls X.K C) (hm : Meth X.K C m f) (F : FnOk X.prog X.w X.K X.mg X.base CX k f fd ps sp) (hr : Room k X.A) (hb : Binds X.K fd ps ds) (hd : Vals dvs ds) (hx : Passes CX X E) (ha : PA X (e :: es) t)
    (hst : starEach (e :: es) X.env = (false, eval e X.env) :: starEach es X.env := by rfl) (hpl : (backTo pos (starEach es X.env)).any (·.1) = false := by rfl)
    (ht : eval (.Call (.Attribute o m apos) (e :: es) [] pos) X.env = (do
      let ov ← eval o X.env
      standAt apos.atName
      let (f, first) ← holding [ov] (getMethod ov m pl)
      callWith pos f first (backTo pos (starEach (e :: es) X.env)) (backToKw pos (keywordEach [] X.env))) := by rfl) :
    PE X (.Call (.Attribute o m apos) (e :: es) [] pos) (tMeth C m sp dvs E ta t) := by
  intro pins s σ H Q I h
  refine PySem.W.methodCall_KW (pl := pl) (thn (he pins s σ H _ I h) fun u s1 ⟨x, H1, I1, rx, a, dx, fs, ex, ea, l, q⟩ => ?_) ht
  subst ex
  obtain rfl : u = Value.ref a := rx
  refine getmeth_ok I1 ea c hm l ?_
  refine PySem.W.callWith_K (first := [.ref a]) (h₀ := X.base) I.ok.mod.kin hm.kp (thn (ha pos pins s1 σ H1 _ I1 q) fun us s2 ⟨vs, H2, I2, r, q2⟩ => ⟨I2.kIn, ?_⟩) hst hpl
  exact run_fn (us := .ref a :: us) (vs := .ref a :: vs) F hr hb hd hx I2 (.cons rfl r) q2
theorem pe_meth0 {pl : Sem Bool} (he : PE X o ta) (c : Cls X.K C) (hm : Meth X.K C m f) (F : FnOk X.prog X.w X.K X.mg X.base CX k f fd ps sp) (hr : Room k X.A) (hb : Binds X.K fd ps ds) (hd : Vals dvs ds) (hx : Passes CX X E)
    (ht : eval (.Call (.Attribute o m apos) [] [] pos) X.env = (do
      let ov ← eval o X.env
      standAt apos.atName
      let (f, first) ← holding [ov] (getMethod ov m pl)
      callWith pos f first (backTo pos (starEach [] X.env)) (backToKw pos (keywordEach [] X.env))) := by rfl) :
    PE X (.Call (.Attribute o m apos) [] [] pos) (tMeth C m sp dvs E ta tNil) := by
  intro pins s σ H Q I h
  refine PySem.W.methodCall_KW (pl := pl) (thn (he pins s σ H _ I h) fun u s1 ⟨x, H1, I1, rx, a, dx, fs, ex, ea, l, q⟩ => ?_) ht
  subst ex
  obtain rfl : u = Value.ref a := rx
  refine getmeth_ok I1 ea c hm l ?_
  exact PySem.W.callWith_K0 (first := [.ref a]) I1.kIn hm.kp (run_fn (us := [.ref a]) (vs := [.ref a]) F hr hb hd hx I1 (.cons rfl .nil) q)
structure Mk (K : PySem.W.Frag) (C f : Addr) : Prop where
  makes : PySem.W.makesIn K C = true
  init : PySem.W.findIn K (.ref C) "__init__" = some (some (.ref f))
  fn : PySem.W.isFn K (.ref f) = true
  kp : PySem.W.keepIn K (.ref C) = true
theorem run_make {pins : List (Addr × Obj)} {σ : St} {H : Hp} {s : Shared} {Q : VK} {us : List Value} {vs : List V} (M : Mk X.K C f) (F : FnOk X.prog X.w X.K X.mg X.base CX k f fd ps sp) (hr : Room (k + 1) X.A) (hb : Binds X.K fd ps ds) (hd : Vals dvs ds)
    (hx : Passes CX X E) (I : Inv X pins σ H s) (r : Vals vs us)
    (h : ∀ x dx, H x = none → H dx = none → dx ≠ x → sp (.ref x :: (vs ++ dvs)) (upd (upd H dx (.own x)) x (.ins C dx [])) (fun v H2 => v = .non ∧ Q (.ref x) H2) E) :
    wpAny (model X.prog X.w) X.A (call (.ref C) us) (EP X pins σ Q) X.xe s := by
  have hq := h (s.heap.objs.size + 1) s.heap.objs.size (I.hok.fresh (Nat.le_succ _)) (I.hok.fresh (Nat.le_refl _)) (Nat.ne_of_lt (Nat.lt_succ_self _))
  have I2 := Inv.made (C := C) I
  have r2 : Vals (V.ref (s.heap.objs.size + 1) :: (vs ++ dvs)) (Value.ref (s.heap.objs.size + 1) :: (us ++ ds)) := .cons rfl (r.append hd)
  have hl : (Value.ref (s.heap.objs.size + 1) :: us ++ ds).length = ps.length := by
    have e := r2.length
    rw [F.len _ _ _ _ hq] at e
    exact e.symm
  refine wpAny_call (make_map (f := f) I.kIn M.makes M.init (beq_iff_eq.mp M.fn) (codeAny_mono (F.run _ X.stack _ _ ⟨Value.ref (s.heap.objs.size + 1) :: us, []⟩ (Value.ref (s.heap.objs.size + 1) :: (us ++ ds)) _ _ E (hr.make C us [])
    (I2.env0.make C us []) (hb _ (Value.ref (s.heap.objs.size + 1) :: us) I2.kIn hl) r2 hq) fun r s' hq' => ?_))
  cases r with
  | error e => exact hx pins σ _ _ e s' I2 hq'
  | ok fl =>
    cases fl with
    | ret u =>
      obtain ⟨v, H', I3, rv, ev, q3⟩ := I2.after hq'
      subst ev
      exact ⟨rv, ⟨V.ref (s.heap.objs.size + 1), H', I3, rfl, q3⟩⟩
    | next => exact False.elim hq'
    | brk => exact False.elim hq'
    | cont => exact False.elim hq'
theorem pe_make (M : Mk X.K C f) (F : FnOk X.prog X.w X.K X.mg X.base CX k f fd ps sp) (hr : Room (k + 1) X.A) (hg : Gl X x) (hm : X.mg x = some (.ref C)) (hb : Binds X.K fd ps ds) (hd : Vals dvs ds) (hx : Passes CX X E)
    (ha : PA X (e :: es) t) (hdb : (x == ("__debug__" : Str)) = false := by decide) (he : starEach (e :: es) X.env = (false, eval e X.env) :: starEach es X.env := by rfl) (hpl : (backTo pos (starEach es X.env)).any (·.1) = false := by rfl) :
    PE X (.Call (.Name x p) (e :: es) [] pos) (tMake C sp dvs E t) := by
  intro pins s σ H Q I h
  refine wpAny_Call_Name_kw (ld_glob I hg hm ?_ hdb)
  refine PySem.W.callWith_K (h₀ := X.base) I.ok.mod.kin M.kp (thn (ha pos pins s σ H _ I h) fun us s1 ⟨vs, H1, I1, r, q⟩ => ⟨I1.kIn, ?_⟩) he hpl
  exact run_make M F hr hb hd hx I1 r q
end
def PK (X : Cx) (kws : List Keyword) (t : TA) : Prop :=
  ∀ (pos : Pos) (pins : List (Addr × Obj)) (s : Shared) (σ : St) (H : Hp) (Q : List V → Hp → Prop), Inv X pins σ H s → t σ H Q → wpAny (model X.prog X.w) X.A (evalAll ((backToKw pos (keywordEach kws X.env)).map (·.2))) (AP X pins σ Q) X.xe s
section
variable {X : Cx} {CX : CXT} {k : Nat} {f C : Addr} {fd : FuncData} {ps ks : List Str} {sp : Sp} {E : XK} {x m : Str} {p pos apos kpos : Pos} {e o : Expr} {es : List Expr} {kws : List Keyword} {te ta : TE} {t tk : TA} {nm : Option Str}
structure KBinds (K : PySem.W.Frag) (fd : FuncData) (ps ks : List Str) (g : List Value → List Value → List Value) (gV : List V → List V → List V) : Prop where
  to : ∀ (s : Shared) (us ws : List Value), K.In s.heap → (g us ws).length = ps.length → BindsTo s fd ⟨us, ks.zip ws⟩ (ps.zip (g us ws))
  rel : ∀ {vs : List V} {us : List Value} {zs : List V} {ws : List Value}, Vals vs us → Vals zs ws → Vals (gV vs zs) (g us ws)
def tCallK (sp : Sp) (gV : List V → List V → List V) (E : XK) (t tk : TA) : TE := fun σ H Q => t σ H fun vs H1 => tk σ H1 fun zs H2 => sp (gV vs zs) H2 Q E
variable {g : List Value → List Value → List Value} {gV : List V → List V → List V}
end
structure FnScope (N P : List Str) (sc : Scope) : Prop where
  kind : sc.kind = .function
  co : sc.isCoroutine = false
  gen : sc.isGenerator = false
  nd : N.Nodup
  pre : N.take P.length = P
  par : ∀ x ∈ P, sc.names.lookup x = some .local ∨ sc.names.lookup x = some .cell
  nofree : ∀ y ∈ sc.names, y.2 ≠ .free
theorem bindL_out {kindOf : Str → Option NameKind} {x : Str} : ∀ {binds : List (Str × Value)} {m : Str → Option Value}, (∀ v, (x, v) ∉ binds) → bindL kindOf binds m x = m x
  | [], _, _ => rfl
  | (n, v) :: r, m, h => by
    unfold bindL
    rw [bindL_out fun w hw => h w (List.mem_cons_of_mem _ hw)]
    split
    · have : x ≠ n := by rintro rfl; exact h v List.mem_cons_self
      simp [this]
    · rfl
theorem bindC_out {kindOf : Str → Option NameKind} {x : Str} : ∀ {binds : List (Str × Value)} {m : Str → Option Value}, (∀ v, (x, v) ∉ binds) → bindC kindOf binds m x = m x
  | [], _, _ => rfl
  | (n, v) :: r, m, h => by
    unfold bindC
    rw [bindC_out fun w hw => h w (List.mem_cons_of_mem _ hw)]
    split
    · rfl
    · have : x ≠ n := by rintro rfl; exact h v List.mem_cons_self
      simp [this]
theorem bindL_get {kindOf : Str → Option NameKind} {x : Str} {v : Value} : ∀ {P : List Str} {vs : List Value} {i : Nat} {m : Str → Option Value}, P.Nodup → P[i]? = some x → vs[i]? = some v → kindOf x = some .local →
    bindL kindOf (P.zip vs) m x = some v
  | [], _, _, _, _, h, _, _ => by simp at h
  | _ :: _, [], _, _, _, _, h, _ => by simp at h
  | p :: P, w :: vs, 0, m, nd, h1, h2, hk => by
    simp at h1 h2; subst h1; subst h2
    show bindL kindOf ((p, w) :: P.zip vs) m p = _
    unfold bindL
    rw [bindL_out fun v hv => (List.nodup_cons.mp nd).1 (List.of_mem_zip hv).1, if_pos hk]
    simp
  | p :: P, w :: vs, i + 1, m, nd, h1, h2, hk => by
    show bindL kindOf ((p, w) :: P.zip vs) m x = _
    unfold bindL
    exact bindL_get (i := i) (List.nodup_cons.mp nd).2 (by simpa using h1) (by simpa using h2) hk
theorem bindC_get {kindOf : Str → Option NameKind} {x : Str} {v : Value} : ∀ {P : List Str} {vs : List Value} {i : Nat} {m : Str → Option Value}, P.Nodup → P[i]? = some x → vs[i]? = some v → kindOf x ≠ some .local →
    bindC kindOf (P.zip vs) m x = some v
  | [], _, _, _, _, h, _, _ => by simp at h
  | _ :: _, [], _, _, _, _, h, _ => by simp at h
  | p :: P, w :: vs, 0, m, nd, h1, h2, hk => by
    simp at h1 h2; subst h1; subst h2
    show bindC kindOf ((p, w) :: P.zip vs) m p = _
    unfold bindC
    rw [bindC_out fun v hv => (List.nodup_cons.mp nd).1 (List.of_mem_zip hv).1, if_neg hk]
    simp
  | p :: P, w :: vs, i + 1, m, nd, h1, h2, hk => by
    show bindC kindOf ((p, w) :: P.zip vs) m x = _
    unfold bindC
    exact bindC_get (i := i) (List.nodup_cons.mp nd).2 (by simpa using h1) (by simpa using h2) hk
def start (N : List Str) (vs : List V) : St := vs.map some ++ List.replicate (N.length - vs.length) none
def cxOf (CX : CXT) (P : Program) (w : World) (K : PySem.W.Frag) (mg : Str → Option Value) (base : Heap) (N : List Str) (qual : Str) (scope : Scope) (f : Addr) (cd : Value) (A : Around) (outer : List Env) (s : Shared) (H : Hp) (E : XK) : Cx where
  prog := P
  w := w
  K := K
  mg := mg
  base := base
  A := A.deeper (envOfC qual scope s.heap.objs.size f cd)
  N := N
  s₀ := s
  H₀ := H
  env := envOfC qual scope s.heap.objs.size f cd
  outer := outer
  stack := envOfC qual scope s.heap.objs.size f cd :: outer
  ex := []
  calm := true
  fn := fun _ => true
  pn := []
  xe := fun e s' => wpAny (model P w) (A.deeper (envOfC qual scope s.heap.objs.size f cd)) (leaving (envOfC qual scope s.heap.objs.size f cd) e) (fun _ s'' => CX outer H s E e s'') (fun e' s'' => CX outer H s E e' s'') s'
theorem cell_has {sc : Scope} {n : Nat} {x : Str} (h : sc.names.lookup x = some .cell) : ∃ c, (cellsFrom n sc.names []).lookup x = some c := by
  have q := PySem.W.cellsFrom_some sc.names n [] (.inl h)
  exact Option.isSome_iff_exists.mp q
theorem inv_start {CX : CXT} {P : Program} {w : World} {K : PySem.W.Frag} {mg : Str → Option Value} {base : Heap} {N ps : List Str} {qual : Str} {scope : Scope} {f : Addr} {cd : Value} {A : Around} {outer : List Env} {s s1 : Shared} {H : Hp} {E : XK} {us : List Value} {vs : List V}
    (S : FnScope N ps scope) (hd : A.handled = none) (e0 : Env0 P w K mg base A outer s H) (hl : vs.length = ps.length) (r : Vals vs us)
    (x : InCallC s s.heap.objs.size (bindL (envOfC qual scope s.heap.objs.size f cd).kindOf (ps.zip us) fun _ => none) (cellsFrom (s.heap.objs.size + 1) scope.names []) (bindC (envOfC qual scope s.heap.objs.size f cd).kindOf (ps.zip us) fun _ => none) s1) :
    Inv (cxOf CX P w K mg base N qual scope f cd A outer s H E) [] (start N vs) H s1 := by
  have hpl : ps.length ≤ N.length := by have := congrArg List.length S.pre; rw [List.length_take] at this; omega
  obtain ⟨h1, tk, rfl, hk⟩ := x.done
  have noA : ∀ b : Addr, b ∉ (cxOf CX P w K mg base N qual scope f cd A outer s H E).ex := fun b z => absurd (show b ∈ ([] : List Addr) from z) (by simp)
  refine ⟨⟨e0.mod, S.kind, rfl, rfl, Nat.le_refl _, fun y z c h1 h2 => ?_, fun y hy => ?_, fun y c _ h => ?_, fun _ => hd, Around.frames_deeper e0.frames, .inr ⟨rfl, rfl⟩, fun b z => absurd z (noA b), e0.bs, e0.bsz, fun b _ _ => noA b, fun b z => absurd z (noA b), e0.funs, e0.frf⟩,
    rfl, e0.bare, Un.kept hk, ⟨_, x.toInCall.ns, fun i y v h1 h2 h3 => ?_⟩, fun y c h => ⟨_, x.cell y c h⟩, e0.hok.fresh (Nat.le_refl _), fun y c h => ?_, fun p hp => absurd (show p ∈ ([] : List (Addr × Obj)) from hp) (by simp), e0.hok.kept hk, ?_⟩
  · exact name_of_addr x.apart (PySem.mem_of_lookup h1) (PySem.mem_of_lookup h2)
  · have hy : scope.names.lookup y = some .cell ∨ scope.names.lookup y = some .free := hy
    rcases hy with hy | hy
    · exact cell_has hy
    · exact absurd rfl (S.nofree _ (PySem.mem_of_lookup hy))
  · exact Nat.le_of_lt (x.above y c (PySem.mem_of_lookup h))
  · have hi : i < vs.length := by
      unfold start at h2
      by_cases hi : i < vs.length
      · exact hi
      · rw [List.getElem?_append_right (by simpa using hi)] at h2
        rw [List.getElem?_replicate] at h2
        split at h2 <;> cases h2
    have ha : vs[i]? = some v := by
      unfold start at h2
      rw [List.getElem?_append_left (by simpa using hi), List.getElem?_map] at h2
      cases e : vs[i]? with
      | none => rw [e] at h2; cases h2
      | some a => rw [e] at h2; cases h2; rfl
    obtain ⟨u, hu, rv⟩ := r.get ha
    have hp : ps[i]? = some y := by
      rw [← S.pre, List.getElem?_take_of_lt (by omega)]; exact h1
    have ndP : ps.Nodup := by rw [← S.pre]; exact S.nd.sublist (List.take_sublist _ _)
    refine ⟨u, rv, ?_⟩
    rcases S.par y (List.mem_of_getElem? hp) with k | k
    · exact .inl ⟨k, bindL_get ndP hp hu k⟩
    · obtain ⟨c, e⟩ := cell_has (n := s.heap.objs.size + 1) k
      refine .inr ⟨.inl k, c, e, ?_⟩
      have q := x.cell y c e
      rw [bindC_get ndP hp hu (by show scope.names.lookup y ≠ _; rw [k]; decide)] at q
      exact q
  · exact e0.hok.fresh (Nat.le_of_lt (x.above y c (PySem.mem_of_lookup h)))
  · unfold start
    show _ = N.length
    rw [List.length_append, List.length_map, List.length_replicate]
    omega
theorem fn_of {CX : CXT} {P : Program} {w : World} {K : PySem.W.Frag} {mg : Str → Option Value} {base : Heap} {k : Nat} {f : Addr} {name qual : Str} {params : Arguments} {body : List Stmt} {scope : Scope} {dV kV doc pm cdv ct oc : Value} {an od : Option Addr}
    {osl : Array (Option Value)} {N ps : List Str} {sp : Sp} (lk : K.lookup f = some ⟨oc, od, .func (PySem.W.fnOf name qual params body scope dV kV doc pm an cdv ct), osl⟩) (hcd : PySem.W.codeIn K cdv qual = true) (S : FnScope N ps scope)
    (len : ∀ vs H Q E, sp vs H Q E → vs.length = ps.length)
    (hbody : ∀ (A : Around) (outer : List Env) (s : Shared) (H : Hp) (vs : List V) (Q : VK) (E : XK), Room k (A.deeper (envOfC qual scope s.heap.objs.size f cdv)) → sp vs H Q E →
      ∃ t, PSs (cxOf CX P w K mg base N qual scope f cdv A outer s H E) body t ∧ t { nx := fun _ H' => Q .non H', rt := Q } (start N vs) H) :
    FnOk P w K mg base CX (k + 1) f (PySem.W.fnOf name qual params body scope dV kV doc pm an cdv ct) ps sp := by
  refine ⟨len, fun A outer s H args us vs Q E hr e0 hb r hsp => ?_⟩
  have hl := len _ _ _ _ hsp
  have KX : K.In s.heap := e0.mod.kin.keeps fun b o e => (e0.bs b o e).1
  have lim : s.heap.NoLimit := e0.mod.nolimit.keeps fun b o e => (e0.bs b o e).1
  have hkind : ∀ y ∈ ps.zip us, scope.names.lookup y.1 = some .local ∨ (scope.names.lookup y.1 = some .cell ∧ ((cellsFrom (s.heap.objs.size + 1) scope.names []).lookup y.1).isSome = true) := fun ⟨n, v⟩ hy => by
    rcases S.par n (List.of_mem_zip hy).1 with q | q
    · exact .inl q
    · exact .inr ⟨q, PySem.W.cellsFrom_some _ _ _ (.inl q)⟩
  refine codeAny_call_function hr.depth (KX _ _ lk) rfl S.co S.gen rfl (PySem.W.codeRec_of KX hcd) (hb _ _ _ _ ?_)
  refine wpAny_newFunctionEnv_cells S.kind hkind fun env he s1 x => ?_
  subst he
  refine ⟨lim.keeps x.toInCall.keep, codeAny_func ?_⟩
  obtain ⟨t, ht, hq⟩ := hbody A outer s H vs Q E (hr.deeper _) hsp
  have I : Inv (cxOf CX P w K mg base N qual scope f cdv A outer s H E) [] (start N vs) H s1 := inv_start S hr.hd e0 hl r x
  refine wpAny_mono (ht [] s1 (start N vs) H _ I hq) (fun fl s' hs => ?_) fun e s' hs => hs
  have fin : ∀ {σ' : St} {H' : Hp} {v : V} {u : Value}, Inv (cxOf CX P w K mg base N qual scope f cdv A outer s H E) [] σ' H' s' → RelV v u → Q v H' → CE outer P w H s Q u s' :=
    fun {σ' H' v u} J rv q => ⟨v, H', J.os, J.bare, J.base, J.hok, rv, q⟩
  cases fl with
  | ret u =>
    obtain ⟨v, σ', H', J, rv, q⟩ := hs
    exact fin J rv q
  | next =>
    obtain ⟨σ', H', J, q⟩ := hs
    exact fin (v := V.non) (u := Value.none) J rfl q
  | brk =>
    obtain ⟨_, _, _, q⟩ := hs
    exact False.elim q
  | cont =>
    obtain ⟨_, _, _, q⟩ := hs
    exact False.elim q
open PySem PySem.Spec PyProof.Rows
section
variable {X : Cx} {x : Str} {p pos : Pos} {e : Expr} {es : List Expr} {t : TA} {id T : String} {r : List V → Hp → VK → Prop}
def tCB (r : List V → Hp → VK → Prop) (t : TA) : TE := fun σ H Q => t σ H fun vs H1 => r vs H1 Q
theorem pe_callB (hc : CallR X (.builtin id) r) (hg : Gl X x) (hm : X.mg x = none) (hv : bootBuiltins x = some (.builtin id)) (ha : PA X (e :: es) t) (hn : x ≠ "__name__" := by decide) (hdb : (x == ("__debug__" : Str)) = false := by decide)
    (he : starEach (e :: es) X.env = (false, eval e X.env) :: starEach es X.env := by rfl) (hpl : (backTo pos (starEach es X.env)).any (·.1) = false := by rfl) : PE X (.Call (.Name x p) (e :: es) [] pos) (tCB r t) := by
  intro pins s σ H Q I h
  refine wpAny_Call_Name_kw (ld_blt I hg hm hv ?_ hn hdb)
  exact PyProof.Rows.callWith_builtin1 (thn (ha pos pins s σ H _ I h) fun us s1 ⟨vs, H1, I1, r1, q1⟩ => hc pins s1 σ H1 vs us Q I1 r1 q1) he hpl
theorem pe_callTy (hc : CallR X (.type T) r) (hg : Gl X x) (hm : X.mg x = none) (hv : bootBuiltins x = some (.type T)) (ha : PA X (e :: es) t) (hn : x ≠ "__name__" := by decide) (hdb : (x == ("__debug__" : Str)) = false := by decide)
    (he : starEach (e :: es) X.env = (false, eval e X.env) :: starEach es X.env := by rfl) (hpl : (backTo pos (starEach es X.env)).any (·.1) = false := by rfl) : PE X (.Call (.Name x p) (e :: es) [] pos) (tCB r t) := by
  intro pins s σ H Q I h
  refine wpAny_Call_Name_kw (ld_blt I hg hm hv ?_ hn hdb)
  exact PyProof.Rows.callWith_type1 (thn (ha pos pins s σ H _ I h) fun us s1 ⟨vs, H1, I1, r1, q1⟩ => hc pins s1 σ H1 vs us Q I1 r1 q1) he hpl
end
end L2
namespace HT
open PySem PyProof.Rows
def lexLt : List Int → List Int → Bool
  | [], [] => false
  | [], _ :: _ => true
  | _ :: _, [] => false
  | x :: xs, y :: ys => if x = y then lexLt xs ys else decide (x < y)
section
open PySem.SeqAt
open PySem.AutoSeq1 (wpAny_loadPart')
open PySem.MeetsSeq PySem.MeetsSeq2 PySem.MeetsSeq3
end
section
variable {prog : Program} {w : World} {A : Around} {E : Value → Shared → Prop} {s : Shared}
def sIx (n d : Nat) : Option Int → Nat
  | none => d
  | some v => if v < 0 then (v + (n : Int)).toNat else min v.toNat n
theorem sIx_none (n d : Nat) : sIx n d none = d := rfl
theorem sIx_nat (n d k : Nat) : sIx n d (some (k : Int)) = min k n := by
  show (if (k : Int) < 0 then ((k : Int) + (n : Int)).toNat else min (k : Int).toNat n) = min k n
  rw [if_neg (by omega), Int.toNat_natCast]
theorem sIx_le (n d : Nat) (hd : d ≤ n) (o : Option Int) : sIx n d o ≤ n := by
  cases o with
  | none => exact hd
  | some v =>
    show (if v < 0 then (v + (n : Int)).toNat else min v.toNat n) ≤ n
    by_cases hv : v < 0
    · rw [if_pos hv]; omega
    · rw [if_neg hv]; exact Nat.min_le_right _ _
end
end HT
namespace L2
open PySem PySem.Spec PyProof.Rows
abbrev TO := St → Hp → (Option Int → Hp → Prop) → Prop
def PO (X : Cx) (e : Option Expr) (t : TO) : Prop :=
  ∀ (pins : List (Addr × Obj)) (s : Shared) (σ : St) (H : Hp) (Q : Option Int → Hp → Prop), Inv X pins σ H s → t σ H Q →
    wpAny (model X.prog X.w) X.A (evalPart e X.env) (fun u s' => ∃ o H', Inv X pins σ H' s' ∧ IsPart u o ∧ Q o H') X.xe s
def tNoPart : TO := fun _ H Q => Q none H
def tPart (t : TE) : TO := fun σ H Q => t σ H fun x H1 => ∃ i, x = .int i ∧ Q (some i) H1
theorem intsAre_of {ns : List Int} : ∀ {us : List Value}, Vals (ns.map V.int) us → IntsAre us ns := by
  induction ns with
  | nil => intro us r; rw [List.map_nil] at r; cases r; exact .nil
  | cons n ns ih =>
    intro us r
    rw [List.map_cons] at r
    cases r with
    | cons r1 r2 =>
      obtain ⟨t, e⟩ := r1
      subst e
      exact .cons n t (ih r2)
section
variable {X : Cx} {e : Expr} {te : TE} {lo hi : Option Expr} {tl th : TO} {pos p2 : Pos}
theorem po_none : PO X none tNoPart := by
  intro pins s σ H Q I h
  rw [evalPart_none]
  exact wpAny_pure ⟨none, H, I, .none, h⟩
theorem po_some (h : PE X e te) : PO X (some e) (tPart te) := by
  intro pins s σ H Q I hw
  rw [evalPart_some]
  refine thn (h pins s σ H _ I hw) fun u s1 ⟨x, H1, I1, r1, q1⟩ => ?_
  obtain ⟨i, rfl, q⟩ := q1
  obtain ⟨t, rfl⟩ := r1
  exact ⟨some i, H1, I1, .int i t, q⟩
def SlR (X : Cx) (r : V → Option Int → Option Int → Hp → VK → Prop) : Prop :=
  ∀ (pins : List (Addr × Obj)) (s : Shared) (σ : St) (H : Hp) (x : V) (v vl vu : Value) (lo hi : Option Int) (sl : Addr) (Q : VK), Inv X pins σ H s → RelV x v → s.heap.IsSliceOf sl vl vu .none → IsPart vl lo → IsPart vu hi → r x lo hi H Q →
    ∃ T id, typeLookup (.type T) "__getitem__" = pure (some (.builtin id)) ∧ s.TypeIs v T ∧ wpAny (model X.prog X.w) X.A (getItem v (.ref sl)) (EP X pins σ Q) X.xe s
def tSl (r : V → Option Int → Option Int → Hp → VK → Prop) (te : TE) (tl th : TO) : TE := fun σ H Q => te σ H fun x H1 => tl σ H1 fun l H2 => th σ H2 fun u H3 => r x l u H3 Q
theorem pe_slice {r : V → Option Int → Option Int → Hp → VK → Prop} (hr : SlR X r) (he : PE X e te) (hl : PO X lo tl) (hu : PO X hi th) : PE X (.Subscript e (.Slice lo hi none p2) pos) (tSl r te tl th) := by
  intro pins s σ H Q I h
  refine Subscript_ (thn (he pins s σ H _ I h) fun v s1 ⟨x, H1, I1, r1, q1⟩ => ?_)
  refine wpAny_Slice (thn (hl pins s1 σ H1 _ I1 q1) fun vl s2 ⟨l, H2, I2, pl, q2⟩ => thn (hu pins s2 σ H2 _ I2 q2) fun vu s3 ⟨u, H3, I3, pu, q3⟩ => ?_)
  rw [evalPart_none]
  refine wpAny_pure ?_
  have I4 : Inv X pins σ H3 { s3 with heap := s3.heap.push { cls := .type "slice", data := .fields #[vl, vu, .none] } } := I3.kept (t' := s3.toks) fun b ob q => Heap.get?_push_of_some _ q
  obtain ⟨T, id, hT, ht, hg⟩ := hr pins { s3 with heap := s3.heap.push { cls := .type "slice", data := .fields #[vl, vu, .none] } } σ H3 x v vl vu l u s3.heap.objs.size Q I4 r1 (Heap.IsSliceOf.new ..) pl pu q3
  show wpAny (model X.prog X.w) X.A (subscriptTail e (.Slice lo hi none p2) v (.ref s3.heap.objs.size)) (EP X pins σ Q) X.xe { s3 with heap := s3.heap.push { cls := .type "slice", data := .fields #[vl, vu, .none] } }
  exact tail_any (ops := [.ref s3.heap.objs.size, v]) ht hT hg (by with_unfolding_all rfl)
def cutV (xs : List V) (lo hi : Option Int) : List V := (xs.drop (HT.sIx xs.length 0 lo)).take (HT.sIx xs.length xs.length hi - HT.sIx xs.length 0 lo)
theorem cutV_length (xs : List V) (lo hi : Option Int) : (cutV xs lo hi).length ≤ xs.length := by
  unfold cutV
  rw [List.length_take, List.length_drop]
  omega
def rSlT (K : PySem.W.Frag) : V → Option Int → Option Int → Hp → VK → Prop := fun x lo hi H Q => ∃ a xs, x = .ref a ∧ SqT K H a xs ∧
  ¬ (HT.sIx xs.length 0 lo = 0 ∧ HT.sIx xs.length xs.length hi = xs.length) ∧ ∀ p, H p = none → Q (.ref p) (upd H p (.tup (cutV xs lo hi)))
def rLtT (K : PySem.W.Frag) : R2 := fun x y H Q => ∃ a b ns ms, x = .ref a ∧ y = .ref b ∧ SqT K H a (ns.map V.int) ∧ SqT K H b (ms.map V.int) ∧ Q (.bl (HT.lexLt ns ms)) H
def rCatT (K : PySem.W.Frag) : R2 := fun x y H Q => ∃ a b xs ys, x = .ref a ∧ y = .ref b ∧ SqT K H a xs ∧ SqT K H b ys ∧ xs ≠ [] ∧ xs.length + ys.length ≤ sizeLine ∧
  (ys = [] → Q (.ref a) H) ∧ (ys ≠ [] → ∀ p, H p = none → Q (.ref p) (upd H p (.tup (xs ++ ys))))
end
open PySem PySem.Spec PyProof.Rows
def ixN (n : Nat) (i : Int) : Option Nat := if 0 ≤ i then (if i < n then some i.toNat else none) else if -(n : Int) ≤ i then some (i + n).toNat else none
def atI {α : Type} (xs : List α) (i : Int) : Option α := (ixN xs.length i).bind fun j => xs[j]?
theorem ixN_seq {n : Nat} {i : Int} {j : Nat} (h : ixN n i = some j) : seqIndex? i n = some j ∧ j < n ∧ -(n : Int) ≤ i ∧ i < n := by
  unfold ixN at h
  by_cases h0 : 0 ≤ i
  · rw [if_pos h0] at h
    by_cases h1 : i < n
    · rw [if_pos h1] at h
      have e : i.toNat = j := Option.some.inj h
      exact ⟨by rw [seqIndex_of h0 h1, e], by omega, by omega, h1⟩
    · rw [if_neg h1] at h; cases h
  · rw [if_neg h0] at h
    by_cases h1 : -(n : Int) ≤ i
    · rw [if_pos h1] at h
      have e : (i + n).toNat = j := Option.some.inj h
      exact ⟨by rw [seqIndex_neg (by omega) h1, e], by omega, h1, by omega⟩
    · rw [if_neg h1] at h; cases h
theorem atI_get {α : Type} {xs : List α} {i : Int} {v : α} (h : atI xs i = some v) : ∃ j, seqIndex? i xs.length = some j ∧ xs[j]? = some v ∧ j < xs.length ∧ -(xs.length : Int) ≤ i ∧ i < xs.length := by
  unfold atI at h
  cases e : ixN xs.length i with
  | none => rw [e] at h; cases h
  | some j =>
    rw [e] at h
    obtain ⟨h1, h2, h3, h4⟩ := ixN_seq e
    exact ⟨j, h1, h, h2, h3, h4⟩
theorem atI_nat {α : Type} {xs : List α} {j : Nat} {v : α} (h : xs[j]? = some v) : atI xs (j : Int) = some v := by
  have hj : j < xs.length := (List.getElem?_eq_some_iff.mp h).1
  have e : ixN xs.length (j : Int) = some j := by
    unfold ixN
    rw [if_pos (by omega), if_pos (by omega)]; simp
  unfold atI; rw [e]; exact h
theorem atI_last {α : Type} (xs : List α) (v : α) : atI (xs ++ [v]) (-1) = some v := by
  have hl : (xs ++ [v]).length = xs.length + 1 := by simp
  have e : ixN (xs ++ [v]).length (-1) = some xs.length := by
    unfold ixN
    rw [hl, if_neg (by decide), if_pos (by omega)]
    congr 1
    omega
  unfold atI
  rw [e]
  show (xs ++ [v])[xs.length]? = some v
  simp
def PlainIx (b : Expr) : Prop := ∀ o i, subscripted b false o i = operate [o, i] (getItem o i)
def IxR (X : Cx) (r : R2) : Prop :=
  ∀ (value slice : Expr) (pins : List (Addr × Obj)) (s : Shared) (σ : St) (H : Hp) (x y : V) (v u : Value) (Q : VK), Inv X pins σ H s → RelV x v → RelV y u → r x y H Q →
    subscripted slice false v u = operate [v, u] (getItem v u) → wpAny (model X.prog X.w) X.A (subscriptTail value slice v u) (EP X pins σ Q) X.xe s
def MtR (X : Cx) (id : String) (r : V → List V → Hp → VK → Prop) : Prop :=
  ∀ (pins : List (Addr × Obj)) (s : Shared) (σ : St) (H : Hp) (x : V) (xs : List V) (v : Value) (us : List Value) (Q : VK), Inv X pins σ H s → RelV x v → Vals xs us → r x xs H Q →
    wpAny (model X.prog X.w) X.A (call (.builtin id) (v :: us)) (EP X pins σ Q) X.xe s
section
variable {X : Cx} {a b : Expr} {ta tb : TE} {pos : Pos}
theorem pe_ix {r : R2} (hr : IxR X r) (ha : PE X a ta) (hb : PE X b tb) (hs : PlainIx b) : PE X (.Subscript a b pos) (tOp r ta tb) := by
  intro pins s σ H Q I h
  exact Subscript_ (binT ha hb I h fun v u s2 x y H2 I2 rx ry q => hr a b pins s2 σ H2 x y v u Q I2 rx ry q (hs _ _))
def rIxL (K : PySem.W.Frag) : R2 := fun x y H Q => ∃ p xs i v, x = .ref p ∧ y = .int i ∧ SqL K H p xs ∧ atI xs i = some v ∧ Q v H
def rIxT (K : PySem.W.Frag) : R2 := fun x y H Q => ∃ p xs i v, x = .ref p ∧ y = .int i ∧ SqT K H p xs ∧ atI xs i = some v ∧ Q v H
def rIxS : R2 := fun x y H Q => ∃ z i c, x = .str z ∧ y = .int i ∧ z.length ≤ sizeLine ∧ atI z.cps.toList i = some c ∧ Q (.str ⟨#[c]⟩) H
theorem ix_list : IxR X (rIxL X.K) := by
  intro value slice pins s σ H x y v u Q I rx ry h hs
  obtain ⟨p, xs, i, z, rfl, rfl, hq, he, q⟩ := h
  cases rx
  obtain ⟨t, rfl⟩ := ry
  obtain ⟨its, r, pl, hz⟩ := I.list hq
  obtain ⟨j, h1, h2, h3, h4, h5⟩ := atI_get he
  obtain ⟨w, ew, rw'⟩ := r.get h2
  have hl := r.length
  have hn := line63
  have fin : EP X pins σ Q w s := ⟨z, H, I, rw', q⟩
  by_cases h0 : 0 ≤ i
  · have hj : i.toNat = j := by
      rw [seqIndex_of h0 h5] at h1
      exact Option.some.inj h1
    exact item_listR pl.isList h0 (by omega) (by rw [hj]; simpa using ew) fin hs
  · have hj : (i + (its.toArray.size : Int)).toNat = j := by
      rw [seqIndex_neg (by omega) h4] at h1
      rw [List.size_toArray, ← hl]
      exact Option.some.inj h1
    exact subscriptTail_builtinR (x := w) pl.isList.typeIs slot_list_getitem.lookup
      (wpAny_getItem_list_neg (Q := fun r s' => r = w ∧ EP X pins σ Q r s') pl.isList (by omega) (by rw [List.size_toArray] <;> omega) (by omega) (by rw [hj]; simpa using ew) ⟨rfl, fin⟩) hs
theorem ix_tup : IxR X (rIxT X.K) := by
  intro value slice pins s σ H x y v u Q I rx ry h hs
  obtain ⟨p, xs, i, z, rfl, rfl, hq, he, q⟩ := h
  cases rx
  obtain ⟨t, rfl⟩ := ry
  obtain ⟨its, r, pl, hz⟩ := I.tuple hq
  obtain ⟨j, h1, h2, h3, h4, h5⟩ := atI_get he
  obtain ⟨w, ew, rw'⟩ := r.get h2
  have hl := r.length
  have hn := line63
  have fin : EP X pins σ Q w s := ⟨z, H, I, rw', q⟩
  exact subscriptTail_builtinR (x := w) pl.typeIs slot_tuple_getitem.lookup
    (getItem_tuple (j := j) (Q := fun r s' => r = w ∧ EP X pins σ Q r s') pl (by omega) (by omega) (by rw [List.size_toArray, ← hl]; exact h1) (by simpa using ew) ⟨rfl, fin⟩) hs
theorem ix_str : IxR X rIxS := by
  intro value slice pins s σ H x y v u Q I rx ry h hs
  obtain ⟨z, i, c, rfl, rfl, hz, he, q⟩ := h
  obtain ⟨t, rfl⟩ := rx
  obtain ⟨t', rfl⟩ := ry
  obtain ⟨j, h1, h2, h3, h4, h5⟩ := atI_get he
  have hl : z.cps.toList.length = z.length := by simp [Str.length]
  rw [hl] at h1 h4 h5
  have hn := line63
  exact tail_any (typeIs_str s z t) slot_str_getitem.lookup (getItem_str (c := c) (by
    have e1 : decide (i < -(2 ^ 63 : Int)) = false := decide_eq_false (by omega)
    have e2 : decide (i ≥ 2 ^ 63) = false := decide_eq_false (by omega)
    rw [e1, e2, Bool.or_false]) (by rw [h1]; simpa using h2) ⟨.str ⟨#[c]⟩, H, I.tok _, ⟨_, rfl⟩, q⟩) hs
def rIx (K : PySem.W.Frag) : R2 := fun x y H Q => rIxL K x y H Q ∨ rIxT K x y H Q ∨ rIxS x y H Q
theorem mapSeq_set (its : List Value) (n j : Nat) (u : Value) : Obj.mapSeq (·.setIfInBounds j u) { cls := .type "list", data := .seq its.toArray n } = { cls := .type "list", data := .seq (its.set j u).toArray n } := by
  simp [Obj.mapSeq]
theorem Inv.lst {pins : List (Addr × Obj)} {σ : St} {H : Hp} {s : Shared} {p : Addr} {xs : List V} (I : Inv X pins σ H s) (h : H p = some (.lst xs)) :
    ∃ (its : List Value) (n : Nat), Vals xs its ∧ s.heap.get? p = some { cls := .type "list", data := .seq its.toArray n } ∧ xs.length ≤ sizeLine := by
  obtain ⟨z, its, n, r, e⟩ := I.hok p _ h
  exact ⟨its, n, r, e, z⟩
theorem Inv.lstUpd {pins : List (Addr × Obj)} {σ : St} {H : Hp} {s : Shared} {p : Addr} {xs ys : List V} {its its' : List Value} {n n' : Nat} {f : Obj → Obj} (I : Inv X pins σ H s) (h : H p = some (.lst xs))
    (ho : s.heap.get? p = some { cls := .type "list", data := .seq its.toArray n }) (hf : f { cls := .type "list", data := .seq its.toArray n } = { cls := .type "list", data := .seq its'.toArray n' }) (r : Vals ys its') (hz : ys.length ≤ sizeLine) (t : Nat) :
    Inv X pins σ (upd H p (.lst ys)) { s with heap := s.heap.update p f, toks := t } := by
  have e : (s.heap.update p f).get? p = some { cls := .type "list", data := .seq its'.toArray n' } := by
    rw [Heap.get?_update_self f ho (by rw [hf] <;> rfl), hf]
  refine I.write (x := p) (e := p) (by rw [h]; trivial) (.inl rfl) (fun b u hb q => (Heap.get?_update_other _ _ (Ne.symm hb)).trans q) ⟨_, e⟩ ?_
  exact ⟨hz, its', n', r, e⟩
def rSetL : V → V → V → Hp → (Hp → Prop) → Prop := fun o i v H Q => ∃ p xs k j, o = .ref p ∧ i = .int k ∧ H p = some (.lst xs) ∧ ixN xs.length k = some j ∧ Q (upd H p (.lst (xs.set j v)))
theorem set_list : PSet X rSetL := by
  intro pins s σ H o i v ov iv u Q I ro ri rv h
  obtain ⟨p, xs, k, j, rfl, rfl, hp, hj, q⟩ := h
  cases ro
  obtain ⟨t, rfl⟩ := ri
  obtain ⟨its, n, r, ho, hz⟩ := I.lst hp
  obtain ⟨h1, h2, h3, h4⟩ := ixN_seq hj
  have hl := r.length
  have hn := line63
  have I' : Inv X pins σ (upd H p (.lst (xs.set j v))) { s with heap := s.heap.update p (Obj.mapSeq (·.setIfInBounds j u)) } :=
    I.lstUpd hp ho (mapSeq_set its n j u) (r.set rv j) (by rw [List.length_set]; exact hz) s.toks
  by_cases h0 : 0 ≤ k
  · have hk : k.toNat = j := by
      rw [seqIndex_of h0 h4] at h1
      exact Option.some.inj h1
    exact PySem.W.ki_setAt ho h0 (by omega) (by rw [List.size_toArray, ← hl]; exact h4) (by rw [hk]; exact ⟨_, I', q⟩)
  · have hk : (k + (its.toArray.size : Int)).toNat = j := by
      rw [seqIndex_neg (by omega) h3] at h1
      rw [List.size_toArray, ← hl]
      exact Option.some.inj h1
    exact PySem.W.ki_setBack ho (by omega) (by rw [List.size_toArray, ← hl]; exact h3) (by omega) (by rw [hk]; exact ⟨_, I', q⟩)
theorem slice_bounds (lo hi : Option Int) (n : Nat) : (sliceBounds lo hi none n).1 = ((HT.sIx n 0 lo : Nat) : Int) ∧ (sliceBounds lo hi none n).2.1 = ((HT.sIx n n hi : Nat) : Int) ∧ (sliceBounds lo hi none n).2.2 = 1 := by
  refine ⟨?_, ?_, rfl⟩
  · cases lo with
    | none => simp [sliceBounds, HT.sIx]
    | some i =>
      simp only [sliceBounds, HT.sIx, Option.getD_none, show (1 : Int) > 0 by decide, if_true]
      by_cases h : i < 0
      · simp only [h, if_true] <;> omega
      · simp only [h, if_false] <;> omega
  · cases hi with
    | none => simp [sliceBounds, HT.sIx]
    | some i =>
      simp only [sliceBounds, HT.sIx, Option.getD_none, show (1 : Int) > 0 by decide, if_true]
      by_cases h : i < 0
      · simp only [h, if_true] <;> omega
      · simp only [h, if_false] <;> omega
theorem slicePick_cut (its : List Value) (lo hi : Option Int) : slicePick its.toArray lo hi none = ((its.drop (HT.sIx its.length 0 lo)).take (HT.sIx its.length its.length hi - HT.sIx its.length 0 lo)).toArray := by
  obtain ⟨h1, h2, h3⟩ := slice_bounds lo hi its.toArray.size
  unfold slicePick
  rw [h1, h2, h3]
  simp only [sliceRange_one, pick_run, List.size_toArray] <;> rfl
def rSlL (K : PySem.W.Frag) : V → Option Int → Option Int → Hp → VK → Prop := fun x lo hi H Q => ∃ a xs, x = .ref a ∧ SqL K H a xs ∧ ∀ p, H p = none → Q (.ref p) (upd H p (.lst (cutV xs lo hi)))
theorem sl_list : SlR X (rSlL X.K) := by
  intro pins s σ H x v vl vu lo hi sl Q I rx hs pl pu h
  obtain ⟨a, xs, rfl, hx, q⟩ := h
  cases rx
  obtain ⟨its, r, ht, hz⟩ := I.list hx
  have hlen := r.length
  refine ⟨"list", _, slot_list_getitem.lookup, ht.isList.typeIs, ?_⟩
  refine wpAny_getItem_list_slice ht.isList hs pl pu .none (by simp) ?_ (by rw [List.size_toArray] <;> omega)
  rw [slicePick_cut, ← hlen]
  refine ⟨.ref s.heap.objs.size, _, I.laid (t' := s.toks) (o := .lst (cutV xs lo hi)) (fun b ob q => Heap.get?_push_of_some _ q) (Nat.le_refl _) ?_, rfl, q _ (I.hok.fresh (Nat.le_refl _))⟩
  exact ⟨Nat.le_trans (cutV_length xs lo hi) hz, _, 0, (r.drop (HT.sIx xs.length 0 lo)).take (HT.sIx xs.length xs.length hi - HT.sIx xs.length 0 lo), Heap.get?_push_size _ rfl⟩
def flatV : V → Bool
  | .non => true
  | .bl _ => true
  | .int _ => true
  | .str _ => true
  | _ => false
def eqV : V → V → Bool
  | .non, .non => true
  | .bl a, .bl b => a == b
  | .bl a, .int b => (if a then 1 else 0) == b
  | .int a, .bl b => a == (if b then 1 else 0)
  | .int a, .int b => a == b
  | .str a, .str b => a == b
  | _, _ => false
theorem eqAt_V {A : Around} {s : Shared} {y x : V} {u v : Value} (ry : RelV y u) (rx : RelV x v) (fy : flatV y = true) (fx : flatV x = true) : SeqAt.EqAt A s u v (eqV y x) := by
  cases y with
  | non =>
    cases ry
    cases x with
    | non => cases rx; exact SeqAt.EqAt.same _
    | bl b => cases rx; exact SeqAt.EqAt.none_bool b
    | int b => obtain ⟨t, rfl⟩ := rx; exact SeqAt.EqAt.none_int b t
    | str b => obtain ⟨t, rfl⟩ := rx; exact SeqAt.EqAt.none_str b t
    | _ => exact absurd (show false = true from fx) Bool.false_ne_true
  | bl a =>
    cases ry
    cases x with
    | non => cases rx; exact SeqAt.EqAt.bool_none a
    | bl b => cases rx; exact SeqAt.EqAt.bool_bool a b
    | int b => obtain ⟨t, rfl⟩ := rx; exact SeqAt.EqAt.bool_int a b t
    | str b => obtain ⟨t, rfl⟩ := rx; exact SeqAt.EqAt.bool_str a b t
    | _ => exact absurd (show false = true from fx) Bool.false_ne_true
  | int a =>
    obtain ⟨t', rfl⟩ := ry
    cases x with
    | non => cases rx; exact SeqAt.EqAt.int_none a t'
    | bl b => cases rx; exact SeqAt.EqAt.int_bool a t' b
    | int b => obtain ⟨t, rfl⟩ := rx; exact SeqAt.EqAt.int_int a t' b t
    | str b => obtain ⟨t, rfl⟩ := rx; exact SeqAt.EqAt.int_str a t' b t
    | _ => exact absurd (show false = true from fx) Bool.false_ne_true
  | str a =>
    obtain ⟨t', rfl⟩ := ry
    cases x with
    | non => cases rx; exact SeqAt.EqAt.str_none a t'
    | bl b => cases rx; exact SeqAt.EqAt.str_bool a t' b
    | int b => obtain ⟨t, rfl⟩ := rx; exact SeqAt.EqAt.str_int a t' b t
    | str b => obtain ⟨t, rfl⟩ := rx; exact SeqAt.EqAt.str_str a t' b t
    | _ => exact absurd (show false = true from fx) Bool.false_ne_true
  | _ => exact absurd (show false = true from fy) Bool.false_ne_true
def eqU (x : V) (u : Value) : Bool := match u with
  | .none => eqV .non x
  | .bool b => eqV (.bl b) x
  | .int i _ => eqV (.int i) x
  | .str z _ => eqV (.str z) x
  | _ => false
def inV (x : V) (xs : List V) : Bool := xs.any fun y => eqV y x
def rIn (K : PySem.W.Frag) (neg : Bool) : R2 := fun x y H Q => ∃ p xs, y = .ref p ∧ (SqL K H p xs ∨ SqT K H p xs) ∧ flatV x = true ∧ xs.all flatV = true ∧ Q (.bl (if neg then !inV x xs else inV x xs)) H
theorem call_len_seq : CallR X (.builtin "len") (fun xs H Q => ∃ p ys, xs = [.ref p] ∧ (SqL X.K H p ys ∨ SqT X.K H p ys) ∧ Q (.int ys.length) H) := by
  intro pins s σ H xs us Q I r h
  obtain ⟨p, ys, rfl, hq, q⟩ := h
  obtain ⟨u, rfl, rx⟩ := vals1 r
  cases rx
  have hn := line63
  rcases hq with hq | hq
  · obtain ⟨its, r', pl, hz⟩ := I.list hq
    have hlen := r'.length
    exact Calls.call_len_list pl.isList (by simp only [List.size_toArray] <;> omega) ⟨.int ys.length, H, I.tok _, ⟨s.toks + 1, by rw [List.size_toArray, hlen]⟩, q⟩
  · obtain ⟨its, r', pl, hz⟩ := I.tuple hq
    have hlen := r'.length
    exact len_tuple pl (by simp only [List.size_toArray] <;> omega) ⟨.int ys.length, H, I.tok _, ⟨s.toks + 1, by rw [List.size_toArray, hlen]⟩, q⟩
theorem call_len_str : CallR X (.builtin "len") (fun xs H Q => ∃ z, xs = [.str z] ∧ z.length ≤ sizeLine ∧ Q (.int z.length) H) := by
  intro pins s σ H xs us Q I r h
  obtain ⟨z, rfl, hz, q⟩ := h
  obtain ⟨u, rfl, t, rfl⟩ := vals1 r
  have hn := line63
  exact len_str (by omega) ⟨.int z.length, H, I.tok _, ⟨_, rfl⟩, q⟩
theorem call_list_of : CallR X (.type "list") (fun xs H Q => ∃ p ys, xs = [.ref p] ∧ (SqL X.K H p ys ∨ SqT X.K H p ys) ∧ ∀ l, H l = none → Q (.ref l) (upd H l (.lst ys))) := by
  intro pins s σ H xs us Q I r h
  obtain ⟨p, ys, rfl, hq, q⟩ := h
  obtain ⟨u, rfl, rx⟩ := vals1 r
  cases rx
  have fin : ∀ (its : List Value), Vals ys its → ys.length ≤ sizeLine → ∀ (h' : Heap) (c' : Nat), (∀ b o', s.heap.get? b = some o' → h'.get? b = some o') →
      h'.get? s.heap.objs.size = some { cls := .type "list", dict := none, data := .seq its.toArray c', slots := #[] } → EP X pins σ Q (.ref s.heap.objs.size) { s with heap := h' } := fun its r' hz h' c' kp e =>
    ⟨.ref s.heap.objs.size, _, I.laid (t' := s.toks) kp (Nat.le_refl _) (show ObjOk X.prog X.w _ h' _ (.lst ys) from ⟨hz, its, c', r', e⟩), rfl, q _ (I.hok.fresh (Nat.le_refl _))⟩
  rcases hq with hq | hq
  · obtain ⟨its, r', pl, hz⟩ := I.list hq
    have hlen := r'.length
    obtain ⟨o, ho, hc, n, hd⟩ := pl.isList
    exact call_list_seq p (.inl rfl) ho hc hd (fun h' c' kp e => fin its r' hz h' c' kp e) (by simp only [List.size_toArray] <;> omega)
  · obtain ⟨its, r', pl, hz⟩ := I.tuple hq
    have hlen := r'.length
    obtain ⟨o, ho, hc, n, hd⟩ := pl
    exact call_list_seq p (.inr rfl) ho hc hd (fun h' c' kp e => fin its r' hz h' c' kp e) (by simp only [List.size_toArray] <;> omega)
def tyV (K : PySem.W.Frag) (T : String) (x : V) (H : Hp) : Prop := match x with
  | .str _ => T = "str"
  | .int _ => T = "int"
  | .ref p => (T = "list" ∧ ∃ xs, SqL K H p xs) ∨ (T = "tuple" ∧ ∃ o, K.lookup p = some o ∧ o.cls = .type "tuple" ∧ o.dict = none) ∨
      (T = "dict" ∧ ((∃ kvs, H p = some (.dK kvs)) ∨ ∃ kvs, H p = some (.dT kvs))) ∨ (T = "set" ∧ ∃ S n, H p = some (.set S n))
  | _ => False
theorem tyV_is {pins : List (Addr × Obj)} {σ : St} {H : Hp} {s : Shared} {T : String} {x : V} {v : Value} (I : Inv X pins σ H s) (r : RelV x v) (ty : tyV X.K T x H) :
    s.TypeIs v T ∧ ∀ a, v = .ref a → ∃ ob, s.heap.get? a = some ob ∧ ob.dict = none := by
  cases x with
  | str z =>
    obtain ⟨t, rfl⟩ := r
    cases (show T = "str" from ty)
    exact ⟨typeIs_str s z t, fun _ e => nomatch e⟩
  | int i =>
    obtain ⟨t, rfl⟩ := r
    cases (show T = "int" from ty)
    exact ⟨typeIs_int s i t, fun _ e => nomatch e⟩
  | ref p =>
    cases r
    rcases ty with ⟨rfl, xs, hq⟩ | ⟨rfl, o, hk, hc, hd⟩ | ⟨rfl, hk⟩ | ⟨rfl, S, n, hk⟩
    · obtain ⟨its, _, pl, _⟩ := I.list hq
      refine ⟨pl.isList.typeIs, fun a e => ?_⟩
      cases e
      obtain ⟨o, n, e, c, hd, _⟩ := pl
      exact ⟨o, e, hd⟩
    · refine ⟨⟨o, I.kIn p o hk, hc⟩, fun a e => ?_⟩
      cases e
      exact ⟨o, I.kIn _ o hk, hd⟩
    · have z : ∃ o, s.heap.get? p = some o ∧ o.ExactDict := by
        rcases hk with ⟨kvs, hk⟩ | ⟨kvs, hk⟩
        · obtain ⟨_, _, _, _, o, _, _, e, ex, _⟩ := I.hok p _ hk
          exact ⟨o, e, ex⟩
        · obtain ⟨_, _, _, _, o, _, _, e, ex, _⟩ := I.hok p _ hk
          exact ⟨o, e, ex⟩
      obtain ⟨o, e, ex⟩ := z
      refine ⟨⟨o, e, ex.1⟩, fun a e2 => ?_⟩
      cases e2
      exact ⟨o, e, ex.2.1⟩
    · obtain ⟨o, _, _, _, e, ex, _⟩ := I.hok p _ hk
      refine ⟨⟨o, e, ex.1⟩, fun a e2 => ?_⟩
      cases e2
      exact ⟨o, e, ex.2.1⟩
  | _ => exact False.elim ty
def tBM0 (K : PySem.W.Frag) (T : String) (r : V → List V → Hp → VK → Prop) (to : TE) : TE := fun σ H Q => to σ H fun x H1 => tyV K T x H1 ∧ r x [] H1 Q
def tBM (K : PySem.W.Frag) (T : String) (r : V → List V → Hp → VK → Prop) (to : TE) (t : TA) : TE := fun σ H Q => to σ H fun x H1 => tyV K T x H1 ∧ t σ H1 fun xs H2 => r x xs H2 Q
variable {o e : Expr} {es : List Expr} {to : TE} {t : TA} {name : Str} {apos cpos : Pos} {T id : String} {r : V → List V → Hp → VK → Prop}
theorem pe_bm0 (pa : PlainAttrs T) (slot : Slot T name id) (hty : typeOf (.builtin id) = pure (.type "method_descriptor")) (hm : MtR X id r) (ho : PE X o to)
    (hbase : attributeBase o name X.env (eval o X.env) = eval o X.env := by rfl) (hline : (apos.endLine == cpos.line) = true := by rfl) : PE X (.Call (.Attribute o name apos) [] [] cpos) (tBM0 X.K T r to) := by
  intro pins s σ H Q I h
  refine wpAny_Call_method0_late hbase hline (thn (ho pins s σ H _ I h) fun v s1 ⟨x, H1, I1, r1, ty, q1⟩ => ?_)
  obtain ⟨h1, h2⟩ := tyV_is I1 r1 ty
  exact ⟨T, id, pa, slot, hty, h1, h2, Calls.callWith_builtin rfl (PySem.evalArgs_none (hm pins s1 σ H1 x [] v [] Q I1 r1 .nil q1))⟩
theorem pe_bm (pa : PlainAttrs T) (slot : Slot T name id) (hty : typeOf (.builtin id) = pure (.type "method_descriptor")) (hm : MtR X id r) (ho : PE X o to) (ha : PA X (e :: es) t)
    (hbase : attributeBase o name X.env (eval o X.env) = eval o X.env := by rfl)
    (hfew : ((backTo cpos (starEach (e :: es) X.env)).all (fun x => !x.1) && (backToKw cpos (keywordEach [] X.env)).all (fun x => x.1.isSome)
      && decide ((e :: es).length + ([] : List Keyword).length + (if ([] : List Keyword).isEmpty then 0 else 1) < 30)) = true := by rfl)
    (hline : (apos.endLine == cpos.line) = true := by rfl) (hs : starEach (e :: es) X.env = (false, eval e X.env) :: starEach es X.env := by rfl) (hplain : (backTo cpos (starEach es X.env)).any (·.1) = false := by rfl) :
    PE X (.Call (.Attribute o name apos) (e :: es) [] cpos) (tBM X.K T r to t) := by
  intro pins s σ H Q I h
  refine wpAny_Call_method_late hbase hfew hline rfl (thn (ho pins s σ H _ I h) fun v s1 ⟨x, H1, I1, r1, ty, q1⟩ => ?_)
  obtain ⟨h1, h2⟩ := tyV_is I1 r1 ty
  refine ⟨T, id, pa, slot, hty, h1, h2, ?_⟩
  have hA := ha cpos pins s1 σ H1 _ I1 q1
  rw [hs] at hA ⊢
  refine Calls.callWith_builtin (by show (false || (backTo cpos (starEach es X.env)).any (·.1)) = false; rw [hplain] <;> rfl) (Calls.evalArgs_plain ?_)
  exact thn hA fun us s2 ⟨vs, H2, I2, r2, q2⟩ => hm pins s2 σ H2 x vs v us Q I2 r1 r2 q2
end
open PySem PySem.Spec PyProof.Rows
def MtM (X : Cx) (id : String) (r : V → List V → Hp → VK → Prop) : Prop :=
  ∀ (pins : List (Addr × Obj)) (s : Shared) (σ : St) (H : Hp) (x : V) (xs : List V) (v : Value) (us : List Value) (Q : VK), Inv X pins σ H s → RelV x v → Vals xs us → r x xs H Q →
    wpAny (model X.prog X.w) X.A (call (.builtin id) (v :: us)) (EP X pins σ Q) X.xe s
theorem Vals.one : ∀ {x : V} {us : List Value}, Vals [x] us → ∃ u, us = [u] ∧ RelV x u
  | _, _, .cons r .nil => ⟨_, rfl, r⟩
theorem Vals.two : ∀ {x y : V} {us : List Value}, Vals [x, y] us → ∃ u v, us = [u, v] ∧ RelV x u ∧ RelV y v
  | _, _, _, .cons r (.cons q .nil) => ⟨_, _, rfl, r, q⟩
theorem Vals.zero : ∀ {us : List Value}, Vals [] us → us = []
  | _, .nil => rfl
theorem Vals.dropLast {xs : List V} {us : List Value} (h : Vals xs us) : Vals xs.dropLast us.dropLast := by
  induction h with
  | nil => exact .nil
  | cons r t ih =>
    cases t with
    | nil => exact .nil
    | cons q t' => exact .cons r ih
theorem Vals.rep {xs : List V} {us : List Value} (h : Vals xs us) : ∀ k : Nat, Vals (List.replicate k xs).flatten (List.replicate k us).flatten
  | 0 => .nil
  | k + 1 => by
    rw [List.replicate_succ, List.replicate_succ, List.flatten_cons, List.flatten_cons]
    exact Vals.append h (Vals.rep h k)
theorem erase_last {α : Type} (l : List α) : l.eraseIdx (l.length - 1) = l.dropLast := by
  induction l with
  | nil => rfl
  | cons a r ih =>
    cases r with
    | nil => rfl
    | cons b r =>
      have e : (a :: b :: r).length - 1 = ((b :: r).length - 1) + 1 := by
        have h1 : (a :: b :: r).length = r.length + 2 := rfl
        have h2 : (b :: r).length = r.length + 1 := rfl
        omega
      rw [e, List.eraseIdx_cons_succ, ih]
      all_goals rfl
theorem foldl_rep (its : List Value) : ∀ (k : Nat) (acc : List Value),
    List.foldl (fun x1 x2 => x1 ++ x2) acc.toArray (List.replicate k its.toArray) = (acc ++ (List.replicate k its).flatten).toArray
  | 0, acc => by simp
  | k + 1, acc => by
    have e : acc.toArray ++ its.toArray = (acc ++ its).toArray := by simp
    have e2 : (acc ++ its) ++ (List.replicate k its).flatten = acc ++ (List.replicate (k + 1) its).flatten := by
      rw [List.replicate_succ, List.flatten_cons, List.append_assoc]
    rw [← e2, ← foldl_rep its k (acc ++ its), ← e, List.replicate_succ, List.foldl_cons]
section
variable {X : Cx} {pins : List (Addr × Obj)} {σ : St} {H : Hp} {s : Shared} {l b : Addr} {xs ys zs : List V}
theorem Inv.lset {its its' : List Value} {n : Nat} {f : Array Value → Array Value} {t' : Nat} (I : Inv X pins σ H s) (hH : H l = some (.lst xs))
    (e : s.heap.get? l = some { cls := .type "list", data := .seq its.toArray n }) (hf : f its.toArray = its'.toArray) (hv : Vals ys its') (hz : ys.length ≤ sizeLine) :
    Inv X pins σ (upd H l (.lst ys)) { s with heap := s.heap.update l (Obj.mapSeq f), toks := t' } := by
  have q := PySem.IsL.update e f
  rw [hf] at q
  refine I.write (x := l) (e := l) (by rw [hH]; exact trivial) (.inl rfl) (fun b' u hb hu => (Heap.get?_update_other s.heap (Obj.mapSeq f) (Ne.symm hb)).trans hu) ⟨_, q⟩ ?_
  exact ⟨hz, its', _, hv, q⟩
theorem Inv.lnew {its : List Value} {t' : Nat} (I : Inv X pins σ H s) (hv : Vals ys its) (hz : ys.length ≤ sizeLine) :
    Inv X pins σ (upd H s.heap.objs.size (.lst ys)) { s with heap := s.heap.push { cls := .type "list", data := .seq its.toArray }, toks := t' } :=
  I.laid (fun _ _ q => Heap.get?_push_of_some _ q) (Nat.le_refl _) ⟨hz, its, 0, hv, Heap.get?_push_size _ rfl⟩
theorem Inv.fresh (I : Inv X pins σ H s) : H s.heap.objs.size = none := I.hok.fresh (Nat.le_refl _)
theorem Inv.lstM (I : Inv X pins σ H s) (hH : H l = some (.lst xs)) : xs.length ≤ sizeLine ∧ ∃ (its : List Value) (n : Nat), Vals xs its ∧ xs.length = its.length ∧ s.heap.get? l = some { cls := .type "list", data := .seq its.toArray n } := by
  obtain ⟨z, its, n, r, e⟩ := I.hok l _ hH
  exact ⟨z, its, n, r, r.length, e⟩
theorem notLongL {n : Nat} (h : n ≤ sizeLine) : Builtin.List.listTooLong n = false := by
  unfold Builtin.List.listTooLong
  exact decide_eq_false (by omega)
end
section
variable {X : Cx}
def rAppend : V → List V → Hp → VK → Prop := fun x vs H Q => ∃ l xs y, x = .ref l ∧ vs = [y] ∧ H l = some (.lst xs) ∧ xs.length < sizeLine ∧ Q .non (upd H l (.lst (xs ++ [y])))
theorem mt_append : MtM X "list.append" rAppend := by
  intro pins s σ H x vs v us Q I rx rv h
  obtain ⟨l, xs, y, rfl, rfl, hH, hz, q⟩ := h
  cases rx
  obtain ⟨u, rfl, ru⟩ := rv.one
  obtain ⟨z, its, n, r, hl, e⟩ := I.lstM hH
  refine call_meets F.slot_list_append ⟨_, e, rfl⟩ F.entry_list_append (F.args_list_append_2 _ _) (PySem.list_append l its.toArray n u (by rw [List.size_toArray]; omega)) ⟨e, ?_⟩
  refine ⟨.non, _, I.lset (its' := its ++ [u]) hH e (by simp) (r.append (.cons ru .nil)) ?_, rfl, q⟩
  rw [List.length_append, List.length_singleton]
  omega
def rExtend : V → List V → Hp → VK → Prop := fun x vs H Q => ∃ l b xs zs, x = .ref l ∧ vs = [.ref b] ∧ H l = some (.lst xs) ∧ H b = some (.lst zs) ∧ xs.length + zs.length ≤ sizeLine ∧ Q .non (upd H l (.lst (xs ++ zs)))
theorem mt_extend : MtM X "list.extend" rExtend := by
  intro pins s σ H x vs v us Q I rx rv h
  obtain ⟨l, b, xs, zs, rfl, rfl, hH, hB, hz, q⟩ := h
  cases rx
  obtain ⟨u, rfl, ru⟩ := rv.one
  cases ru
  obtain ⟨z, its, n, r, hl, e⟩ := I.lstM hH
  obtain ⟨z2, its2, n2, r2, hl2, e2⟩ := I.lstM hB
  have hsz : its.toArray.size + its2.toArray.size ≤ sizeLine := by rw [List.size_toArray, List.size_toArray]; omega
  have hlong : ¬ (!its.toArray.isEmpty && Builtin.List.listTooLong (its.toArray.size + its2.toArray.size)) = true := by
    rw [notLongL hsz, Bool.and_false]
    exact Bool.false_ne_true
  refine call_meets F.slot_list_extend ⟨_, e, rfl⟩ F.entry_list_extend (F.args_list_extend_2 _ _)
    (AutoSeq1.list_extend_list_list_0 l its.toArray n b its2.toArray n2 hlong (by rw [List.size_toArray]; omega) (by omega)) ⟨e, e2, ?_⟩
  refine ⟨.non, _, I.lset (its' := its ++ its2) hH e (by simp) (r.append r2) ?_, rfl, q⟩
  rw [List.length_append]
  omega
def rPop : V → List V → Hp → VK → Prop := fun x vs H Q => ∃ l xs y, x = .ref l ∧ vs = [] ∧ H l = some (.lst xs) ∧ xs[xs.length - 1]? = some y ∧ Q y (upd H l (.lst xs.dropLast))
theorem mt_pop : MtM X "list.pop" rPop := by
  intro pins s σ H x vs v us Q I rx rv h
  obtain ⟨l, xs, y, rfl, rfl, hH, hy, q⟩ := h
  cases rx
  have hus := rv.zero
  subst hus
  obtain ⟨z, its, n, r, hl, e⟩ := I.lstM hH
  obtain ⟨u, hu, ru⟩ := r.get hy
  have hy' : its.toArray[its.toArray.size - 1]? = some u := by
    show its.toArray[its.length - 1]? = some u
    rw [← Array.getElem?_toList, ← hl]
    exact hu
  refine call_meets F.slot_list_pop ⟨_, e, rfl⟩ F.entry_list_pop (F.args_list_pop_1 _) (MeetsSeq.list_pop_last l its.toArray n u hy' (by rw [List.size_toArray]; omega)) ⟨e, ?_⟩
  refine ⟨y, _, I.lset (its' := its.dropLast) hH e ?_ r.dropLast ?_, ru, q⟩
  · show its.toArray.eraseIdxIfInBounds (its.toArray.size - 1) = its.dropLast.toArray
    rw [List.size_toArray, List.eraseIdxIfInBounds_toArray, erase_last]
  · rw [List.length_dropLast]
    omega
def rPopAt : V → List V → Hp → VK → Prop := fun x vs H Q => ∃ l xs i k y, x = .ref l ∧ vs = [.int i] ∧ H l = some (.lst xs) ∧ -(2 ^ 63) ≤ i ∧ i < 2 ^ 63 ∧ seqIndex? i xs.length = some k ∧ xs[k]? = some y ∧ Q y (upd H l (.lst (xs.eraseIdx k)))
def rReverse : V → List V → Hp → VK → Prop := fun x vs H Q => ∃ l xs, x = .ref l ∧ vs = [] ∧ H l = some (.lst xs) ∧ Q .non (upd H l (.lst xs.reverse))
def rClear : V → List V → Hp → VK → Prop := fun x vs H Q => ∃ l xs, x = .ref l ∧ vs = [] ∧ H l = some (.lst xs) ∧ Q .non (upd H l (.lst []))
def rCat : R2 := fun x y H Q => ∃ l b xs zs, x = .ref l ∧ y = .ref b ∧ H l = some (.lst xs) ∧ H b = some (.lst zs) ∧ xs.length + zs.length ≤ sizeLine ∧ ∀ p, H p = none → Q (.ref p) (upd H p (.lst (xs ++ zs)))
def rRep : R2 := fun x y H Q => ∃ l k xs, x = .ref l ∧ y = .int k ∧ H l = some (.lst xs) ∧ -(2 ^ 63) ≤ k ∧ k < 2 ^ 63 ∧ xs.length * k.toNat ≤ sizeLine ∧
  ∀ p, H p = none → Q (.ref p) (upd H p (.lst (List.replicate k.toNat xs).flatten))
theorem len_rep {α : Type} (xs : List α) (k : Nat) : (List.replicate k xs).flatten.length = k * xs.length := by
  induction k with
  | zero => simp
  | succ k ih => rw [List.replicate_succ, List.flatten_cons, List.length_append, ih, Nat.succ_mul, Nat.add_comm]
theorem op_rep : OpR X (binaryOp .Mult) rRep := by
  intro pins s σ H x y v u Q I rx ry h
  obtain ⟨l, k, xs, rfl, rfl, hH, h1, h2, hz, q⟩ := h
  cases rx
  obtain ⟨t, rfl⟩ := ry
  obtain ⟨z, its, n, r, hl, e⟩ := I.lstM hH
  have hlen : its.toArray.size * k.toNat ≤ sizeLine := by rw [List.size_toArray, ← hl]; exact hz
  have hcap : ¬ its.toArray.size * k.toNat > (2 ^ 63 - 1) / 8 := by
    have : (sizeLine : Nat) ≤ (2 ^ 63 - 1) / 8 := by decide
    omega
  have hfit : ¬ (!Builtin.List.listFitsIndex k) = true := by
    rw [fitsIndex_both h1 h2]
    exact Bool.false_ne_true
  have hlong : ¬ Builtin.List.listTooLong (its.toArray.size * k.toNat) = true := by
    rw [notLongL hlen]
    exact Bool.false_ne_true
  have hnew : List.foldl (fun x1 x2 => x1 ++ x2) #[] (List.replicate (if its.toArray.isEmpty = true then 0 else k.toNat) its.toArray) = (List.replicate k.toNat its).flatten.toArray := by
    have f0 : ∀ m : Nat, List.foldl (fun x1 x2 => x1 ++ x2) #[] (List.replicate m its.toArray) = (List.replicate m its).flatten.toArray := fun m => by
      have := foldl_rep its m []
      rw [List.nil_append] at this
      exact this
    rw [f0]
    cases its with
    | nil => simp
    | cons a r' => rw [if_neg (by simp)]
  refine wpAny_binaryOp_repeat_ref (T := "list") (U := "int") (by decide) ⟨_, e, rfl⟩ (fun s' => typeIs_int s' k t) noFill_list_mul F.fills_int_mul F.slot_int_rmul repeat_list F.slot_int_index.lookup
    (call_meets F.slot_int_rmul (typeIs_int s k t) F.entry_int_rmul (F.args_int_rmul_2 _ _) (int___rmul___int_list k t l its.toArray n)
      ⟨e, rfl, ⟨_, e, rfl⟩, call_meets F.slot_list_mul ⟨_, e, rfl⟩ F.entry_list_mul (F.args_list_mul_2 _ _) (AutoListH.list___mul___list_int_3 l its.toArray n k t hfit hcap hlong) ⟨e, ?_⟩⟩)
  rw [hnew]
  exact ⟨.ref _, _, I.lnew (t' := s.toks) (r.rep k.toNat) (by rw [len_rep, Nat.mul_comm]; exact hz), rfl, q _ I.fresh⟩
end
section
variable {prog : Program} {w : World} {A : Around} {E : Value → Shared → Prop} {s : Shared}
end
section
variable {X : Cx}
end
end L2
namespace Att
open PySem PySem.W PySem.Calls PyProof.Rows
theorem ints_of_wellAll {P : Params} {h : Heap} : ∀ (ns : List Int) (vs : List Value), WellAll P h vs (ns.map WData.int) → IntsAre vs ns := by
  intro ns
  induction ns with
  | nil =>
    intro vs w
    rw [List.map_nil] at w
    cases w
    exact .nil
  | cons n ns ih =>
    intro vs w
    rw [List.map_cons] at w
    cases w with
    | cons a b =>
      cases a
      exact .cons _ _ (ih _ b)
theorem script_of {l : OpenLaw} {n : Nat} (hn : l.most = some n) {P : Params} {h : Heap} {args : List WData} {vals : List Value}
    (hpre : l.row.toRowW.claim.pre args = true) (hwl : WellAll P h vals args) :
    ∃ a vs ns, vals = [Value.ref a] ∧ args = [WData.list (ns.map WData.int)] ∧ h.get? a = some { cls := .type "list", data := .seq vs.toArray } ∧ IntsAre vs ns ∧ ns.length ≤ n := by
  have hsh : WShape.hasAll [] args [.list .int] = true := (pre_splitW hpre).1
  have hc : l.pre.holds [] { args := args } = true := (pre_splitW hpre).2
  obtain ⟨d, r, rfl, h1, h2⟩ := hasAllW_cons hsh
  obtain rfl := hasAllW_nil h2
  obtain ⟨xs, rfl, h3⟩ := hasW_list h1
  obtain ⟨ns, rfl⟩ := items_int h3
  have hlen : ns.length ≤ n := by
    unfold OpenLaw.pre at hc
    have h4 : (WTm.not (.lt (.lit (.int (n : Int))) (.len (.arg 0)))).holds [] { args := [.list (ns.map .int)] } = true := by
      have h4 := (holds_andW hc).1
      rw [hn] at h4
      exact h4
    have h5 := condW_of h4 (w_not (w_lt w_lit (w_len_list (w_arg rfl))))
    rw [List.length_map] at h5
    refine Nat.le_of_not_lt fun q => ?_
    have q' : (n : Int) < ((ns.length : Nat) : Int) := by omega
    first
      | (rw [decide_eq_true q'] at h5; exact absurd h5 (by decide))
      | (simp at h5; omega)
  cases hwl with
  | cons w1 w2 =>
    cases w2
    cases w1 with
    | list ho hall => exact ⟨_, _, ns, rfl, rfl, ho, ints_of_wellAll ns _ hall, hlen⟩
theorem post_true (l : OpenLaw) (args : List WData) : l.row.toRowW.claim.post args (.bool true) args = true :=
  postW_of (r := l.row.toRowW) (X := (true == true))
    (show WShape.has [] (.bool true) .bool = true by first | rfl | decide | simp [WShape.has, WShape.arms, WShape.armsAll])
    (show (WTm.eq .res (.lit (.bool true))).value [] { args := args, res := some (.bool true), after := args } = some (.bool (true == true)) from w_eq_bool (w_res rfl) w_lit) rfl
theorem attach_call {l : OpenLaw} {n : Nat} {q : Program} {loose : List Str} {XP : (Str → Option Value) → Heap → Prop} {YP : World → Heap → Prop} {d : DefRec}
    (hn : l.most = some n) (hdf : d.params.defaults = [])
    (call : ∀ (w : World) (s₀ s₁ : Shared) (mg mb : Str → Option Value) (fa : Addr) (o : Obj) (pm cd doc : Value) (a : Addr) (vs : List Value) (ns : List Int),
      Ground q loose [] XP w s₀ mg mb s₁.heap → YP w s₁.heap →
      s₁.heap.get? fa = some o → o.data = .func (docDef d.name d.params d.body d.scope pm cd doc) → s₁.heap.CodeRec cd d.name → mg d.name = some (.ref fa) →
      s₁.heap.get? a = some { cls := .type "list", data := .seq vs.toArray } → IntsAre vs ns → ns.length ≤ n → s₁.gens = #[] →
      codeAny (model l.prog w) callerA (.call (.ref fa) ⟨[.ref a], []⟩) (fun r s' => r = .ok (.ret (.bool true)) ∧ OldK s₁.heap s'.heap ∧ s'.os = s₁.os ∧ AllBare s'.gens) s₁) :
    WalkO q loose XP YP l.row.toRowW d [] (fun f vs => PySem.call f vs) := by
  intro w s₀ s₁ mg mb G Y fa o pm cd doc dV kV ho hd hcd hD hmg hg args vals as hpre hlay hrd hwl hlo
  obtain rfl : dV = .none := Dflts.none hD hdf
  obtain rfl : kV = .none := Dflts.noKw hD
  obtain ⟨a, vs, ns, rfl, rfl, hobj, hints, hlen⟩ := script_of hn hpre hwl
  refine enter_call (codeAny_mono (call w s₀ s₁ mg mb fa o pm cd doc a vs ns G Y ho (fd_plain hd) hcd hmg hobj hints hlen hg) fun r s' hq => ?_)
  obtain ⟨rfl, h2, h3, h4⟩ := hq
  exact ⟨.inl ⟨.bool true, .bool true, [], rfl, fun _ => rfl, .bool true, post_true l _, fun _ => ⟨List.Pairwise.nil, fun _ hm => (nomatch hm)⟩⟩, h2, h3, h4⟩
section
variable {prog : Program} {w : World} {A : Around} {E : Value → Shared → Prop} {s : Shared} {K : Frag}
def noObjs (h : Heap) : Heap := { h with objs := #[] }
def ledger (h : Heap) (L d : Addr) : List (Addr × Obj) := (List.range h.objs.size).filterMap fun a => if a = L ∨ a = d then none else (h.get? a).map fun o => (a, o)
end
end Att
namespace L2
open PySem PySem.Spec PyProof.Rows
theorem vals_ints : ∀ {vs : List Value} {ns : List Int}, IntsAre vs ns → Vals (ns.map V.int) vs
  | _, _, .nil => .nil
  | _, _, .cons n t h => .cons ⟨t, rfl⟩ (vals_ints h)
def Only (H : Hp) : Prop := ∀ b, H b = none ∨ ∃ o xs, H b = some (.frz o (.lst xs))
theorem law_call {P : Program} {w : World} {K : PySem.W.Frag} {mg mb : Str → Option Value} {CX : CXT} {k : Nat} {fa a : Addr} {fd : FuncData} {x : Str} {sp : Sp} {s₁ : Shared} {vs : List Value} {ns : List Int}
    (KX : K.In s₁.heap) (hns : s₁.heap.Ns mainGlobals mg) (hb : s₁.heap.Ns builtinsNs mb) (hbb : ∀ x : Str, x ≠ "__name__" → mb x = bootBuiltins x) (hlim : s₁.heap.NoLimit) (hg : s₁.gens = #[])
    (ha : s₁.heap.get? a = some { cls := .type "list", data := .seq vs.toArray }) (hi : IntsAre vs ns) (hl : ns.length ≤ sizeLine) (hr : Room k callerA)
    (F : ∀ base : Heap, K.In base → base.Ns mainGlobals mg → FnOk P w K mg base CX k fa fd [x] sp) (hbind : ∀ (s : Shared) (u : Value), BindsTo s fd ⟨[u], []⟩ [(x, u)])
    (hsp : ∀ H : Hp, Only H → SqL K H a (ns.map V.int) → sp [.ref a] H (fun v _ => v = .bl true) fun _ _ _ => False)
    (hCX : ∀ H e s', CX [] H s₁ (fun _ _ _ => False) e s' → False) :
    codeAny (model P w) callerA (.call (.ref fa) ⟨[.ref a], []⟩) (fun r s' => r = .ok (.ret (.bool true)) ∧ OldK s₁.heap s'.heap ∧ s'.os = s₁.os ∧ AllBare s'.gens) s₁ := by
  have rv := vals_ints hi
  have lenV := hi.length
  have core : ∀ H : Hp, Only H → SqL K H a (ns.map V.int) → HOk P w H s₁.heap → (∀ b, H b ≠ none → b = a) → (H a ≠ none → K.lookup a = none) →
      codeAny (model P w) callerA (.call (.ref fa) ⟨[.ref a], []⟩) (fun r s' => r = .ok (.ret (.bool true)) ∧ OldK s₁.heap s'.heap ∧ s'.os = s₁.os ∧ AllBare s'.gens) s₁ := by
    intro H hO hS hok hA hK
    have base_of : ∀ {b : Addr} {o : Obj}, s₁.heap.get? b = some o → H b = none → (hidT s₁.heap H).get? b = some o := fun e n => hidT_get e n
    have noA : ∀ {b : Addr} {o : Obj} {es : Array DictEntry} {ep : Nat}, s₁.heap.get? b = some o → o.data = .dict es ep → H b = none := fun {b o es ep} e d => by
      cases q : H b with
      | none => rfl
      | some u =>
        have e' : b = a := hA b (by rw [q]; simp)
        subst e'
        rw [ha] at e; cases e
        have d' : Data.seq vs.toArray _ = Data.dict es ep := d
        cases d'
    have nsK : ∀ {b : Addr} {m : Str → Option Value}, s₁.heap.Ns b m → (hidT s₁.heap H).Ns b m := fun {b m} ⟨o, es, ep, e, d, r⟩ => ⟨o, es, ep, base_of e (noA e d), d, r⟩
    have hKb : K.In (hidT s₁.heap H) := fun b o e => base_of (KX b o e) (by
      cases q : H b with
      | none => rfl
      | some u =>
        have e' : b = a := hA b (by rw [q]; simp)
        subst e'
        rw [hK (by rw [q]; simp)] at e; cases e)
    have hM : Mod K mg (hidT s₁.heap H) := ⟨hKb, nsK hns, ⟨mb, nsK hb, hbb⟩, let ⟨mc, h1, h2⟩ := hlim; ⟨mc, nsK h1, h2⟩⟩
    have e0 : Env0 P w K mg (hidT s₁.heap H) callerA [] s₁ H := ⟨rfl, hM, fun b o e => of_hidT e, Nat.le_of_eq (hidT_size _ _), trivial, fun b hb => absurd (show b ∈ ([] : List Addr) from hb) (by simp), hok, .of_eq hg⟩
    refine codeAny_mono ((F _ hKb (nsK hns)).run callerA [] s₁ H ⟨[.ref a], []⟩ [.ref a] [.ref a] _ _ hr e0 (hbind s₁ (.ref a)) (.cons rfl .nil) (hsp H hO hS)) fun r s' h => ?_
    cases r with
    | error e => exact (hCX H e s' h).elim
    | ok fl =>
      cases fl with
      | next => exact False.elim h
      | brk => exact False.elim h
      | cont => exact False.elim h
      | ret u =>
        obtain ⟨v, H', os, bare, un, hok', r', q⟩ := h
        have q' : v = .bl true := q
        subst q'
        obtain rfl : u = Value.bool true := r'
        refine ⟨rfl, OldK.of_keep fun b o e => ?_, os, bare⟩
        cases q : H b with
        | none => exact un.keep b o e q (by intro z; exact absurd (show b ∈ ([] : List Addr) from z) (by simp)) (by simp)
        | some u =>
          rcases hO b with z | ⟨ob, xs, z⟩
          · rw [q] at z; cases z
          · have z2 := un.frzs b ob _ z
            obtain ⟨e1, _⟩ := hok b _ z
            obtain ⟨e2, _⟩ := hok' b _ z2
            rw [e] at e1; cases e1
            exact e2
  cases hk : K.lookup a with
  | some o =>
    have e := KX a o hk
    rw [ha] at e
    cases e
    refine core (fun _ => none) (fun _ => .inl rfl) (.inr ⟨_, vs.toArray, _, hk, rfl, rfl, rfl, by rw [List.size_toArray, lenV]; exact hl, by simpa using rv⟩) (fun b u z => by have z' : (none : Option HO) = some u := z; cases z') (fun b z => absurd rfl z) fun z => absurd rfl z
  | none =>
    refine core (fun b => if b = a then some (.frz { cls := .type "list", data := .seq vs.toArray } (.lst (ns.map V.int))) else none) (fun b => ?_) (.inl (.inr ⟨{ cls := .type "list", data := .seq vs.toArray }, if_pos rfl⟩)) (fun b u z => ?_) (fun b z => ?_) fun _ => hk
    · by_cases hb : b = a
      · exact .inr ⟨_, _, if_pos hb⟩
      · exact .inl (if_neg hb)
    · by_cases hb : b = a
      · have z' := (if_pos hb).symm.trans z
        cases z'
        subst hb
        exact ⟨ha, by rw [List.length_map]; exact hl, vs, _, rv, ha⟩
      · have z' := (if_neg hb).symm.trans z
        cases z'
    · by_cases hb : b = a
      · exact hb
      · exact absurd (if_neg hb) z
open PySem PySem.Spec PyProof.Rows
abbrev KOf {K : PySem.W.Frag} {h : Heap} (_ : K.In h) : PySem.W.Frag := K
theorem walk_of {l : PySem.W.OpenLaw} {n k : Nat} {q : Program} {loose : List Str} {XP : (Str → Option Value) → Heap → Prop} {YP : World → Heap → Prop} {d : DefRec} {K : Params → PySem.W.Frag} {CX : World → CXT} {sp : World → Sp} {x : Str}
    (hn : l.most = some n) (hn2 : n ≤ sizeLine) (hdf : d.params.defaults = []) (hr : Room k callerA)
    (hY : ∀ (w : World) (h : Heap), YP w h → (K w.params).In h)
    (F : ∀ (w : World) (mg : Str → Option Value) (fa : Addr) (h : Heap), (K w.params).In h → h.Ns mainGlobals mg → mg d.name = some (.ref fa) →
      ∃ fd : FuncData, (∀ (s : Shared) (u : Value), BindsTo s fd ⟨[u], []⟩ [(x, u)]) ∧
        ∀ base : Heap, (K w.params).In base → base.Ns mainGlobals mg → FnOk l.prog w (K w.params) mg base (CX w) k fa fd [x] (sp w))
    (hsp : ∀ (w : World) (H : Hp) (a : Addr) (ns : List Int), ns.length ≤ n → Only H → SqL (K w.params) H a (ns.map V.int) → sp w [.ref a] H (fun v _ => v = .bl true) fun _ _ _ => False)
    (hCX : ∀ (w : World) (H : Hp) (s : Shared) (e : Value) (s' : Shared), CX w [] H s (fun _ _ _ => False) e s' → False) :
    PySem.W.WalkO q loose XP YP l.row.toRowW d [] (fun f vs => PySem.call f vs) := by
  refine Att.attach_call hn hdf fun w s₀ s₁ mg mb fa o pm cd doc a vs ns G Y ho hd hcd hmg hobj hints hlen hg => ?_
  have KX := hY w _ Y
  obtain ⟨fd, hb, hF⟩ := F w mg fa _ KX G.T.g hmg
  exact law_call KX G.T.g G.T.b G.T.builtins G.T.nolimit hg hobj hints (Nat.le_trans hlen hn2) hr hF hb (fun H hO hS => hsp w H a ns hlen hO hS) fun H e s' => hCX w H s₁ e s'
theorem walk_ofK {l : PySem.W.OpenLaw} {n k : Nat} {q : Program} {loose : List Str} {XP : (Str → Option Value) → Heap → Prop} {YP : World → Heap → Prop} {d : DefRec} {K : Params → PySem.W.Frag} {CX : CXT} {sp : PySem.W.Frag → Sp} {x : Str}
    (hn : l.most = some n) (hn2 : n ≤ sizeLine) (hdf : d.params.defaults = []) (hr : Room k callerA)
    (hY : ∀ (w : World) (h : Heap), YP w h → (K w.params).In h)
    (F : ∀ (w : World) (mg : Str → Option Value) (fa : Addr) (h : Heap), (K w.params).In h → h.Ns mainGlobals mg → mg d.name = some (.ref fa) →
      ∃ fd : FuncData, (∀ (s : Shared) (u : Value), BindsTo s fd ⟨[u], []⟩ [(x, u)]) ∧
        ∀ base : Heap, (K w.params).In base → base.Ns mainGlobals mg → FnOk l.prog w (K w.params) mg base CX k fa fd [x] (sp (K w.params)))
    (hsp : ∀ (K : PySem.W.Frag) (H : Hp) (a : Addr) (ns : List Int), ns.length ≤ n → Only H → SqL K H a (ns.map V.int) → sp K [.ref a] H (fun v _ => v = .bl true) fun _ _ _ => False)
    (hCX : ∀ (H : Hp) (s : Shared) (e : Value) (s' : Shared), CX [] H s (fun _ _ _ => False) e s' → False) :
    PySem.W.WalkO q loose XP YP l.row.toRowW d [] (fun f vs => PySem.call f vs) :=
  walk_of (K := K) (CX := fun _ => CX) (sp := fun w => sp (K w.params)) hn hn2 hdf hr hY F (fun w H a ns h1 h2 h3 => hsp (K w.params) H a ns h1 h2 h3) fun _ H s e s' => hCX H s e s'
open PySem PySem.Spec PyProof.Rows
def inClass (s : Stmt) (j : Nat) : Stmt := match s with
  | .ClassDef _ _ _ body _ _ _ _ _ _ _ => body.getD j (.Pass ⟨0, 0, 0, 0⟩)
  | _ => .Pass ⟨0, 0, 0, 0⟩
def defArgs (s : Stmt) : Arguments := match s with
  | .FunctionDef _ a _ _ _ _ _ _ _ _ => a
  | _ => { posonlyargs := [], args := [], vararg := none, kwonlyargs := [], kw_defaults := [], kwarg := none, defaults := [] }
def defBody (s : Stmt) : List Stmt := match s with
  | .FunctionDef _ _ b _ _ _ _ _ _ _ => b
  | _ => []
def defScope (s : Stmt) : Scope := match s with
  | .FunctionDef _ _ _ _ _ _ sc _ _ _ => sc
  | _ => { kind := .function, names := [], isGenerator := false, isCoroutine := false }
abbrev CX0 : CXT := fun _ _ _ _ _ _ => False
abbrev E0 : XK := fun _ _ _ => False
theorem pass0 {X : Cx} : Passes CX0 X E0 := fun _ _ _ _ _ _ _ h => h.elim
structure Fun (K : PySem.W.Frag) (x qual : Str) (st : Stmt) (f : Addr) (fd : FuncData) : Prop where
  ex : ∃ (oc : Value) (od : Option Addr) (kV doc pm : Value) (an : Option Addr) (cdv ct : Value) (osl : Array (Option Value)),
    fd = PySem.W.fnOf x qual (defArgs st) (defBody st) (defScope st) .none kV doc pm an cdv ct ∧ K.lookup f = some ⟨oc, od, .func fd, osl⟩ ∧ PySem.W.codeIn K cdv qual = true
  kp : PySem.W.keepIn K (.ref f) = true
section
variable {P : Program} {w : World} {K : PySem.W.Frag} {mg : Str → Option Value} {base : Heap}
theorem Fun.ok {x qual : Str} {st : Stmt} {f : Addr} {fd : FuncData} {N ps : List Str} {k : Nat} {sp : Sp} (F : Fun K x qual st f fd) (S : FnScope N ps (defScope st)) (len : ∀ vs H Q E, sp vs H Q E → vs.length = ps.length)
    (hbody : ∀ (cdv : Value) (A : Around) (outer : List Env) (s : Shared) (H : Hp) (vs : List V) (Q : VK) (E : XK), Room k (A.deeper (envOfC qual (defScope st) s.heap.objs.size f cdv)) → sp vs H Q E →
      ∃ t, PSs (cxOf CX0 P w K mg base N qual (defScope st) f cdv A outer s H E).nox (defBody st) t ∧ t { nx := fun _ H' => Q .non H', rt := Q } (start N vs) H) : FnOk P w K mg base CX0 (k + 1) f fd ps sp := by
  obtain ⟨oc, od, kV, doc, pm, an, cdv, ct, osl, rfl, lk, hcd⟩ := F.ex
  refine fn_of lk hcd S len fun A outer s H vs Q E hr hsp => ?_
  obtain ⟨t, h, q⟩ := hbody cdv A outer s H vs Q E hr hsp
  exact ⟨t, h.nox, q⟩
theorem Fun.binds {x qual : Str} {st : Stmt} {f : Addr} {fd : FuncData} {ps : List Str} (F : Fun K x qual st f fd)
    (h : ∀ (kV doc pm : Value) (an : Option Addr) (cdv ct : Value) (us : List Value), us.length = ps.length → bindArgs (PySem.W.fnOf x qual (defArgs st) (defBody st) (defScope st) .none kV doc pm an cdv ct) ⟨us, []⟩ = pure (ps.zip us)) : Binds K fd ps [] := by
  obtain ⟨oc, od, kV, doc, pm, an, cdv, ct, osl, rfl, lk, hcd⟩ := F.ex
  exact .all (h kV doc pm an cdv ct)
theorem fun_mk {x qual : Str} {st : Stmt} {f : Addr} {oc : Value} {od an : Option Addr} {osl : Array (Option Value)} {kV doc pm cdv ct : Value} (l : K.lookup f = some ⟨oc, od, .func (PySem.W.fnOf x qual (defArgs st) (defBody st) (defScope st) .none kV doc pm an cdv ct), osl⟩)
    (c : PySem.W.codeIn K cdv qual = true) (k : PySem.W.keepIn K (.ref f) = true) : Fun K x qual st f (PySem.W.fnOf x qual (defArgs st) (defBody st) (defScope st) .none kV doc pm an cdv ct) := ⟨⟨oc, od, kV, doc, pm, an, cdv, ct, osl, rfl, l, c⟩, k⟩
end
theorem small1000 {n : Nat} (h : n ≤ 1000) : n < sizeLine := Nat.lt_of_le_of_lt h (by decide)
section
variable {X : Cx}
theorem pv (i : Nat) {x : Str} {pos : Pos} (hN : X.N[i]? = some x := by rfl) (hv : Vis X.env.scope x := by first | exact Or.inl rfl | exact Or.inr (Or.inl rfl) | exact Or.inr (Or.inr rfl)) (hd : (x == ("__debug__" : Str)) = false := by decide)
    (hcd : (x == ("__classdict__" : Str)) = false := by decide) : PE X (.Name x pos) (tVar i) := pe_var hN hv hd hcd
end
theorem iteF {A B : Prop} (h : B) : if false = true then A else B := by
  rw [if_neg Bool.false_ne_true]
  exact h
theorem iteT {A B : Prop} (h : A) : if true = true then A else B := by
  rw [if_pos rfl]
  exact h
theorem iteNS {c A B : Prop} [Decidable c] (hc : c) (h : B) : if (!decide c) = true then A else B := by
  rw [decide_eq_true hc]
  exact iteF h
def Same (H H' : Hp) : Prop := ∀ b o, H b = some o → H' b = some o
theorem Same.refl (H : Hp) : Same H H := fun _ _ h => h
theorem Same.trans {H H1 H2 : Hp} (a : Same H H1) (b : Same H1 H2) : Same H H2 := fun c o h => b c o (a c o h)
theorem Same.free {H H' : Hp} (e : Same H H') {l : Addr} (h : H' l = Option.none) : H l = Option.none := by
  cases q : H l with
  | none => rfl
  | some o =>
    rw [e l o q] at h
    cases h
theorem Same.seq {K : PySem.W.Frag} {H H' : Hp} {a : Addr} {xs : List V} (e : Same H H') (h : SqL K H a xs) : SqL K H' a xs := by
  rcases h with (h | ⟨o, h⟩) | h
  · exact .inl (.inl (e _ _ h))
  · exact .inl (.inr ⟨o, e _ _ h⟩)
  · exact .inr h
open PySem PySem.Spec PyProof.Rows
theorem closure_is {scope : Scope} {env : Env} (h : ∀ y ∈ scope.names, y.2 = .free → ∃ c, env.cells.lookup y.1 = some c) :
    ∃ cl, closureFor scope env = pure cl ∧ (∀ x c, cl.lookup x = some c → env.cells.lookup x = some c ∧ (x, NameKind.free) ∈ scope.names) ∧
      ∀ x, (x, NameKind.free) ∈ scope.names → cl.lookup x = env.cells.lookup x := by
  have key : ∀ (l : List (Str × NameKind)) (cs : List (Str × Addr)), (∀ y ∈ l, y.2 = .free → ∃ c, env.cells.lookup y.1 = some c) →
      ∃ cl, (forIn l cs (fun (x : Str × NameKind) (cs : List (Str × Addr)) => do
          if x.2 == .free then
            let c ← cellOf env x.1
            pure (ForInStep.yield ((x.1, c) :: cs))
          else pure (ForInStep.yield cs)) : Sem (List (Str × Addr))) = pure cl ∧
        (∀ x c, cl.lookup x = some c → (env.cells.lookup x = some c ∧ (x, NameKind.free) ∈ l) ∨ cs.lookup x = some c) ∧
        ∀ x, ((x, NameKind.free) ∈ l → cl.lookup x = env.cells.lookup x) ∧ ((cs.lookup x = env.cells.lookup x) → cl.lookup x = env.cells.lookup x) := by
    intro l
    induction l with
    | nil => intro cs _; exact ⟨cs, rfl, fun x c e => .inr e, fun x => ⟨fun z => absurd z (by simp), fun z => z⟩⟩
    | cons y r ih =>
      intro cs hl
      obtain ⟨n, k⟩ := y
      by_cases hk : k = .free
      · subst hk
        obtain ⟨c, hc⟩ := hl (n, .free) List.mem_cons_self rfl
        obtain ⟨cl, e1, e2, e3⟩ := ih ((n, c) :: cs) fun y hy => hl y (List.mem_cons_of_mem _ hy)
        refine ⟨cl, ?_, fun x d e => ?_, fun x => ⟨fun z => ?_, fun z => ?_⟩⟩
        · rw [List.forIn_cons]
          simp only [beq_self_eq_true, if_true, cellOf, hc]
          exact e1
        · rcases e2 x d e with ⟨z1, z2⟩ | z
          · exact .inl ⟨z1, List.mem_cons_of_mem _ z2⟩
          · rw [List.lookup_cons] at z
            by_cases hx : x == n
            · rw [hx] at z
              have hx' : x = n := by simpa using hx
              subst hx'
              refine .inl ⟨?_, List.mem_cons_self⟩
              rw [hc]; exact z
            · have hx' : (x == n) = false := by simpa using hx
              rw [hx'] at z
              exact .inr z
        · rcases List.mem_cons.mp z with z | z
          · injection z with z1 _
            subst z1
            refine (e3 x).2 ?_
            rw [List.lookup_cons, hc]
            simp
          · exact (e3 x).1 z
        · by_cases hx : x = n
          · subst hx
            refine (e3 x).2 ?_
            rw [List.lookup_cons, hc]
            simp
          · refine (e3 x).2 ?_
            rw [List.lookup_cons]
            have hx' : (x == n) = false := by simpa using hx
            rw [hx']
            exact z
      · obtain ⟨cl, e1, e2, e3⟩ := ih cs fun y hy => hl y (List.mem_cons_of_mem _ hy)
        have hb : (k == NameKind.free) = false := by simpa using hk
        refine ⟨cl, ?_, fun x d e => ?_, fun x => ⟨fun z => ?_, (e3 x).2⟩⟩
        · rw [List.forIn_cons]
          simp only [hb, Bool.false_eq_true, if_false]
          exact e1
        · rcases e2 x d e with ⟨z1, z2⟩ | z
          · exact .inl ⟨z1, List.mem_cons_of_mem _ z2⟩
          · exact .inr z
        · rcases List.mem_cons.mp z with z | z
          · injection z with _ z2
            exact absurd z2.symm hk
          · exact (e3 x).1 z
  obtain ⟨cl, e1, e2, e3⟩ := key scope.names [] h
  refine ⟨cl, ?_, fun x c e => ?_, fun x z => (e3 x).1 z⟩
  · unfold closureFor
    have := e1
    simpa using this
  · rcases e2 x c e with z | z
    · exact z
    · simp at z
theorem lookup_relabel {env : Env} (hk : env.scope.kind = .function) : ∀ {names : List (Str × NameKind)} {x : Str} {k : NameKind}, names.lookup x = some k → k ≠ .free →
    (names.map fun (n, k) => if (k == NameKind.free && env.scope.kind == .function && env.kindOf n == some .cell) then (n, NameKind.cell) else (n, k)).lookup x = some k
  | [], _, _, h, _ => by simp at h
  | (n, k') :: r, x, k, h, hf => by
    have ih := @lookup_relabel env hk r x k
    show List.lookup x ((if (k' == NameKind.free && env.scope.kind == .function && env.kindOf n == some .cell) = true then (n, NameKind.cell) else (n, k')) :: _) = _
    cases hx : x == n with
    | true =>
      simp only [List.lookup_cons, hx] at h
      cases h
      have : (k' == NameKind.free) = false := by simpa using hf
      simp [List.lookup_cons, hx, this]
    | false =>
      simp only [List.lookup_cons, hx] at h
      by_cases hc : (k' == NameKind.free && env.scope.kind == .function && env.kindOf n == some .cell) = true
      · rw [if_pos hc]; simp only [List.lookup_cons, hx]; exact ih h hf
      · rw [if_neg hc]; simp only [List.lookup_cons, hx]; exact ih h hf
theorem lookup_relabel_free {env : Env} (hk : env.scope.kind = .function) : ∀ {names : List (Str × NameKind)} {x : Str}, names.lookup x = some .free → env.kindOf x = some .cell →
    (names.map fun (n, k) => if (k == NameKind.free && env.scope.kind == .function && env.kindOf n == some .cell) then (n, NameKind.cell) else (n, k)).lookup x = some .cell
  | [], _, h, _ => by simp at h
  | (n, k') :: r, x, h, hc => by
    have ih := @lookup_relabel_free env hk r x
    show List.lookup x ((if (k' == NameKind.free && env.scope.kind == .function && env.kindOf n == some .cell) = true then (n, NameKind.cell) else (n, k')) :: _) = _
    cases hx : x == n with
    | true =>
      simp only [List.lookup_cons, hx] at h
      cases h
      have hxn : x = n := by simpa using hx
      subst hxn
      simp [List.lookup_cons, hk, hc]
    | false =>
      simp only [List.lookup_cons, hx] at h
      by_cases hd : (k' == NameKind.free && env.scope.kind == .function && env.kindOf n == some .cell) = true
      · rw [if_pos hd]; simp only [List.lookup_cons, hx]; exact ih h hc
      · rw [if_neg hd]; simp only [List.lookup_cons, hx]; exact ih h hc
def cxComp (X : Cx) (Nc : List Str) (scope : Scope) (cl : List (Str × Addr)) (C : Addr) (fp : List Addr) (s : Shared) (H : Hp) : Cx where
  prog := X.prog
  w := X.w
  K := X.K
  mg := X.mg
  base := X.base
  A := X.A
  N := Nc
  s₀ := s
  H₀ := H
  env := compEnvC scope cl C X.env
  outer := X.stack
  stack := X.stack
  ex := fp
  fn := fun _ => false
  calm := X.calm
  pn := []
  xe := fun _ _ => False
def capV (σ : St) (caps : List Nat) : St := caps.map fun j => (σ[j]?).join
structure CompOk (X : Cx) (x : Str) (Nc : List Str) (caps : List Nat) (scope : Scope) : Prop where
  kind : scope.kind = .function
  cell : ∀ y ∈ scope.names, y.2 ≠ .cell
  names : ∀ y ∈ scope.names, y.2 = .local → scope.names.lookup y.1 = some .local
  fr : ∀ y ∈ scope.names, y.2 = .free → X.env.scope.names.lookup y.1 = some .cell ∧ scope.names.lookup y.1 = some .free
  loc : scope.names.lookup x = some .local
  len : Nc.length = caps.length + 1
  hd : Nc[0]? = some x
  nd : Nc.Nodup
  cap : ∀ k j, caps[k]? = some j → ∃ y, Nc[k + 1]? = some y ∧ X.N[j]? = some y ∧ scope.names.lookup y = some .free
theorem compLoop_any {prog : Program} {w : World} {A : Around} {R : Result → Shared → Prop} {s : Shared} {elt target iter : Expr} {ifs : List Expr} {scope : Scope} {pos : Pos} {it acc : Value} {env : Env} (I : Nat → Shared → Prop)
    (turn : ∀ n s, I n s → wpAny (model prog w) A (pyNext it) (fun r s₁ => match r with
      | none => R (.ok .next) s₁
      | some v => wpAny (model prog w) A (letOwnedTupleGo target it v) (fun _ s1' => wpAny (model prog w) A (assign target env v) (fun _ s₂ =>
          wpAny (model prog w) A (forIn ifs true fun c r => if r = true then do let ok ← isTrue c env (eval c env); pure (ForInStep.yield ok) else pure (ForInStep.yield r)) (fun ok s₃ =>
            if ok = true then wpAny (model prog w) A (eval elt env) (fun x s₄ =>
              wpAny (model prog w) A (call (.builtin "list.append") [acc, x]) (fun _ s₅ => ∃ m, m < n ∧ I m s₅) (notedBy (model prog w) A env fun e s' => R (.error e) s') s₄) (notedBy (model prog w) A env fun e s' => R (.error e) s') s₃
            else ∃ m, m < n ∧ I m s₃) (notedBy (model prog w) A env fun e s' => R (.error e) s') s₂) (notedBy (model prog w) A env fun e s' => R (.error e) s') s1') (notedBy (model prog w) A env fun e s' => R (.error e) s') s₁) (notedBy (model prog w) A env fun e s' => R (.error e) s') s)
    (n : Nat) (h : I n s) :
    codeAny (model prog w) A (.compLoop (.ListComp elt [⟨target, iter, ifs, 0⟩] scope pos) 0 it acc env) R s := by
  refine codeAny_loop rfl I (fun n s hI => ?_) n h
  show wpAny _ A ((compTurn (.ListComp elt [⟨target, iter, ifs, 0⟩] scope pos) 0 it acc env).onRaise (fun x => do noteFrame x env; theTreesLotGoes x)) _ _ s
  refine wpAny_noted ?_
  rw [compTurn_list]
  refine wpAny_bind (wpAny_standAt (wpAny_bind (wpAny_mono (turn n s hI) (fun r s₁ h₁ => ?_) fun _ _ h' => h')))
  cases r with
  | none => exact wpAny_pure h₁
  | some v =>
    refine wpAny_bind (wpAny_mono h₁ (fun _ s1' h₁ => ?_) fun _ _ h' => h')
    refine wpAny_bind (wpAny_mono h₁ (fun _ s₂ h₂ => wpAny_bind (wpAny_mono h₂ (fun ok s₃ h₃ => ?_) fun _ _ h' => h')) fun _ _ h' => h')
    cases ok with
    | false => exact wpAny_pure ⟨rfl, h₃⟩
    | true =>
      exact wpAny_bind (wpAny_bind (wpAny_mono h₃ (fun x s₄ h₄ => wpAny_bind (wpAny_mono h₄ (fun _ s₅ h₅ => wpAny_pure (wpAny_pure ⟨rfl, h₅⟩)) fun _ _ h' => h')) fun _ _ h' => h'))
def tNoTest : TT := fun _ H Q => Q true H
inductive PIf (X : Cx) : List Expr → TT → Prop where
  | nil : PIf X [] tNoTest
  | one {c : Expr} {t : TT} (h : PT X c t) : PIf X [c] t
theorem PIf.run {X : Cx} {ifs : List Expr} {t : TT} (h : PIf X ifs t) {pins : List (Addr × Obj)} {s : Shared} {σ : St} {H : Hp} {Q : Bool → Hp → Prop} (I : Inv X pins σ H s) (ht : t σ H Q) :
    wpAny (model X.prog X.w) X.A (forIn ifs true fun c r => if r = true then do let ok ← isTrue c X.env (eval c X.env); pure (ForInStep.yield ok) else pure (ForInStep.yield r)) (TP X pins σ Q) X.xe s := by
  cases h with
  | nil => exact wpAny_tests_nil ⟨H, I, ht⟩
  | one h => exact wpAny_tests_one (h pins s σ H Q I ht)
def tCompW (caps : List Nat) (tc : TT) (te : TE) (J : It) (σ : St) (H : Hp) (Q : VK) : Prop :=
  ∃ W : Nat → Nat → List V → Hp → Prop, (∃ m, W 0 m [] H) ∧ ∀ i m ys H, W i m ys H →
    (J.stop i H ∧ ys.length ≤ sizeLine ∧ ∀ p, H p = none → Q (.ref p) (upd H p (.lst ys))) ∨
    (J.go i H ∧ ys.length < sizeLine ∧ ∀ x H', J.yld i H x H' → tc (some x :: capV σ caps) H' fun b H2 =>
      if b = true then te (some x :: capV σ caps) H2 fun y H3 => ∃ m', m' < m ∧ W (i + 1) m' (ys ++ [y]) H3 else ∃ m', m' < m ∧ W (i + 1) m' ys H2)
def tComp (wi : TI) (caps : List Nat) (tc : TT) (te : TE) : TE := fun σ H Q => wi σ H fun J H1 => tCompW caps tc te J σ H1 Q
section
variable {X : Cx} {pins : List (Addr × Obj)} {σ : St} {H : Hp} {s : Shared}
theorem Un.track {fs ex : List Addr} {H H' : Hp} {h h' : Heap} {a : Addr} {o : HO} (u : Un fs ex H H' h h') (ha : h.objs.size ≤ a) (hn : H' a = none) : Un fs ex H (upd H' a o) h h' where
  keep := u.keep
  slot := u.slot
  free := fun b ob q n hx => by rw [upd_ne (Nat.ne_of_lt (Nat.lt_of_lt_of_le (Heap.lt_size q) ha))]; exact u.free b ob q n hx
  there := u.there
  tups := fun b xs q => by rw [upd_ne (ne_of_none (u.tups b xs q) hn)]; exact u.tups b xs q
  frzs := fun b ob xs q => by rw [upd_ne (ne_of_none (u.frzs b ob xs q) hn)]; exact u.frzs b ob xs q
  tbls := fun b ps q => by
    obtain ⟨m, e⟩ := u.tbls b ps q
    exact ⟨m, by rw [upd_ne (ne_of_none e hn)]; exact e⟩
theorem HOk.track {P : Program} {w : World} {H : Hp} {h : Heap} {a : Addr} {o : HO} (x : HOk P w H h) (hn : H a = none) (new : ObjOk P w (upd H a o) h a o) : HOk P w (upd H a o) h := fun b u e => by
  by_cases hb : b = a
  · subst hb; rw [upd_same] at e; cases e; exact new
  · rw [upd_ne hb] at e
    exact (x b u e).stay (fun c v _ q => q) (fun c q => by rw [upd_ne (ne_of_none q hn)]; exact q) fun c xs q => by rw [upd_ne (ne_of_none q hn)]; exact q
theorem comp_ok {x : Str} {Nc : List Str} {caps : List Nat} {scope : Scope} {cl : List (Str × Addr)} {C : Addr} {fp : List Addr} (I : Inv X pins σ H s) (O : CompOk X x Nc caps scope)
    (hcl : ∀ x c, cl.lookup x = some c → X.env.cells.lookup x = some c ∧ (x, NameKind.free) ∈ scope.names) (hcl2 : ∀ x, (x, NameKind.free) ∈ scope.names → cl.lookup x = X.env.cells.lookup x)
    (hC : s.heap.objs.size ≤ C) (hfp : ∀ b ∈ fp, FpOk X pins H b) (hfo : ∀ b ∈ fp, b < s.heap.objs.size) : (cxComp X Nc scope cl C fp s H).Ok where
  mod := I.ok.mod
  kind := O.kind
  glob := I.ok.glob
  blt := I.ok.blt
  above := hC
  inj := fun a b c e1 e2 => I.ok.inj a b c (hcl a c e1).1 (hcl b c e2).1
  has := fun y hy => by
    have mem : (y, NameKind.free) ∈ scope.names := by
      have hy' : ((relabel scope X.env).names.lookup y = some .cell) ∨ ((relabel scope X.env).names.lookup y = some .free) := hy
      have hm : ∃ k, (y, k) ∈ (relabel scope X.env).names ∧ (k = .cell ∨ k = .free) := by
        rcases hy' with h | h
        · exact ⟨_, PySem.mem_of_lookup h, .inl rfl⟩
        · exact ⟨_, PySem.mem_of_lookup h, .inr rfl⟩
      obtain ⟨k, hm, hk⟩ := hm
      obtain ⟨⟨n, k'⟩, hm', e⟩ := List.mem_map.mp hm
      dsimp only at e
      by_cases hc : (k' == NameKind.free && X.env.scope.kind == .function && X.env.kindOf n == some .cell) = true
      · rw [if_pos hc] at e
        injection e with e1 _
        subst e1
        have : k' = .free := by
          have := (Bool.and_eq_true _ _ ▸ (Bool.and_eq_true _ _ ▸ hc).1).1
          simpa using this
        subst this
        exact hm'
      · rw [if_neg hc] at e
        injection e with e1 e2
        subst e1 e2
        rcases hk with hk | hk
        · subst hk; exact absurd rfl (O.cell _ hm')
        · subst hk; exact hm'
    obtain ⟨c, e⟩ := I.ok.has y (.inl (O.fr _ mem rfl).1)
    exact ⟨c, (hcl2 y mem).trans e⟩
  cab := fun _ _ z => nomatch z
  hd := I.ok.hd
  frames := I.ok.frames
  stk := .inl rfl
  exf := fun b hb => ⟨Nat.ne_of_lt (Nat.lt_of_lt_of_le (hfo b hb) hC), fun y c e => (hfp b hb).2.2.2.2.1 y c (hcl y c e).1⟩
  bs := I.bs
  bsz := Nat.le_trans I.ok.bsz I.sz
  noex := fun b o e hb => by
    rcases (hfp b hb).2.2.2.1 with z | z
    · exact I.ok.noex b o e z
    · exact absurd (Nat.lt_of_lt_of_le (Heap.lt_size e) (Nat.le_trans I.ok.bsz z)) (Nat.lt_irrefl _)
  exfs := fun b hb z => by
    rcases List.mem_cons.mp (I.stkSub b z) with e | e
    · exact (hfp b hb).2.1 e
    · exact (hfp b hb).2.2.1 e
  funs := I.stack
  frf := I.stkFree
end
open PySem PySem.Spec PyProof.Rows
section
variable {X : Cx} {pins : List (Addr × Obj)} {σ : St} {H : Hp} {s : Shared}
theorem capV_len (σ : St) (caps : List Nat) : (capV σ caps).length = caps.length := by unfold capV; rw [List.length_map]
theorem capV_get {σ : St} {caps : List Nat} {k : Nat} {v : V} (e : (capV σ caps)[k]? = some (some v)) : ∃ j, caps[k]? = some j ∧ σ[j]? = some (some v) := by
  unfold capV at e
  rw [List.getElem?_map] at e
  cases hk : caps[k]? with
  | none => rw [hk] at e; cases e
  | some j =>
    rw [hk] at e
    have e' : (σ[j]?).join = some v := Option.some.inj e
    refine ⟨j, rfl, ?_⟩
    cases hj : σ[j]? with
    | none => rw [hj] at e'; cases e'
    | some o => rw [hj] at e'; rw [show o = some v from e']
theorem Un.but {fs ex : List Addr} {H H' : Hp} {h h1 h2 : Heap} {C : Addr} (u : Un fs ex H H' h h1) (hs : Heap.SameBut C h1 h2) (hC : h.objs.size ≤ C) : Un fs ex H H' h h2 where
  keep := fun b o q n hb hx => (hs.2 b (Nat.ne_of_lt (Nat.lt_of_lt_of_le (Heap.lt_size q) hC))).trans (u.keep b o q n hb hx)
  slot := fun b o q n hb hx => by
    obtain ⟨sl, e⟩ := u.slot b o q n hb hx
    exact ⟨sl, (hs.2 b (Nat.ne_of_lt (Nat.lt_of_lt_of_le (Heap.lt_size q) hC))).trans e⟩
  free := u.free
  there := fun b o q hx => by
    obtain ⟨o', e⟩ := u.there b o q hx
    exact ⟨o', (hs.2 b (Nat.ne_of_lt (Nat.lt_of_lt_of_le (Heap.lt_size q) hC))).trans e⟩
  tups := u.tups
  frzs := u.frzs
  tbls := u.tbls
theorem comp_start {x : Str} {Nc : List Str} {caps : List Nat} {scope : Scope} {cl : List (Str × Addr)} {C : Addr} {fp : List Addr} {h' : Heap} {tk : Nat} {m0 : Str → Option Value} (I : Inv X pins σ H s) (O : CompOk X x Nc caps scope)
    (hcl : ∀ x c, cl.lookup x = some c → X.env.cells.lookup x = some c ∧ (x, NameKind.free) ∈ scope.names) (hcl2 : ∀ x, (x, NameKind.free) ∈ scope.names → cl.lookup x = X.env.cells.lookup x)
    (hC : s.heap.objs.size ≤ C) (hfp : ∀ b ∈ fp, FpOk X pins H b) (hfo : ∀ b ∈ fp, b < s.heap.objs.size)
    (old : ∀ b o, s.heap.get? b = some o → h'.get? b = some o) (hns : h'.Ns C m0) :
    Inv (cxComp X Nc scope cl C fp s H) [] (none :: capV σ caps) H { s with heap := h', toks := tk } where
  ok := comp_ok I O hcl hcl2 hC hfp hfo
  os := rfl
  bare := I.bare
  base := Un.kept old
  loc := by
    refine ⟨m0, hns, fun i y v hN hσ hv => ?_⟩
    cases i with
    | zero => simp at hσ
    | succ k =>
      rw [List.getElem?_cons_succ] at hσ
      obtain ⟨j, hj, hs⟩ := capV_get hσ
      obtain ⟨z, hz1, hz2, hz3⟩ := O.cap k j hj
      have hN' : Nc[k + 1]? = some y := hN
      rw [hz1] at hN'
      cases hN'
      have mem : (y, NameKind.free) ∈ scope.names := PySem.mem_of_lookup hz3
      have hk := (O.fr _ mem rfl).1
      obtain ⟨m, hn, hl⟩ := I.loc
      obtain ⟨u, r, l⟩ := hl j y v hz2 hs (.inr (.inl hk))
      refine ⟨u, r, ?_⟩
      rcases l with ⟨k', _⟩ | ⟨_, c, hc, z⟩
      · have k'' : X.env.scope.names.lookup y = some .local := k'
        rw [hk] at k''; cases k''
      · obtain ⟨o, ho, hd⟩ := z
        exact .inr ⟨.inl (lookup_relabel_free I.ok.kind hz3 hk), c, (hcl2 y mem).trans hc, o, old _ _ ho, hd⟩
  cell := fun y c e => by
    obtain ⟨v, o, ho, hd⟩ := I.cell y c (hcl y c e).1
    exact ⟨v, o, old _ _ ho, hd⟩
  free := I.hok.fresh hC
  freeC := fun y c e => I.freeC y c (hcl y c e).1
  pin := fun p hp => absurd (show p ∈ ([] : List (Addr × Obj)) from hp) (by simp)
  hok := I.hok.kept old
  len := by
    show (none :: capV σ caps).length = Nc.length
    rw [List.length_cons, capV_len, O.len]
abbrev rawL (us : List Value) (n : Nat) : Obj := { cls := .type "list", data := .seq us.toArray n }
theorem comp_fr {X : Cx} {sc0 scope : Scope} (h : X.env.scope = sc0) (hd : ∀ y ∈ scope.names, y.2 = .free → sc0.names.lookup y.1 = some .cell ∧ scope.names.lookup y.1 = some .free) :
    ∀ y ∈ scope.names, y.2 = .free → X.env.scope.names.lookup y.1 = some .cell ∧ scope.names.lookup y.1 = some .free := by
  rw [h]
  exact hd
theorem comp_block {x : Str} {px : Pos} {Nc : List Str} {caps : List Nat} {scope : Scope} {cl : List (Str × Addr)} {iter elt : Expr} {ifs : List Expr} {pos : Pos} {tc : TT} {te : TE} {Q : VK} {it : Addr} {fp : List Addr} {tn : Nat → Heap → Prop} {J : It}
    {RR : Value → Addr → Result → Shared → Prop} {E : Value → Shared → Prop}
    (O : CompOk X x Nc caps scope) (hc : X.calm = true)
    (hcl : ∀ x c, cl.lookup x = some c → X.env.cells.lookup x = some c ∧ (x, NameKind.free) ∈ scope.names) (hcl2 : ∀ x, (x, NameKind.free) ∈ scope.names → cl.lookup x = X.env.cells.lookup x)
    (hte : ∀ C fp s H, PE (cxComp X Nc scope cl C fp s H) elt te) (htc : ∀ C fp s H, PIf (cxComp X Nc scope cl C fp s H) ifs tc)
    (I : Inv X pins σ H s) (T : Turn X.prog X.w X.K (.Name x px) J fp it tn) (st : tn 0 s.heap) (hfp : ∀ b ∈ fp, FpOk X pins H b) (h : tCompW caps tc te J σ H Q)
    (hRR : ∀ (D C : Addr) (s' : Shared) (m : Str → Option Value), s'.heap.Ns C m → (∀ h', Heap.SameBut C s'.heap h' → ∃ H', Inv X pins σ H' { s' with heap := h' } ∧ H' C = none ∧ Q (.ref D) H') →
      s.heap.objs.size ≤ C → RR (.ref D) C (.ok .next) s') :
    wpAny (model X.prog X.w) X.A (newList []) (fun acc s₃ => wpAny (model X.prog X.w) X.A (newFunctionEnv scope X.env.globals cl [] X.env.qual none .none (some X.env)) (fun cenv s₄ =>
      codeAny (model X.prog X.w) X.A (.compStart (.ListComp elt [⟨.Name x px, iter, ifs, 0⟩] scope pos) 0 (.ref it) acc { cenv with scope := relabel scope X.env }) (RR acc cenv.locals) s₄) E s₃) E s := by
  refine wpAny_newObj_type (wpAny_newFunctionEnv O.cell (by intro y hy; simp at hy) (fun h₁ hns₁ hsb₁ => ?_) O.kind)
  dsimp only at hns₁ hsb₁ ⊢
  generalize hH2 : s.heap.push { cls := .type "list", dict := none, data := .seq ([] : List Value).toArray } = H2 at hns₁ hsb₁ ⊢
  have hC : H2.objs.size = s.heap.objs.size + 1 := by rw [← hH2, Heap.size_push]
  have hCle : s.heap.objs.size ≤ H2.objs.size := by rw [hC]; exact Nat.le_succ _
  have hDC : s.heap.objs.size ≠ H2.objs.size := by rw [hC]; exact Nat.ne_of_lt (Nat.lt_succ_self _)
  have below : ∀ b, b < s.heap.objs.size → b ≠ H2.objs.size ∧ b ≠ s.heap.objs.size := fun b hb => ⟨by rw [hC]; exact Nat.ne_of_lt (Nat.lt_succ_of_lt hb), Nat.ne_of_lt hb⟩
  have old : ∀ b o, s.heap.get? b = some o → h₁.get? b = some o := fun b o e => hsb₁.extBut b o (below b (Heap.lt_size e)).1 (Heap.get?_push_of_some _ (hH2 ▸ Heap.get?_push_of_some _ e))
  have hacc : h₁.get? s.heap.objs.size = some (rawL [] 0) := hsb₁.extBut _ _ hDC (Heap.get?_push_of_some _ (hH2 ▸ Heap.get?_push_size _ rfl))
  have hfo : ∀ b ∈ fp, b < s.heap.objs.size := fun b hb => by
    obtain ⟨o, e, _⟩ := T.obj _ _ st b hb
    exact Heap.lt_size e
  have st1 : tn 0 h₁ := T.keep _ _ _ st fun b _ o e => old b o e
  generalize hDD : s.heap.objs.size = D at *
  generalize hCC : H2.objs.size = C at *
  have DleC : D ≤ C := hCle
  let Y : Cx := cxComp X Nc scope cl C fp s H
  have I0 : Inv Y [] (none :: capV σ caps) H { s with heap := h₁, toks := s.toks + ([] : List (Str × Value)).length } := comp_start I O hcl hcl2 (by rw [hDD]; exact hCle) hfp (fun b hb => by rw [hDD]; exact hfo b hb) old hns₁
  have Dfree : H D = none := by rw [← hDD]; exact I.hok.fresh (Nat.le_refl _)
  have DneC : D ≠ C := hDC
  have Dfs : D ∉ Y.fs := fun z => by
    have := I.stack.mem (show D ∈ frs X.stack from z)
    obtain ⟨_, o, e, _⟩ := this
    have := Heap.lt_size e
    rw [hDD] at this
    exact Nat.lt_irrefl _ this
  have Dcell : ∀ y c, Y.env.cells.lookup y = some c → c ≠ D := fun y c e z => by
    obtain ⟨v, q⟩ := I.cell y c (hcl y c e).1
    have := q.lt
    rw [z, hDD] at this
    exact Nat.lt_irrefl _ this
  have Dfp : ∀ b ∈ fp, b ≠ D := fun b hb => Nat.ne_of_lt (hfo b hb)
  have fpY : ∀ {H' : Hp}, (∀ b ∈ fp, H' b = none) → ∀ b ∈ fp, FpOk Y [] H' b := fun hn b hb =>
    ⟨hn b hb, Nat.ne_of_lt (Nat.lt_of_lt_of_le (hfo b hb) DleC), fun z => I0.ok.exfs b hb z, .inl hb, fun y c e => (I0.ok.exf b hb).2 y c e, fun p hp => absurd (show p ∈ ([] : List (Addr × Obj)) from hp) (by simp)⟩
  obtain ⟨W, ⟨m0, w0⟩, turn⟩ := h
  have loop : ∀ s₃ : Shared, s₃ = { s with heap := h₁, toks := s.toks + ([] : List (Str × Value)).length } →
      codeAny (model X.prog X.w) X.A (.compLoop (.ListComp elt [⟨.Name x px, iter, ifs, 0⟩] scope pos) 0 (.ref it) (.ref D) (compEnvC scope cl C X.env)) (RR (.ref D) C) s₃ := by
    rintro s₃ rfl
    refine compLoop_any (fun n s' => ∃ (i : Nat) (o : Option V) (H' : Hp) (ys : List V) (us : List Value) (k : Nat), Inv Y [] (o :: capV σ caps) H' s' ∧ tn i s'.heap ∧ (∀ b ∈ fp, H' b = none) ∧ s'.heap.get? D = some (rawL us k) ∧ H' D = none ∧ Vals ys us ∧ W i n ys H')
      ?_ m0 ⟨0, none, H, [], [], 0, I0, st1, fun b hb => (hfp b hb).1, hacc, Dfree, .nil, w0⟩
    rintro n s3 ⟨i, o3, H3, ys, us, k, I3, st3, fr3, hD3, nD3, rv, w3⟩
    have fpP : ∀ {H' : Hp} {ob : Obj}, (∀ b ∈ fp, H' b = none) → ∀ b ∈ fp, FpOk Y [(D, ob)] H' b := fun hn b hb => by
      obtain ⟨g0, g1, g2, g3, g4, _⟩ := fpY hn b hb
      refine ⟨g0, g1, g2, g3, g4, fun p hp => ?_⟩
      have e : p = (D, _) := List.mem_singleton.mp (show p ∈ [(D, _)] from hp)
      rw [e]
      exact Ne.symm (Dfp b hb)
    have IP : Inv Y [(D, rawL us k)] (o3 :: capV σ caps) H3 s3 := I3.pins_of fun p hp => by
      have e : p = (D, rawL us k) := List.mem_singleton.mp hp
      subst e
      exact ⟨hD3, nD3, DneC, Dfs, fun v z => by cases z⟩
    have pinD : ∀ {σ' : St} {H' : Hp} {s' : Shared} {pl : List (Addr × Obj)}, Inv Y ([(D, rawL us k)] ++ pl) σ' H' s' → s'.heap.get? D = some (rawL us k) ∧ H' D = none := fun I' => by
      have z := I'.pin (D, rawL us k) (List.mem_append_right _ (List.mem_append_left _ List.mem_cons_self))
      exact ⟨z.1, z.2.1⟩
    rcases turn i n ys H3 w3 with ⟨stop, hlen, fin⟩ | ⟨go, hlen, step⟩
    ·
      refine wpAny_mono (T.done Y rfl rfl rfl hc i _ s3 _ H3 (fun _ _ => False) IP (fpP fr3) st3 stop) (fun r s4 hr => ?_) fun _ _ z => z.elim
      obtain ⟨hr, I4⟩ := hr
      subst hr
      obtain ⟨gD, nD⟩ := pinD (pl := []) (by simpa using I4)
      obtain ⟨m, hn, _⟩ := I4.loc
      refine hRR D C s4 m hn (fun h' hs' => ⟨upd H3 D (.lst ys), ?_, (upd_ne (Ne.symm DneC)).trans I4.free, fin D nD⟩) hCle
      have nt : ∀ b ob, H3 b = some ob → b ≠ C := fun b ob e z => by
        have := I4.free
        rw [z] at e
        rw [show H3 C = none from this] at e
        cases e
      have u1 : Un (frs X.stack) fp H H3 s.heap h' := Un.but I4.base hs' (show s.heap.objs.size ≤ C by rw [hDD]; exact hCle)
      have ok1 : HOk X.prog X.w H3 h' := fun b ob e => (I4.hok b ob e).stay (fun c v hc q => (hs'.2 c (by
        rcases hc with z | z
        · rw [z]; exact nt b ob e
        · exact nt c _ z)).trans q) (fun _ q => q) fun _ _ q => q
      have gD' : h'.get? D = some (rawL us k) := (hs'.2 D DneC).trans gD
      exact I.call' (s' := { s4 with heap := h' }) (ch := fp) I4.os (u1.track (Nat.le_of_eq hDD) nD) (ok1.track nD ⟨hlen, us, k, rv, gD'⟩) I4.bare fun b hb => by
        obtain ⟨_, g1, _, g3, g4, g5⟩ := hfp b hb
        exact ⟨g3, g1, g4, g5⟩
    ·
      refine wpAny_mono (T.item Y rfl rfl rfl hc i _ s3 _ H3 (fun _ _ => False) IP (fpP fr3) st3 go) (fun r s4 hr => ?_) fun _ _ z => z.elim
      obtain ⟨u0, hr, h4⟩ := hr
      subst hr
      refine wpAny_mono h4 (fun _ s5 h5 => ?_) fun _ _ z => z.elim
      obtain ⟨x5, H5, I5, r5, y5, st5, fr5⟩ := h5
      have I5' := I5.pinned (fpP fr5) (T.obj _ _ st5)
      have tgt : PG Y (.Name x px) (gName 0) := pg_name (i := 0) O.nd O.hd (.inl (lookup_relabel I.ok.kind O.loc (by intro z; cases z))) (.inr (lookup_relabel I.ok.kind O.loc (by intro z; cases z)))
      refine wpAny_mono (tgt _ s5 _ H5 x5 u0 (fun σ2 H2 => σ2 = some x5 :: capV σ caps ∧ H2 = H5) I5' r5 ⟨rfl, rfl⟩) (fun _ s6 h6 => ?_) fun _ _ z => z.elim
      obtain ⟨_, _, I6, rfl, rfl⟩ := h6
      refine wpAny_mono ((htc C fp s H).run I6 (step x5 _ y5)) (fun b s7 h7 => ?_) fun _ _ z => z.elim
      obtain ⟨H7, I7, q7⟩ := h7
      have keepT : ∀ {σ' : St} {H' : Hp} {s' : Shared}, Inv Y ([(D, rawL us k)] ++ pinsAt fp s5.heap) σ' H' s' → tn (i + 1) s'.heap ∧ ∀ b ∈ fp, H' b = none := fun I' =>
        ⟨T.keep _ _ _ st5 fun b hb o e => (I'.pin (b, o) (List.mem_append_right _ (List.mem_append_right _ (mem_pinsAt hb e)))).1, fun b hb => by
          obtain ⟨o, e, d⟩ := T.obj _ _ st5 b hb
          exact (I'.pin (b, o) (List.mem_append_right _ (List.mem_append_right _ (mem_pinsAt hb e)))).2.1⟩
      cases b with
      | false =>
        rw [if_neg Bool.false_ne_true] at q7
        rw [if_neg Bool.false_ne_true]
        obtain ⟨m', hm, w7⟩ := q7
        obtain ⟨gD, nD⟩ := pinD I7
        obtain ⟨k1, k2⟩ := keepT I7
        exact ⟨m', hm, i + 1, some x5, H7, ys, us, k, I7.pins_of (fun p hp => nomatch hp), k1, k2, gD, nD, rv, w7⟩
      | true =>
        rw [if_pos rfl] at q7
        rw [if_pos rfl]
        refine wpAny_mono (hte C fp s H _ s7 _ H7 _ I7 q7) (fun u8 s8 h8 => ?_) fun _ _ z => z.elim
        obtain ⟨y8, H8, I8, r8, m', hm, w8⟩ := h8
        obtain ⟨gD, nD⟩ := pinD I8
        obtain ⟨k1, k2⟩ := keepT I8
        refine call_meets F.slot_list_append ⟨_, gD, rfl⟩ F.entry_list_append (F.args_list_append_2 _ _) (PySem.list_append D us.toArray k u8 (by rw [List.size_toArray, ← rv.length]; omega)) ⟨gD, ?_⟩
        have q := PySem.IsL.update gD (·.push u8)
        have e1 : us.toArray.push u8 = (us ++ [u8]).toArray := by simp
        rw [e1] at q
        have I8' : Inv Y [] (some x5 :: capV σ caps) H8 s8 := I8.pins_of (fun p hp => nomatch hp)
        have I9 : Inv Y [] (some x5 :: capV σ caps) H8 { s8 with heap := s8.heap.update D (Obj.mapSeq (·.push u8)), toks := s8.toks } :=
          I8'.turned (it := D) (fun b o hb e => (Heap.get?_update_other s8.heap (Obj.mapSeq (·.push u8)) (Ne.symm hb)).trans e) nD DneC (.inr (Nat.le_of_eq hDD)) Dcell (fun p hp => nomatch hp)
        refine ⟨m', hm, i + 1, some x5, H8, ys ++ [y8], us ++ [u8], _, I9, T.keep _ _ _ k1 fun b hb o e => (Heap.get?_update_other s8.heap (Obj.mapSeq (·.push u8)) (Ne.symm (Dfp b hb))).trans e, k2, q, nD, rv.append (.cons r8 .nil), w8⟩
  exact codeAny_compStart_list (loop _ rfl) (T.self X.A 0 _ _ _ st1 (loop _ rfl))
theorem pe_comp {x : Str} {px pos : Pos} {Nc : List Str} {caps : List Nat} {scope : Scope} {iter elt : Expr} {ifs : List Expr} {wi : TI} {tc : TT} {te : TE} (O : CompOk X x Nc caps scope) (hc : X.calm = true) (hi : PI X (.Name x px) iter wi)
    (htc : ∀ cl C fp s H, PIf (cxComp X Nc scope cl C fp s H) ifs tc) (hte : ∀ cl C fp s H, PE (cxComp X Nc scope cl C fp s H) elt te) (hs : ∀ x, foldedSetIterable iter X.env x = pure x := by intro _; rfl) :
    PE X (.ListComp elt [⟨.Name x px, iter, ifs, 0⟩] scope pos) (tComp wi caps tc te) := by
  intro pins s σ H Q I h
  rw [eval_ListComp]
  obtain ⟨cl, e1, e2, e3⟩ := closure_is (scope := scope) (env := X.env) fun y hy hf => I.ok.has y.1 (.inl (O.fr y hy hf).1)
  refine wpAny_comprehension_free (use := none) rfl hs e1 O.kind O.names (thn (hi pins s σ H _ I h) fun v s1 h1 => thn h1 fun itv s2 h2 => ?_)
  obtain ⟨it, fp, tn, J, H2, e, I2, T, st2, f2, w2⟩ := h2
  subst e
  refine comp_block (RR := fun acc C => compPost (model X.prog X.w) X.A X.xe none (EP X pins σ Q) acc C) O hc e2 e3 (hte cl) (htc cl) I2 T st2 f2 w2 ?_
  intro D C s' m hn hq hC
  refine ⟨m, hn, fun h' hs' => ?_⟩
  obtain ⟨H', I', _, q⟩ := hq h' hs'
  exact ⟨.ref D, H', I', rfl, q⟩
theorem ps_setC {i : Nat} {y x : Str} {px py pos spos : Pos} {Nc : List Str} {caps : List Nat} {scope : Scope} {iter elt : Expr} {ifs : List Expr} {wi : TI} {tc : TT} {te : TE} (O : CompOk X x Nc caps scope) (hc : X.calm = true)
    (hN : X.N.Nodup) (hy : X.N[i]? = some y) (hx : X.env.scope.names.lookup y = some .local) (hi : PI X (.Name x px) iter wi)
    (htc : ∀ cl C fp s H, PIf (cxComp X Nc scope cl C fp s H) ifs tc) (hte : ∀ cl C fp s H, PE (cxComp X Nc scope cl C fp s H) elt te)
    (hsw : swapsWith (.ListComp elt [⟨.Name x px, iter, ifs, 0⟩] scope pos) (some (.Name y py)) spos.line X.env = pure true) (hs : ∀ x, foldedSetIterable iter X.env x = pure x := by intro _; rfl) :
    PS X (.Assign [.Name y py] (.ListComp elt [⟨.Name x px, iter, ifs, 0⟩] scope pos) spos) (tAsg (tComp wi caps tc te) (gName i)) := by
  intro pins s σ H Dn I h
  rw [exec_Assign_Name_used _ _ _ _ hsw]
  refine wpAny_bind (wpAny_standAt (wpAny_bind ?_))
  obtain ⟨cl, e1, e2, e3⟩ := closure_is (scope := scope) (env := X.env) fun y hy hf => I.ok.has y.1 (.inl (O.fr y hy hf).1)
  show wpAny _ X.A (do let _ ← comprehension (.ListComp elt [⟨.Name x px, iter, ifs, 0⟩] scope pos) scope X.env _ (newList []) false (eval iter X.env) (some (assign (.Name y py) X.env))) _ _ s
  refine wpAny_bind (wpAny_mono (wpAny_comprehension_free (use := some (assign (.Name y py) X.env)) (Q := fun _ s' => SP X pins Dn .next s') rfl hs e1 O.kind O.names
    (thn (hi pins s σ H _ I h) fun v s1 h1 => thn h1 fun itv s2 h2 => ?_)) (fun _ s' hq => wpAny_pure (wpAny_pure hq)) fun _ _ e => e)
  obtain ⟨it, fp, tn, J, H2, e, I2, T, st2, f2, w2⟩ := h2
  subst e
  refine comp_block (RR := fun acc C => compPost (model X.prog X.w) X.A X.xe (some (assign (.Name y py) X.env)) (fun _ s' => SP X pins Dn .next s') acc C) O hc e2 e3 (hte cl) (htc cl) I2 T st2 f2 w2 ?_
  intro D C s' m hn hq hC
  show wpAny _ X.A (assign (.Name y py) X.env (.ref D)) _ _ _
  obtain ⟨H', I', nC, q⟩ := hq s'.heap (.refl ..)
  have I'' : Inv X pins σ H' s' := I'
  have CL : C ≠ X.env.locals := Nat.ne_of_gt (Nat.lt_of_lt_of_le I2.lt hC)
  have Ccell : ∀ y c, X.env.cells.lookup y = some c → c ≠ C := fun y c e z => by
    obtain ⟨v, q⟩ := I2.cell y c e
    have := Nat.lt_of_lt_of_le q.lt hC
    rw [z] at this
    exact Nat.lt_irrefl _ this
  refine wpAny_assign_Name (store_ok2 I'' hN hy (.inl hx) (show RelV (.ref D) (.ref D) from rfl) (fun s3 I3 hsb => ?_) (.inr hx))
  obtain ⟨a, hsb, ha⟩ := hsb
  have aC : C ≠ a := by
    rcases ha with z | z
    · rw [z]; exact CL
    · exact Ne.symm (Ccell _ _ z)
  refine ⟨m, hn.sameBut hsb aC, fun h4 hs4 => ?_⟩
  refine ⟨_, H', I3.turned (it := C) (t' := s3.toks) (fun b o hb e => (hs4.2 b hb).trans e) nC CL (.inr (Nat.le_trans I2.sz hC)) Ccell (fun p hp z => ?_), q⟩
  · have := Nat.lt_of_lt_of_le (Heap.lt_size (I2.pin p hp).1) hC
    rw [z] at this
    exact Nat.lt_irrefl _ this
end
open PySem PySem.Spec PyProof.Rows
def Its (x : Str) : It := ⟨fun i _ => i < x.cps.size, fun i H v H' => H' = H ∧ ∃ c, x.cps[i]? = some c ∧ v = .str ⟨#[c]⟩, fun i _ => x.cps.size ≤ i⟩
section
variable {X : Cx} {tg : Expr}
def iStr (tl : TE) : TI := fun σ H R => tl σ H fun x H1 => ∃ z, x = .str z ∧ R (Its z) H1
end
def CN (n : Nat) (Pv : Nat → List V → Hp → Prop) (i : Nat) (ys : List V) (H : Hp) : Prop := ∃ m', m' < n - i ∧ m' = n - (i + 1) ∧ i + 1 ≤ n ∧ Pv (i + 1) ys H
theorem CN.of {n : Nat} {Pv : Nat → List V → Hp → Prop} {i : Nat} {ys : List V} {H : Hp} (h : i < n) (p : Pv (i + 1) ys H) : CN n Pv i ys H := ⟨n - (i + 1), by omega, rfl, h, p⟩
def CTurn (n : Nat) (Pv : Nat → List V → Hp → Prop) (tc : TT) (te : TE) (σ : St) (i : Nat) (ys : List V) (H : Hp) : Prop :=
  tc σ H fun b H2 => if b = true then te σ H2 fun y H3 => CN n Pv i (ys ++ [y]) H3 else CN n Pv i ys H2
theorem CTurn.no {n : Nat} {Pv : Nat → List V → Hp → Prop} {te : TE} {σ : St} {i : Nat} {ys : List V} {H : Hp} (h : te σ H fun y H3 => CN n Pv i (ys ++ [y]) H3) : CTurn n Pv tNoTest te σ i ys H := by
  unfold CTurn tNoTest
  exact iteT h
theorem comp_list {K : PySem.W.Frag} {a : Addr} {xs : List V} {caps : List Nat} {tc : TT} {te : TE} {σ : St} {H : Hp} {Q : VK} (Pv : Nat → List V → Hp → Prop) (h0 : Pv 0 [] H) (hl : ∀ i ys H, i ≤ xs.length → Pv i ys H → SqL K H a xs ∧ ys.length ≤ i)
    (hz : xs.length ≤ sizeLine) (hs : ∀ i x ys H, i < xs.length → xs[i]? = some x → Pv i ys H → CTurn xs.length Pv tc te (some x :: capV σ caps) i ys H)
    (hd : ∀ ys H p, Pv xs.length ys H → H p = none → Q (.ref p) (upd H p (.lst ys))) : tCompW caps tc te (Itl K a) σ H Q := by
  refine ⟨fun i m ys H => m = xs.length - i ∧ i ≤ xs.length ∧ Pv i ys H, ⟨xs.length, by simp, Nat.zero_le _, h0⟩, ?_⟩
  rintro i m ys H ⟨rfl, hi, p⟩
  obtain ⟨q, hy⟩ := hl i ys H hi p
  by_cases hlt : i < xs.length
  · refine .inr ⟨⟨xs, xs[i], q, by simp [hlt]⟩, by omega, fun x H' y => ?_⟩
    obtain ⟨e, y⟩ := y
    subst e
    exact hs i x ys _ hlt (y xs q) p
  · have e : i = xs.length := by omega
    subst e
    exact .inl ⟨⟨xs, q, Nat.le_refl _⟩, by omega, fun p' hp => hd ys H p' p hp⟩
theorem strsAre_of {ys : List Str} : ∀ {us : List Value}, Vals (ys.map V.str) us → StrsAre us ys := by
  induction ys with
  | nil => intro us r; rw [List.map_nil] at r; cases r; exact .nil
  | cons n ns ih =>
    intro us r
    rw [List.map_cons] at r
    cases r with
    | cons r1 r2 =>
      obtain ⟨t, e⟩ := r1
      subst e
      exact .cons n t (ih r2)
def rJoin (K : PySem.W.Frag) : V → List V → Hp → VK → Prop := fun x vs H Q => ∃ z a ys, x = .str z ∧ vs = [.ref a] ∧ SqL K H a (ys.map V.str) ∧ (ys.map (·.length)).sum + ys.length * z.length ≤ 16777216 ∧ Q (.str (Txt.join z ys)) H
section
variable {X : Cx}
theorem mt_join : MtR X "str.join" (rJoin X.K) := by
  intro pins s σ H x vs v us Q I rx rv h
  obtain ⟨z, a, ys, rfl, rfl, hq, hz, q⟩ := h
  obtain ⟨t, rfl⟩ := rx
  obtain ⟨u, rfl, ru⟩ := rv.one
  cases ru
  obtain ⟨its, r, pl, hl⟩ := I.list hq
  exact join_list pl.isList (strsAre_of (by simpa using r)) hz fun t' k => ⟨.str _, H, I.tok _, ⟨_, rfl⟩, q⟩
def rIsi (K : PySem.W.Frag) : List V → Hp → VK → Prop := fun vs H Q => ∃ x t b, TyOf K H x t ∧
  ((∃ n, vs = [x, .ty n] ∧ PySem.W.kitOne K t (.type n) = some b) ∨ (∃ a, vs = [x, .ref a] ∧ PySem.W.kitOne K t (.ref a) = some b)) ∧ Q (.bl b) H
theorem call_isi : CallR X (.builtin "isinstance") (rIsi X.K) := by
  intro pins s σ H xs us Q I rv h
  obtain ⟨x, t, b, ty, hv, q⟩ := h
  rcases hv with ⟨n, rfl, e⟩ | ⟨a, rfl, e⟩
  · obtain ⟨u1, u2, rfl, r1, r2⟩ := rv.two
    cases r2
    exact isinst_ok I r1 ty e fun tk => ⟨.bl b, H, I.tok _, rfl, q⟩
  · obtain ⟨u1, u2, rfl, r1, r2⟩ := rv.two
    cases r2
    exact isinst_ok I r1 ty e fun tk => ⟨.bl b, H, I.tok _, rfl, q⟩
def eqL : List V → List V → Bool
  | [], [] => true
  | x :: xs, y :: ys => eqV x y && eqL xs ys
  | _, _ => false
theorem eqL_len : ∀ {xs ys : List V}, xs.length ≠ ys.length → eqL xs ys = false
  | [], [], h => absurd rfl h
  | [], _ :: _, _ => rfl
  | _ :: _, [], _ => rfl
  | x :: xs, y :: ys, h => by
    rw [eqL, eqL_len (xs := xs) (ys := ys) (fun z => h (by rw [List.length_cons, List.length_cons, z])), Bool.and_false]
theorem eqL_range : ∀ {xs ys : List V}, xs.length = ys.length → (List.range xs.length).all (fun j => eqV (xs.getD j .non) (ys.getD j .non)) = eqL xs ys
  | [], [], _ => rfl
  | [], _ :: _, h => by simp at h
  | _ :: _, [], h => by simp at h
  | x :: xs, y :: ys, h => by
    have h' : xs.length = ys.length := by simpa using h
    rw [List.length_cons, List.range_succ_eq_map, List.all_cons, List.all_map]
    rw [eqL, ← eqL_range h']
    rfl
def rEqL (K : PySem.W.Frag) : R2 := fun x y H Q => ∃ p q xs ys, x = .ref p ∧ y = .ref q ∧ SqL K H p xs ∧ SqL K H q ys ∧ xs.all flatV = true ∧ ys.all flatV = true ∧ Q (.bl (eqL xs ys)) H
theorem op_eqL (hu : X.A.units < cLine) : OpR X (compareOp .Eq) (rEqL X.K) := by
  intro pins s σ H x y v u Q I rx ry h
  obtain ⟨p, q, xs, ys, rfl, rfl, hx, hy, fx, fy, k⟩ := h
  cases rx
  cases ry
  obtain ⟨its, r, pl, hz⟩ := I.list hx
  obtain ⟨its2, r2, pl2, hz2⟩ := I.list hy
  have l1 := r.length
  have l2 := r2.length
  by_cases hl : xs.length = ys.length
  · refine SeqAt.eq_listAt (e := fun j => eqV (xs.getD j .non) (ys.getD j .non)) pl.isList pl2.isList (by simp only [List.size_toArray]; omega) hu (fun j h1 h2 => ?_) ?_
    · have j1 : j < xs.length := by simp only [List.size_toArray] at h1; omega
      have j2 : j < ys.length := by omega
      obtain ⟨w1, e1, q1⟩ := r.get (i := j) (x := xs[j]) (by simp [j1])
      obtain ⟨w2, e2, q2⟩ := r2.get (i := j) (x := ys[j]) (by simp [j2])
      have g1 : its.toArray[j] = w1 := by
        have : its.toArray[j]? = some w1 := by simpa using e1
        exact Option.some.inj ((Array.getElem?_eq_getElem h1).symm.trans this)
      have g2 : its2.toArray[j] = w2 := by
        have : its2.toArray[j]? = some w2 := by simpa using e2
        exact Option.some.inj ((Array.getElem?_eq_getElem h2).symm.trans this)
      rw [g1, g2]
      have d1 : xs.getD j .non = xs[j] := by simp [List.getD, j1]
      have d2 : ys.getD j .non = ys[j] := by simp [List.getD, j2]
      show SeqAt.EqAt _ _ _ _ (eqV (xs.getD j .non) (ys.getD j .non))
      rw [d1, d2]
      exact eqAt_V q1 q2 (List.all_eq_true.mp fx _ (List.getElem_mem j1)) (List.all_eq_true.mp fy _ (List.getElem_mem j2))
    · refine ⟨.bl (eqL xs ys), H, I, ?_, k⟩
      show Value.bool _ = Value.bool _
      rw [List.size_toArray, ← l1, eqL_range hl]
  · refine SeqAt.eq_list_lengthsAt pl.isList pl2.isList (by simp only [List.size_toArray, bne_iff_ne]; omega) hu ?_
    exact ⟨.bl (eqL xs ys), H, I, by rw [eqL_len hl]; rfl, k⟩
end
open PySem
def tx (l : List Nat) : Str := ⟨l.toArray⟩
theorem tx_len (l : List Nat) : (tx l).length = l.length := by simp [tx, Str.length]
theorem tx_list (l : List Nat) : (tx l).cps.toList = l := by simp [tx]
theorem tx_get (l : List Nat) (i : Nat) : (tx l).cps[i]? = l[i]? := by simp [tx]
theorem tx_of (z : Str) : tx z.cps.toList = z := by cases z; simp [tx]
theorem tx_app (a b : List Nat) : tx a ++ tx b = tx (a ++ b) := by
  show Str.append (tx a) (tx b) = _
  simp [tx, Str.append]
theorem tx_inj {a b : List Nat} (h : tx a = tx b) : a = b := by
  have := congrArg (fun z : Str => z.cps.toList) h
  simpa [tx] using this
theorem tx_one (c : Nat) : (⟨#[c]⟩ : Str) = tx [c] := rfl
end L2
namespace PySem
open Sem (wp)
open Builtin Builtin.Str Builtin.Int
namespace RV
end RV
def revS (x : Str) (t : Tok) (i : Int) : Obj := { cls := .type "reversed", data := .fields #[.str x t, rawInt i] }
def Heap.IsRevS (h : Heap) (a : Addr) (x : Str) (t : Tok) (i : Int) : Prop := ∃ o, h.get? a = some o ∧ o.cls = .type "reversed" ∧ o.data = .fields #[.str x t, rawInt i]
section
variable {prog : Program} {w : World} {A : Around} {E : Value → Shared → Prop} {s : Shared}
end
end PySem
namespace L2
open PySem PySem.Spec PyProof.Rows
def revO (p : Addr) (x : Str) : HO := .ext fun h => ∃ t, h.IsRevS p x t ((x.length : Int) - 1)
def anyO (p : Addr) : HO := .ext fun h => ∃ o, h.get? p = some o
section
variable {X : Cx}
end
open PySem PySem.Spec PyProof.Rows
theorem iteDn {c A B : Prop} [Decidable c] (h : ¬ c) (k : B) : if decide c = true then A else B := by rw [decide_eq_false h]; exact iteF k
theorem iteDp {c A B : Prop} [Decidable c] (h : c) (k : A) : if decide c = true then A else B := by rw [decide_eq_true h]; exact iteT k
theorem iteNp {c A B : Prop} [Decidable c] (h : ¬ c) (k : A) : if (!decide c) = true then A else B := by rw [decide_eq_false h]; exact iteT k
theorem ite2D {c A B : Prop} [Decidable c] (h1 : c → A) (h2 : ¬ c → B) : if decide c = true then A else B := by
  by_cases h : c
  · exact iteDp h (h1 h)
  · exact iteDn h (h2 h)
theorem Same.upd {H : Hp} {p : Addr} {o : HO} (h : H p = none) : Same H (L2.upd H p o) := fun b o' e => by rw [upd_ne (ne_of_none e h)]; exact e
theorem Same.new {H H1 : Hp} {p : Addr} {o : HO} (e : Same H H1) (h : H1 p = none) : Same H (L2.upd H1 p o) := e.trans (.upd h)
theorem Same.over {H H1 : Hp} {p : Addr} {o : HO} (e : Same H H1) (h : H p = none) : Same H (L2.upd H1 p o) := fun b o' q => by rw [upd_ne (ne_of_none q h)]; exact e b o' q
theorem bt_len : bootBuiltins "len" = some (.builtin "len") := by decide +kernel
theorem bt_isinstance : bootBuiltins "isinstance" = some (.builtin "isinstance") := by decide +kernel
theorem bt_abs : bootBuiltins "abs" = some (.builtin "abs") := by decide +kernel
theorem bt_sum : bootBuiltins "sum" = some (.builtin "sum") := by decide +kernel
theorem bt_list : bootBuiltins "list" = some (.type "list") := by decide +kernel
theorem bt_str : bootBuiltins "str" = some (.type "str") := by decide +kernel
theorem bt_int : bootBuiltins "int" = some (.type "int") := by decide +kernel
theorem bt_bool : bootBuiltins "bool" = some (.type "bool") := by decide +kernel
theorem bt_range : bootBuiltins "range" = some (.type "range") := by decide +kernel
structure Df (K : PySem.W.Frag) (mg : Str → Option Value) (x : Str) (st : Stmt) (ps : List Str) (f : Addr) (fd : FuncData) : Prop where
  F : Fun K x x st f fd
  m : mg x = some (.ref f)
  b : Binds K fd ps []
def vS (cl : List (List Nat)) : List V := cl.map fun t => V.str (tx t)
def vI (ns : List Int) : List V := ns.map V.int
theorem vS_len (cl : List (List Nat)) : (vS cl).length = cl.length := by unfold vS; rw [List.length_map]
theorem vI_len (ns : List Int) : (vI ns).length = ns.length := by unfold vI; rw [List.length_map]
theorem vI_get {ns : List Int} {i : Nat} {n : Int} (h : ns[i]? = some n) : (vI ns)[i]? = some (.int n) := by unfold vI; rw [List.getElem?_map, h]; rfl
theorem vS_got {cl : List (List Nat)} {i : Nat} {v : V} (h : (vS cl)[i]? = some v) : ∃ t, cl[i]? = some t ∧ v = .str (tx t) := by
  unfold vS at h
  rw [List.getElem?_map] at h
  cases e : cl[i]? with
  | none => rw [e] at h; cases h
  | some t => rw [e] at h; exact ⟨t, rfl, (Option.some.inj h).symm⟩
theorem vI_got {ns : List Int} {i : Nat} {v : V} (h : (vI ns)[i]? = some v) : ∃ t, ns[i]? = some t ∧ v = .int t := by
  unfold vI at h
  rw [List.getElem?_map] at h
  cases e : ns[i]? with
  | none => rw [e] at h; cases h
  | some t => rw [e] at h; exact ⟨t, rfl, (Option.some.inj h).symm⟩
theorem vS_map (cl : List (List Nat)) : vS cl = (cl.map tx).map V.str := by unfold vS; rw [List.map_map]; rfl
theorem vI_set (ns : List Int) (j : Nat) (n : Int) : (vI ns).set j (.int n) = vI (ns.set j n) := by unfold vI; rw [List.map_set]
theorem vI_app (ns : List Int) (n : Int) : vI ns ++ [.int n] = vI (ns ++ [n]) := by unfold vI; rw [List.map_append]; rfl
theorem vS_app (cl : List (List Nat)) (t : List Nat) : vS cl ++ [.str (tx t)] = vS (cl ++ [t]) := by unfold vS; rw [List.map_append]; rfl
theorem atI_of {α : Type} {xs : List α} {i : Int} {v : α} (h0 : 0 ≤ i) (h : xs[i.toNat]? = some v) : atI xs i = some v := by
  have e : i = (i.toNat : Int) := by omega
  rw [e]
  exact atI_nat h
theorem ixN_of {n : Nat} {i : Int} (h0 : 0 ≤ i) (h : i < n) : ixN n i = some i.toNat := by unfold ixN; rw [if_pos h0, if_pos h]
open PySem PySem.Spec PyProof.Rows
section
variable {X : Cx} {K : PySem.W.Frag} {tg : Expr}
theorem ix_listK (hK : X.K = K := by rfl) : IxR X (rIxL K) := by subst hK; exact ix_list
theorem ix_tupK (hK : X.K = K := by rfl) : IxR X (rIxT K) := by subst hK; exact ix_tup
theorem op_eqLK (hu : X.A.units < cLine) (hK : X.K = K := by rfl) : OpR X (compareOp .Eq) (rEqL K) := by subst hK; exact op_eqL hu
theorem call_len_seqK (hK : X.K = K := by rfl) : CallR X (.builtin "len") (fun xs H Q => ∃ p ys, xs = [.ref p] ∧ (SqL K H p ys ∨ SqT K H p ys) ∧ Q (.int ys.length) H) := by subst hK; exact call_len_seq
theorem call_list_ofK (hK : X.K = K := by rfl) : CallR X (.type "list") (fun xs H Q => ∃ p ys, xs = [.ref p] ∧ (SqL K H p ys ∨ SqT K H p ys) ∧ ∀ l, H l = none → Q (.ref l) (upd H l (.lst ys))) := by subst hK; exact call_list_of
theorem call_isiK (hK : X.K = K := by rfl) : CallR X (.builtin "isinstance") (rIsi K) := by subst hK; exact call_isi
theorem mt_joinK (hK : X.K = K := by rfl) : MtR X "str.join" (rJoin K) := by subst hK; exact mt_join
theorem sl_listK (hK : X.K = K := by rfl) : SlR X (rSlL K) := by subst hK; exact sl_list
theorem pi_listK {l : Expr} {tl : TE} (hl : PE X l tl) (hK : X.K = K := by rfl) : PI X tg l (iList K tl) := by subst hK; exact pi_list hl
variable {o e : Expr} {es : List Expr} {to : TE} {t : TA} {name : Str} {apos cpos : Pos} {T id : String} {r : V → List V → Hp → VK → Prop}
theorem pe_bm0K (pa : PlainAttrs T) (slot : Slot T name id) (hty : typeOf (.builtin id) = pure (.type "method_descriptor")) (hm : MtR X id r) (ho : PE X o to)
    (hbase : attributeBase o name X.env (eval o X.env) = eval o X.env := by rfl) (hline : (apos.endLine == cpos.line) = true := by rfl) (hK : X.K = K := by rfl) : PE X (.Call (.Attribute o name apos) [] [] cpos) (tBM0 K T r to) := by
  subst hK
  exact pe_bm0 pa slot hty hm ho hbase hline
theorem pe_bmK (pa : PlainAttrs T) (slot : Slot T name id) (hty : typeOf (.builtin id) = pure (.type "method_descriptor")) (hm : MtR X id r) (ho : PE X o to) (ha : PA X (e :: es) t)
    (hbase : attributeBase o name X.env (eval o X.env) = eval o X.env := by rfl)
    (hfew : ((backTo cpos (starEach (e :: es) X.env)).all (fun x => !x.1) && (backToKw cpos (keywordEach [] X.env)).all (fun x => x.1.isSome)
      && decide ((e :: es).length + ([] : List Keyword).length + (if ([] : List Keyword).isEmpty then 0 else 1) < 30)) = true := by rfl)
    (hline : (apos.endLine == cpos.line) = true := by rfl) (hs : starEach (e :: es) X.env = (false, eval e X.env) :: starEach es X.env := by rfl) (hplain : (backTo cpos (starEach es X.env)).any (·.1) = false := by rfl) (hK : X.K = K := by rfl) :
    PE X (.Call (.Attribute o name apos) (e :: es) [] cpos) (tBM K T r to t) := by
  subst hK
  exact pe_bm pa slot hty hm ho ha hbase hfew hline hs hplain
end
open PySem PySem.Spec PyProof.Rows
abbrev exO (C t : Addr) (tb : Value) : Obj := { cls := .ref C, data := .fields #[.ref t, tb, .none, .none, .bool false, .none] }
structure Fx (B : Heap) (l : List Env) (e C t : Addr) (fl : Value) (h : Heap) : Prop where
  st : B.StaysIn h
  ne : B.get? e = none
  fr : h.FunFrames B l
  ob : ∃ (T : Addr) (oT : Obj) (ts : Array Value), h.get? e = some (exO C t (.ref T)) ∧ B.get? T = none ∧ T ≠ e ∧ h.get? T = some oT ∧ oT.data = .fields ts ∧ ts[3]? = some fl
theorem Fx.outer {B : Heap} {env : Env} {l : List Env} {e C t : Addr} {fl : Value} {h : Heap} (x : Fx B (env :: l) e C t fl h) : Fx B l e C t fl h := ⟨x.st, x.ne, x.fr.2.2, x.ob⟩
section
variable {M : Model} {A : Around} {E : Value → Shared → Prop} {s : Shared} {B : Heap} {env : Env} {l : List Env} {e C t L : Addr}
theorem fx_land {fl : Value} {Q : Unit → Shared → Prop} (x : Fx B l e C t fl s.heap) (k : ∀ h', Fx B l e C t .none h' → s.heap.UpToSlots h' → Q () { s with heap := h' }) : wpAny M A (setFlight (.ref e) none) Q E s := by
  obtain ⟨st, ne, fr, T, oT, ts, hE, hBT, hTe, hT, hdT, h3⟩ := x
  have h3s : 3 < ts.size := (Array.getElem?_eq_some_iff.mp h3).1
  unfold setFlight
  refine wpAny_bind (wpAny_field hE rfl (x := .ref T) rfl ?_)
  rw [if_pos (show (Value.ref T != Value.none) = true by simp)]
  refine wpAny_setField hT hdT h3s (k _ ?_ ?_)
  all_goals
    have oth : ∀ b, b ≠ T → (s.heap.update T (Obj.mapFields (·.setIfInBounds 3 ((none : Option Addr).elim Value.none fun f => rawInt f)))).get? b = s.heap.get? b := fun b hb => Heap.get?_update_other _ _ (Ne.symm hb)
    have nrec : ∀ b o, s.heap.get? b = some o → (∀ vs, o.data ≠ .fields vs) → b ≠ T := fun b o hb hn q => by
      rw [q, hT] at hb
      cases hb
      exact hn ts hdT
  · refine ⟨fun b o hb => (oth b fun q => by rw [q, hBT] at hb; cases hb).trans (st b o hb), ne, fr.of_keeps fun b o hb hn => ⟨o, (oth b (nrec b o hb hn)).trans hb, rfl⟩, T, _, _, (oth e (Ne.symm hTe)).trans hE, hBT, hTe,
      Heap.get?_update_self _ hT (Obj.isFreed_of_fields (Obj.data_mapFields hdT _)), Obj.data_mapFields hdT _, ?_⟩
    simp [h3s]
  · exact fun b o hb hn => ⟨o.slots, (oth b (nrec b o hb hn)).trans hb⟩
theorem fx_enter {tb : Value} {had : Bool} {Q : Unit → Shared → Prop} (hfr : A.frames = some (env :: l)) (hf : env.frame = some L) (st : B.StaysIn s.heap) (ne : B.get? e = none) (fr : s.heap.FunFrames B (env :: l))
    (hE : s.heap.get? e = some (exO C t tb)) (k : ∀ h', Fx B (env :: l) e C t (rawInt L) h' → s.heap.UpToSlots h' → Q () { s with heap := h' }) :
    wpAny M A (do let a ← frameOf env; let pl ← entryPlaceOf L had; let b ← EntryCells.newEntry tb a .none (rawInt L) .none pl; setField (.ref e) 1 b) Q E s := by
  have eF : e ∉ (env :: l).filterMap (·.frame) := fun hm => by
    obtain ⟨_, o, ho, hn⟩ := fr.mem hm
    rw [hE] at ho
    cases ho
    exact hn _ rfl
  refine wpAny_bind (wpAny_frameOf_fun hfr fr hf fun h1 so => wpAny_bind (wpAny_entryPlaceOf fun pl hpl => ?_))
  unfold EntryCells.newEntry newFields
  refine wpAny_bind (wpAny_newObj_type ?_ (hpl.sizeOk5 _ _ _ _ _))
  have E1 : h1.get? e = some (exO C t tb) := (so.2.1 e eF).trans hE
  have st1 : B.StaysIn h1 := fun b o hb => (so.2.1 b fun hm => by rw [(fr.mem hm).1] at hb; cases hb).trans (st b o hb)
  have TE : h1.objs.size ≠ e := Nat.ne_of_gt (Heap.lt_size E1)
  generalize hN : ({ cls := .type "traceback", dict := none, data := .fields ([tb, .ref L, .none, rawInt L, .none] ++ (if pl.isEmpty then List.replicate 6 Value.none else pl)).toArray } : Obj) = nT
  have E2 : (h1.push nT).get? e = some (exO C t tb) := Heap.get?_push_of_some nT E1
  refine wpAny_setField (s := { s with heap := h1.push nT }) E2 rfl (by show 1 < 6; decide) (k _ ?_ ?_)
  all_goals
    have kp : ∀ b o, b ≠ e → h1.get? b = some o → ((h1.push nT).update e (Obj.mapFields (·.setIfInBounds 1 (Value.ref h1.objs.size)))).get? b = some o := fun b o hb q =>
      (Heap.get?_update_other _ _ (Ne.symm hb)).trans (Heap.get?_push_of_some nT q)
    have nrec : ∀ b o, s.heap.get? b = some o → (∀ vs, o.data ≠ .fields vs) → b ≠ e := fun b o hb hn q => by
      rw [q, hE] at hb
      cases hb
      exact hn _ rfl
  · have freed : nT.isFreed = false := by rw [← hN]; rfl
    refine ⟨fun b o hb => kp b o (fun q => by rw [q, ne] at hb; cases hb) (st1 b o hb), ne, fr.of_keeps fun b o hb hn => ?_, h1.objs.size, nT, _, Heap.get?_update_self _ E2 rfl, st1.fresh, TE,
      (Heap.get?_update_other _ _ (Ne.symm TE)).trans (Heap.get?_push_size h1 freed), by rw [← hN], by simp⟩
    obtain ⟨sl, q⟩ := so.2.2 b o hb
    exact ⟨_, kp b _ (nrec b o hb hn) q, rfl⟩
  · intro b o hb hn
    obtain ⟨sl, q⟩ := so.2.2 b o hb
    exact ⟨sl, kp b _ (nrec b o hb hn) q⟩
theorem fx_note0 {Q : Unit → Shared → Prop} (hfr : A.frames = some (env :: l)) (hf : env.frame = some L) (st : B.StaysIn s.heap) (ne : B.get? e = none) (fr : s.heap.FunFrames B (env :: l))
    (hE : s.heap.get? e = some (exO C t .none)) (k : ∀ h', Fx B (env :: l) e C t (rawInt L) h' → s.heap.UpToSlots h' → Q () { s with heap := h' }) : wpAny M A (noteFrame (.ref e) env) Q E s := by
  unfold noteFrame
  simp only [hf]
  refine wpAny_bind (wpAny_field hE rfl (x := .none) rfl ?_)
  rw [if_neg (by decide)]
  exact fx_enter hfr hf st ne fr hE k
theorem fx_note {Q : Unit → Shared → Prop} (hfr : A.frames = some (env :: l)) (hf : env.frame = some L) (x : Fx B (env :: l) e C t .none s.heap)
    (k : ∀ h', Fx B (env :: l) e C t (rawInt L) h' → s.heap.UpToSlots h' → Q () { s with heap := h' }) : wpAny M A (noteFrame (.ref e) env) Q E s := by
  obtain ⟨st, ne, fr, T, oT, ts, hE, hBT, hTe, hT, hdT, h3⟩ := x
  unfold noteFrame
  simp only [hf]
  refine wpAny_bind (wpAny_field hE rfl (x := .ref T) rfl ?_)
  rw [if_pos (show (Value.ref T != Value.none) = true by simp)]
  refine wpAny_bind (wpAny_field hT hdT h3 ?_)
  rw [if_neg (show ¬ ((Value.none == rawInt L) = true) by simp [rawInt])]
  refine wpAny_bind (wpAny_setField hT hdT (Array.getElem?_eq_some_iff.mp h3).1 ?_)
  have oth : ∀ b, b ≠ T → (s.heap.update T (Obj.mapFields (·.setIfInBounds 3 Value.none))).get? b = s.heap.get? b := fun b hb => Heap.get?_update_other _ _ (Ne.symm hb)
  have nrec : ∀ b o, s.heap.get? b = some o → (∀ vs, o.data ≠ .fields vs) → b ≠ T := fun b o hb hn q => by
    rw [q, hT] at hb
    cases hb
    exact hn ts hdT
  exact fx_enter (s := { s with heap := s.heap.update T (Obj.mapFields (·.setIfInBounds 3 Value.none)) }) hfr hf (fun b o hb => (oth b fun q => by rw [q, hBT] at hb; cases hb).trans (st b o hb)) ne
    (fr.of_keeps fun b o hb hn => ⟨o, (oth b (nrec b o hb hn)).trans hb, rfl⟩) ((oth e (Ne.symm hTe)).trans hE)
    fun h' y u => k h' y fun b o hb hn => u b o ((oth b (nrec b o hb hn)).trans hb) hn
end
open PySem PySem.Spec PyProof.Rows
section
variable {M : Model} {A : Around} {E : Value → Shared → Prop} {s : Shared} {B : Heap} {env : Env} {l : List Env} {e C t L : Addr}
theorem fx_flight {fl : Value} {f : Option Addr} {Q : Unit → Shared → Prop} (x : Fx B l e C t fl s.heap) (k : ∀ h', Fx B l e C t (f.elim Value.none fun f => rawInt f) h' → s.heap.UpToSlots h' → Q () { s with heap := h' }) : wpAny M A (setFlight (.ref e) f) Q E s := by
  obtain ⟨st, ne, fr, T, oT, ts, hE, hBT, hTe, hT, hdT, h3⟩ := x
  have h3s : 3 < ts.size := (Array.getElem?_eq_some_iff.mp h3).1
  unfold setFlight
  refine wpAny_bind (wpAny_field hE rfl (x := .ref T) rfl ?_)
  rw [if_pos (show (Value.ref T != Value.none) = true by simp)]
  refine wpAny_setField hT hdT h3s (k _ ?_ ?_)
  all_goals
    have oth : ∀ b, b ≠ T → (s.heap.update T (Obj.mapFields (·.setIfInBounds 3 (f.elim Value.none fun f => rawInt f)))).get? b = s.heap.get? b := fun b hb => Heap.get?_update_other _ _ (Ne.symm hb)
    have nrec : ∀ b o, s.heap.get? b = some o → (∀ vs, o.data ≠ .fields vs) → b ≠ T := fun b o hb hn q => by
      rw [q, hT] at hb
      cases hb
      exact hn ts hdT
  · refine ⟨fun b o hb => (oth b fun q => by rw [q, hBT] at hb; cases hb).trans (st b o hb), ne, fr.of_keeps fun b o hb hn => ⟨o, (oth b (nrec b o hb hn)).trans hb, rfl⟩, T, _, _, (oth e (Ne.symm hTe)).trans hE, hBT, hTe,
      Heap.get?_update_self _ hT (Obj.isFreed_of_fields (Obj.data_mapFields hdT _)), Obj.data_mapFields hdT _, ?_⟩
    simp [h3s]
  · exact fun b o hb hn => ⟨o.slots, (oth b (nrec b o hb hn)).trans hb⟩
theorem fx_noteN {Q : Unit → Shared → Prop} (hf : env.frame = some L) (x : Fx B l e C t (rawInt L) s.heap) (k : Q () s) : wpAny M A (noteFrame (.ref e) env) Q E s := by
  obtain ⟨st, ne, fr, T, oT, ts, hE, hBT, hTe, hT, hdT, h3⟩ := x
  unfold noteFrame
  simp only [hf]
  refine wpAny_bind (wpAny_field hE rfl (x := .ref T) rfl ?_)
  rw [if_pos (show (Value.ref T != Value.none) = true by simp)]
  refine wpAny_bind (wpAny_field hT hdT h3 ?_)
  rw [if_pos (show ((rawInt L == rawInt L) = true) by simp)]
  exact wpAny_pure k
end
structure Bk (P : Program) (w : World) (outer : List Env) (H : Hp) (h : Heap) (H' : Hp) (B h' : Heap) : Prop where
  ok : HOk P w H' B
  keep : ∀ b o, h.get? b = some o → H b = none → b ∉ frs outer → B.get? b = some o
  slot : ∀ b o, h.get? b = some o → b ∈ frs outer → ∃ sl, h'.get? b = some { o with slots := sl }
  free : ∀ b o, h.get? b = some o → H b = none → H' b = none
  there : ∀ b o, h.get? b = some o → b ∉ frs outer → ∃ o', B.get? b = some o'
  tups : ∀ b xs, H b = some (.tup xs) → H' b = some (.tup xs)
  frzs : ∀ b o u, H b = some (.frz o u) → H' b = some (.frz o u)
  tbls : ∀ b ps, H b = some (.tbl ps) → ∃ more, H' b = some (.tbl (ps ++ more))
theorem Bk.slots {P : Program} {w : World} {outer : List Env} {H H' : Hp} {h B h1 h2 : Heap} (k : Bk P w outer H h H' B h1) (fr : h1.FunFrames B outer) (u : h1.UpToSlots h2) : Bk P w outer H h H' B h2 :=
  ⟨k.ok, k.keep, fun b o q hb => by
    obtain ⟨sl, e⟩ := k.slot b o q hb
    obtain ⟨_, o2, e2, n2⟩ := fr.mem hb
    rw [e] at e2
    cases e2
    obtain ⟨sl2, e3⟩ := u b _ e n2
    exact ⟨sl2, e3⟩, k.free, k.there, k.tups, k.frzs, k.tbls⟩
def CX1 (P : Program) (w : World) : CXT := fun outer H s E e s' => ∃ ea C t H' B, e = .ref ea ∧ Fx B outer ea C t .none s'.heap ∧ s'.os = s.os ∧ AllBare s'.gens ∧ Bk P w outer H s.heap H' B s'.heap ∧ E (.ref C) none H'
inductive Fly (B : Heap) (l : List Env) (L ea C t : Addr) (h : Heap) : Prop where
  | new (st : B.StaysIn h) (ne : B.get? ea = none) (fr : h.FunFrames B l) (ob : h.get? ea = some (exO C t .none))
  | came (x : Fx B l ea C t .none h)
  | seen (x : Fx B l ea C t (rawInt L) h)
theorem Fly.fr {B : Heap} {l : List Env} {L ea C t : Addr} {h : Heap} (x : Fly B l L ea C t h) : h.FunFrames B l := by
  cases x with
  | new st ne fr ob => exact fr
  | came x => exact x.fr
  | seen x => exact x.fr
def FlX (X : Cx) (E : XK) : Value → Shared → Prop := fun e s' => ∃ ea C t H' B, e = .ref ea ∧ Fly B X.stack X.env.locals ea C t s'.heap ∧ s'.os = X.s₀.os ∧ AllBare s'.gens ∧ Bk X.prog X.w X.outer X.H₀ X.s₀.heap H' B s'.heap ∧ E (.ref C) none H'
structure Body (X : Cx) : Prop where
  stack : X.stack = X.env :: X.outer
  frame : X.env.frame = some X.env.locals
  ex : X.ex = []
section
variable {X : Cx} {pins : List (Addr × Obj)} {σ : St} {H : Hp} {s s' : Shared} {E : XK} {e : Value}
theorem Inv.frsN (I : Inv X pins σ H s) {b : Addr} {o : Obj} (q : X.s₀.heap.get? b = some o) (hb : b ∉ X.fs) : b ∉ frs X.stack := fun hm => by
  rcases List.mem_cons.mp (I.stkSub b hm) with z | z
  · rw [z] at q
    exact absurd (Nat.lt_of_lt_of_le (Heap.lt_size q) I.ok.above) (Nat.lt_irrefl _)
  · exact hb z
theorem passX (hB : Body X) (I : Inv X pins σ H s) (c : CX1 X.prog X.w X.stack H s E e s') : FlX X E e s' := by
  obtain ⟨ea, C, t, H', B, rfl, fx, os, bare, bk, q⟩ := c
  have nx : ∀ b : Addr, b ∉ X.ex := fun b z => by rw [hB.ex] at z; exact nomatch z
  have fsS : ∀ b, b ∈ X.fs → b ∈ frs X.stack := fun b hb => by
    rw [hB.stack]; unfold frs; rw [List.filterMap_cons, hB.frame]; exact List.mem_cons_of_mem _ hb
  refine ⟨ea, C, t, H', B, rfl, .came fx, os.trans I.os, bare, ⟨bk.ok, fun b o e n hb => ?_, fun b o e hb => ?_, fun b o e n => ?_, fun b o e hb => ?_, fun b xs e => bk.tups b xs (I.base.tups b xs e), fun b o u e => bk.frzs b o u (I.base.frzs b o u e), fun b ps e => ?_⟩, q⟩
  · exact bk.keep b o (I.base.keep b o e n hb (nx b)) (I.base.free b o e n (nx b)) (I.frsN e hb)
  · obtain ⟨sl, e1⟩ := I.base.slot b o e (I.ok.frf b hb) hb (nx b)
    obtain ⟨sl2, e2⟩ := bk.slot b _ e1 (fsS b hb)
    exact ⟨sl2, e2⟩
  · obtain ⟨o', e1⟩ := I.base.there b o e (nx b)
    exact bk.free b o' e1 (I.base.free b o e n (nx b))
  · obtain ⟨o', e1⟩ := I.base.there b o e (nx b)
    exact bk.there b o' e1 (I.frsN e hb)
  · obtain ⟨m1, e1⟩ := I.base.tbls b ps e
    obtain ⟨m2, e2⟩ := bk.tbls b _ e1
    exact ⟨m1 ++ m2, by rw [e2, Array.append_assoc]⟩
theorem madeX {h' : Heap} {ea C : Addr} {vs : List Value} (hB : Body X) (I : Inv X pins σ H s) (hx : Heap.MadeExcOf s.heap h' ea (.ref C) vs) (q : E (.ref C) none H) : FlX X E (.ref ea) { s with heap := h' } := by
  obtain ⟨t, ht, _, _⟩ := hx.there
  have nx : ∀ b : Addr, b ∉ X.ex := fun b z => by rw [hB.ex] at z; exact nomatch z
  have nfr : ∀ b u, H b = some u → b ∉ frs X.stack := fun b u e hm => by rw [I.stkFree b hm] at e; cases e
  refine ⟨ea, C, t, H, PySem.W.hideAll s.heap (frs X.stack), rfl, .new (fun b o e => hx.keeps b o (PySem.W.of_hideAll _ e)) ?_ ?_ ht, I.os, I.bare, ⟨fun b u e => ?_, fun b o e n hb => ?_, fun b o e hb => ?_, fun b o e n => I.base.free b o e n (nx b), fun b o e hb => ?_, I.base.tups, I.base.frzs, I.base.tbls⟩, q⟩
  · cases z : (PySem.W.hideAll s.heap (frs X.stack)).get? ea with
    | none => rfl
    | some o =>
      have := PySem.W.of_hideAll _ z
      rw [hx.new] at this
      cases this
  · exact (PySem.W.funFrames_hide I.stack fun env he a ha => List.mem_filterMap.mpr ⟨env, he, ha⟩).of_keeps fun b o hb _ => ⟨o, hx.keeps b o hb, rfl⟩
  · refine (I.hok b u e).stay (fun c v hc z => PySem.W.hideAll_get _ z ?_) (fun _ z => z) fun _ _ z => z
    rcases hc with z | z
    · rw [z]; exact nfr b u e
    · exact nfr c _ z
  · exact PySem.W.hideAll_get _ (I.base.keep b o e n hb (nx b)) (I.frsN e hb)
  · obtain ⟨sl, e1⟩ := I.base.slot b o e (I.ok.frf b hb) hb (nx b)
    exact ⟨sl, hx.keeps _ _ e1⟩
  · obtain ⟨o', e1⟩ := I.base.there b o e (nx b)
    exact ⟨o', PySem.W.hideAll_get _ e1 (I.frsN e hb)⟩
theorem noteX {M : Model} {Q : Unit → Shared → Prop} {E' : Value → Shared → Prop} {B : Heap} {ea C t : Addr} (hB : Body X) (hfr : X.A.frames = some X.stack) (x : Fly B X.stack X.env.locals ea C t s.heap)
    (k : ∀ h', Fx B X.stack ea C t (rawInt X.env.locals) h' → s.heap.UpToSlots h' → Q () { s with heap := h' }) : wpAny M X.A (noteFrame (.ref ea) X.env) Q E' s := by
  rw [hB.stack] at x hfr k
  cases x with
  | new st ne fr ob => exact fx_note0 hfr hB.frame st ne fr ob k
  | came x => exact fx_note hfr hB.frame x k
  | seen x => exact fx_noteN hB.frame x (k s.heap x (.refl _))
theorem frs_sub (hB : Body X) {B h : Heap} (x : h.FunFrames B X.stack) : h.FunFrames B X.outer := by
  rw [hB.stack] at x
  exact x.2.2
theorem leaveX {M : Model} {E' : Value → Shared → Prop} (hB : Body X) (hfr : X.A.frames = some X.stack) (c : FlX X E e s) : wpAny M X.A (leaving X.env e) (fun _ s'' => CX1 X.prog X.w X.outer X.H₀ X.s₀ E e s'') E' s := by
  obtain ⟨ea, C, t, H', B, rfl, fx, os, bare, bk, q⟩ := c
  unfold leaving
  refine wpAny_bind (noteX hB hfr fx fun h1 x1 u1 => fx_land (s := { s with heap := h1 }) x1 fun h2 x2 u2 => ?_)
  have x3 := x2
  rw [hB.stack] at x3
  exact ⟨ea, C, t, H', B, rfl, x3.outer, os, bare, bk.slots (frs_sub hB fx.fr) (u1.trans u2), q⟩
theorem ownX (hB : Body X) (hfr : X.A.frames = some X.stack) : PassesOwn (model X.prog X.w) X.A X.env (FlX X E) := by
  rintro e s ⟨ea, C, t, H', B, rfl, fx, os, bare, bk, q⟩
  unfold notedBy
  refine noteX hB hfr fx fun h1 x1 u1 => ?_
  obtain ⟨T, oT, ts, hE, _⟩ := x1.ob
  unfold cameBackBy
  refine wpAny_bind (wpAny_field (s := { s with heap := h1 }) hE rfl (x := .ref T) rfl ?_)
  rw [if_neg (by simp)]
  refine fx_flight (s := { s with heap := h1 }) (f := X.env.frame) x1 fun h2 x2 u2 => ?_
  rw [hB.frame] at x2
  exact ⟨ea, C, t, H', B, rfl, .seen x2, os, bare, bk.slots (frs_sub hB fx.fr) (u1.trans u2), q⟩
end
open PySem PySem.Spec PyProof.Rows
def mroK (K : PySem.W.Frag) (C : Addr) : List Value := match K.lookup C with
  | some ⟨_, _, .cls cd, _⟩ => cd.mro
  | _ => []
theorem exc_obj {K : PySem.W.Frag} {h : Heap} {C : Addr} {bmB : List Value} {nid : String} (X : K.In h) (q : PySem.W.excIn K C bmB nid = true) :
    ∃ bm N nm qn bs hdct sn sub ab col dd k0 k1 k2 k3 k5 mN, mroK K C = .ref C :: bm ∧ h.get? C = some (excClassObj nm qn C N bs bm hdct sn sub ab col dd k0 k1 k2 k3 k5 nid) ∧ h.Ns N mN ∧ mN "__init__" = none ∧ OwnTail h bmB bm := by
  unfold PySem.W.excIn at q
  split at q
  next dd cd sl ho =>
    split at q
    next C' bm k0 k1 k2 k3 n k5 hm hs =>
      have hM : mroK K C = cd.mro := by unfold mroK; rw [ho]
      simp only [Bool.and_eq_true, beq_iff_eq, Bool.not_eq_true'] at q
      obtain ⟨⟨⟨⟨⟨q1, q2⟩, hdel⟩, ht⟩, hok⟩, hni⟩ := q
      subst q1 q2
      have hsl : sl = #[k0, k1, k2, k3, some (.builtin n), k5] := by rw [← hs]
      rw [hm] at hM
      cases cd
      dsimp only at hm hdel hok hni
      subst hm hdel hsl
      exact ⟨bm, _, _, _, _, _, _, _, _, _, dd, k0, k1, k2, k3, k5, _, hM, X _ _ ho, .of_isNs (PySem.W.isNs_of_in X hok), PySem.W.nsMap_none_of_in X hok hni, PySem.W.tail_of_in X ht⟩
    next => cases q
  next => cases q
def tRaise (C : Addr) (E : XK) (t : TA) : TS := fun _ σ H => t σ H fun vs H1 => vs.length ≤ sizeLine ∧ E (.ref C) none H1
section
variable {X : Cx} {x : Str} {C : Addr} {bmB bmN : List Value} {B Bn nid nid' iid iid' : String} {E : XK} {e : Expr} {es : List Expr} {t : TA} {np cpos pos : Pos}
theorem ps_raise (hB : Body X) (hc : X.calm = true) (hw : ∀ e s', FlX X E e s' → X.xe e s') (Fn : ExcBaseFacts Bn nid iid bmN) (hn : bmB.contains (.type Bn) = true) (FB : ExcBaseFacts B nid' iid' bmB) (q : PySem.W.excIn X.K C bmB nid = true) (hg : Gl X x) (hm : X.mg x = some (.ref C)) (ha : PA X.nox (e :: es) t)
    (hd : (x == ("__debug__" : Str)) = false := by decide) (he : starEach (e :: es) X.env = (false, eval e X.env) :: starEach es X.env := by rfl) (hpl : (backTo cpos (starEach es X.env)).any (·.1) = false := by rfl) :
    PS X (.Raise (some (.Call (.Name x np) (e :: es) [] cpos)) none pos) (tRaise C E t) := by
  intro pins s σ H D I h
  obtain ⟨bm, N, nm, qn, bs, hdct, sn, sub, ab, col, dd, k0, k1, k2, k3, k5, mN, _, hC, hN, hni, T⟩ := exc_obj I.ok.mod.kin q
  refine wpAny_Raise_call_subU (N := N) (C := C) (k5 := k5) (k3 := k3) (k2 := k2) (k1 := k1) (k0 := k0) (dd := dd) (col := col) (ab := ab) (sub := sub) (sn := sn) (hdct := hdct) (bs := bs) (q := qn) (nm := nm) (newId := nid) Fn hn FB (mN := mN) (T.hasType FB.hasBase) (I.ok.hd hc) (by rw [he]; show (false || (backTo cpos (starEach es X.env)).any (·.1)) = false; rw [hpl]; rfl) hni (ld_glob I hg hm ⟨rfl, ?_⟩ hd)
  have h1 := ha cpos pins s σ H _ (I.wish _) h
  rw [he] at h1 ⊢
  refine Calls.evalArgs_plain (wpAny_mono h1 (fun us s2 z => ?_) fun _ _ z => z.elim)
  obtain ⟨vs, H1, I1, r, hl, hE⟩ := z
  have I2 : Inv X pins σ H1 s2 := I1.unwish
  exact ⟨rfl, by rw [← r.length]; exact hl, I2.bk _ _ hC, hN.keeps I2.bk, T.keeps I2.bk, fun h' ea hx => hw _ _ (madeX hB I2 hx hE)⟩
end
abbrev cx1 (P : Program) (w : World) (K : PySem.W.Frag) (mg : Str → Option Value) (base : Heap) (N : List Str) (qual : Str) (scope : Scope) (f : Addr) (cd : Value) (A : Around) (outer : List Env) (s : Shared) (H : Hp) (E : XK) : Cx :=
  (cxOf (CX1 P w) P w K mg base N qual scope f cd A outer s H E).wish (FlX (cxOf (CX1 P w) P w K mg base N qual scope f cd A outer s H E) E)
section
variable {P : Program} {w : World} {K : PySem.W.Frag} {mg : Str → Option Value} {base : Heap}
theorem body1 {N : List Str} {qual : Str} {scope : Scope} {f : Addr} {cd : Value} {A : Around} {outer : List Env} {s : Shared} {H : Hp} {E : XK} : Body (cx1 P w K mg base N qual scope f cd A outer s H E) := ⟨rfl, rfl, rfl⟩
theorem Fun.okX {x qual : Str} {st : Stmt} {f : Addr} {fd : FuncData} {N ps : List Str} {k : Nat} {sp : Sp} (F : Fun K x qual st f fd) (S : FnScope N ps (defScope st)) (len : ∀ vs H Q E, sp vs H Q E → vs.length = ps.length)
    (hbody : ∀ (cdv : Value) (A : Around) (outer : List Env) (s : Shared) (H : Hp) (vs : List V) (Q : VK) (E : XK), Room k (A.deeper (envOfC qual (defScope st) s.heap.objs.size f cdv)) → sp vs H Q E →
      ∃ t, PSs (cx1 P w K mg base N qual (defScope st) f cdv A outer s H E) (defBody st) t ∧ t { nx := fun _ H' => Q .non H', rt := Q } (start N vs) H) : FnOk P w K mg base (CX1 P w) (k + 1) f fd ps sp := by
  obtain ⟨oc, od, kV, doc, pm, an, cdv, ct, osl, rfl, lk, hcd⟩ := F.ex
  refine fn_of lk hcd S len fun A outer s H vs Q E hr hsp => ?_
  obtain ⟨t, h, q⟩ := hbody cdv A outer s H vs Q E hr hsp
  refine ⟨t, fun pins s1 σ H1 D I h1 => ?_, q⟩
  exact wpAny_mono (h pins s1 σ H1 D (I.wish _) h1) (fun _ _ z => z.unwish) fun e s' z => leaveX (X := cxOf (CX1 P w) P w K mg base N qual (defScope st) f cdv A outer s H E) ⟨rfl, rfl, rfl⟩ I.ok.frames z
theorem pass1 {N : List Str} {qual : Str} {scope : Scope} {f : Addr} {cd : Value} {A : Around} {outer : List Env} {s : Shared} {H : Hp} {E : XK} :
    Passes (CX1 P w) (cx1 P w K mg base N qual scope f cd A outer s H E) E := fun _ _ _ _ _ _ I c => passX ⟨rfl, rfl, rfl⟩ I.unwish c
end
theorem PS.nox {X : Cx} {st : Stmt} {t : TS} (h : PS X.nox st t) : PS X st t := fun pins s σ H D I hw =>
  wpAny_mono (h pins s σ H D (I.wish _) hw) (fun _ _ q => q.unwish) fun _ _ z => False.elim z
def PEX (X : Cx) (e : Expr) (t : XK → TE) : Prop := ∀ (pins : List (Addr × Obj)) (s : Shared) (σ : St) (H : Hp) (Q : VK) (E : XK), Inv X pins σ H s → t E σ H Q →
  wpAny (model X.prog X.w) X.A (eval e X.env) (EP X pins σ Q) (fun ex s' => ∃ H1 s1, Inv X pins σ H1 s1 ∧ CX1 X.prog X.w X.stack H1 s1 E ex s') s
section
variable {X : Cx} {k : Nat} {f C : Addr} {fd : FuncData} {ps : List Str} {sp : Sp} {dvs : List V} {ds : List Value} {x m : Str} {p pos apos : Pos} {e o : Expr} {es : List Expr} {ta : TE} {t : TA}
theorem run_fnX {pins : List (Addr × Obj)} {σ : St} {H : Hp} {s : Shared} {Q : VK} {E : XK} {us : List Value} {vs : List V} (F : FnOk X.prog X.w X.K X.mg X.base (CX1 X.prog X.w) k f fd ps sp) (hr : Room k X.A) (hb : Binds X.K fd ps ds) (hd : Vals dvs ds)
    (I : Inv X pins σ H s) (r : Vals vs us) (h : sp (vs ++ dvs) H Q E) : wpAny (model X.prog X.w) X.A (call (.ref f) us) (EP X pins σ Q) (fun ex s' => ∃ H1 s1, Inv X pins σ H1 s1 ∧ CX1 X.prog X.w X.stack H1 s1 E ex s') s := by
  have r2 : Vals (vs ++ dvs) (us ++ ds) := r.append hd
  have hl : (us ++ ds).length = ps.length := (r2.length.symm).trans (F.len _ _ _ _ h)
  refine wpAny_call (codeAny_mono (F.run X.A X.stack s H ⟨us, []⟩ (us ++ ds) (vs ++ dvs) Q E hr I.env0 (hb s us I.kIn hl) r2 h) fun rs s' hq => ?_)
  match rs, hq with
  | .error e, hq => exact ⟨H, s, I, hq⟩
  | .ok (.ret u), hq => exact I.after hq
  | .ok .next, hq => exact False.elim hq
  | .ok .brk, hq => exact False.elim hq
  | .ok .cont, hq => exact False.elim hq
theorem pex_call (F : FnOk X.prog X.w X.K X.mg X.base (CX1 X.prog X.w) k f fd ps sp) (hr : Room k X.A) (hg : Gl X x) (hm : X.mg x = some (.ref f)) (hk : PySem.W.keepIn X.K (.ref f) = true) (hb : Binds X.K fd ps ds) (hd : Vals dvs ds)
    (ha : PA X.nox (e :: es) t) (hdb : (x == ("__debug__" : Str)) = false := by decide) (he : starEach (e :: es) X.env = (false, eval e X.env) :: starEach es X.env := by rfl) (hpl : (backTo pos (starEach es X.env)).any (·.1) = false := by rfl) :
    PEX X (.Call (.Name x p) (e :: es) [] pos) fun E => tCall sp dvs E t := by
  intro pins s σ H Q E I h
  refine wpAny_Call_Name_kw (ld_glob I hg hm ?_ hdb)
  refine PySem.W.callWith_K (h₀ := X.base) I.ok.mod.kin hk (wpAny_mono (ha pos pins s σ H _ (I.wish _) h) (fun us s1 ⟨vs, H1, I1, r, q⟩ => ⟨I1.kIn, ?_⟩) fun _ _ z => z.elim) he hpl
  exact run_fnX F hr hb hd (I1.unwish) r q
end
open PySem PySem.Spec PyProof.Rows
def exH (C a : Addr) : HO := .ext fun h => ∃ t tb, h.get? a = some (exO C t tb)
theorem ObjOk.get {P : Program} {w : World} {H : Hp} {h : Heap} {a : Addr} {o : HO} (x : ObjOk P w H h a o) : ∃ u, h.get? a = some u := by
  induction o with
  | lst xs => obtain ⟨_, _, _, _, e⟩ := x; exact ⟨_, e⟩
  | tup xs => obtain ⟨_, _, _, _, e, _⟩ := x; exact ⟨_, e⟩
  | dK kvs => obtain ⟨_, _, _, _, _, _, _, e, _⟩ := x; exact ⟨_, e⟩
  | dT kvs => obtain ⟨_, _, _, _, _, _, _, e, _⟩ := x; exact ⟨_, e⟩
  | set S n => obtain ⟨_, _, _, _, e, _⟩ := x; exact ⟨_, e⟩
  | ins C dx fs => obtain ⟨_, _, _, e, _⟩ := x; exact ⟨_, e⟩
  | own y => obtain ⟨_, e⟩ := x; exact ⟨_, e⟩
  | xd fs => obtain ⟨_, ⟨_, _, _, e, _⟩, _⟩ := x; exact ⟨_, e⟩
  | rng lo hi => obtain ⟨_, _, _, e⟩ := x; exact ⟨_, e⟩
  | frz ob u ih => obtain ⟨e, _⟩ := x; exact ⟨_, e⟩
  | tbl ps => exact ⟨_, x⟩
  | met f y => exact ⟨_, x⟩
  | ext φ => exact x.2.1
section
variable {X : Cx} {pins : List (Addr × Obj)} {σ : St} {H H' : Hp} {s s' : Shared} {B h2 : Heap} {ea C t : Addr} {fl : Value}
theorem Bk.none {P : Program} {w : World} {outer : List Env} {h h' : Heap} (k : Bk P w outer H h H' B h') (ne : B.get? ea = Option.none) : H' ea = Option.none := by
  cases q : H' ea with
  | none => rfl
  | some o =>
    obtain ⟨u, e⟩ := (k.ok ea o q).get
    rw [ne] at e
    cases e
theorem caughtI (I : Inv X pins σ H s) (os : s'.os = s.os) (bare : AllBare s'.gens) (bk : Bk X.prog X.w X.stack H s.heap H' B h2) (fx : Fx B X.stack ea C t fl h2) :
    Inv X pins σ (upd H' ea (exH C ea)) { s' with heap := h2 } := by
  have hn := bk.none fx.ne
  obtain ⟨T, oT, ts, hE, _⟩ := fx.ob
  have ne : ∀ b o, s.heap.get? b = some o → b ≠ ea := fun b o e z => by
    by_cases hb : b ∈ frs X.stack
    · obtain ⟨_, o2, e2, n2⟩ := fx.fr.mem hb
      rw [z, hE] at e2
      cases e2
      exact n2 _ rfl
    · obtain ⟨o', e1⟩ := bk.there b o e hb
      rw [z, fx.ne] at e1
      cases e1
  have nt : ∀ b u, H' b = some u → b ≠ ea := fun b u e z => by
    rw [z, hn] at e
    cases e
  obtain ⟨hh, g, d, tk, os'⟩ := s'
  obtain rfl : os' = s.os := os
  refine I.call (s := s) (h' := h2) (g' := g) (d' := d) (t' := tk) (ch := []) ⟨fun b o e n hb _ => fx.st _ _ (bk.keep b o e n hb), fun b o e n hb _ => bk.slot b o e hb, fun b o e n _ => ?_, fun b o e _ => ?_, fun b xs e => ?_, fun b o u e => ?_, fun b ps e => ?_⟩ (fun b u e => ?_) bare (fun b z => nomatch z)
  · rw [upd_ne (ne b o e)]
    exact bk.free b o e n
  · by_cases hb : b ∈ frs X.stack
    · obtain ⟨sl, e1⟩ := bk.slot b o e hb
      exact ⟨_, e1⟩
    · obtain ⟨o', e1⟩ := bk.there b o e hb
      exact ⟨o', fx.st _ _ e1⟩
  · have e1 := bk.tups b xs e
    rw [upd_ne (nt _ _ e1)]
    exact e1
  · have e1 := bk.frzs b o u e
    rw [upd_ne (nt _ _ e1)]
    exact e1
  · obtain ⟨m1, e1⟩ := bk.tbls b ps e
    exact ⟨m1, by rw [upd_ne (nt _ _ e1)]; exact e1⟩
  · by_cases hb : b = ea
    · subst hb
      rw [upd_same] at e
      cases e
      exact ⟨⟨t, _, hE⟩, ⟨_, hE⟩, fun h1 h3 ⟨t', tb', q⟩ k => ⟨t', tb', k _ q⟩⟩
    · rw [upd_ne hb] at e
      refine (bk.ok b u e).stay (fun c v _ q => fx.st _ _ q) (fun c q => ?_) fun c xs q => ?_
      · rw [upd_ne (nt _ _ q)]; exact q
      · rw [upd_ne (nt _ _ q)]; exact q
abbrev Cx.hdl (X : Cx) (e : Addr) : Cx := { X with A := X.A.mark (some (.ref e)), calm := false, xe := fun _ _ => False }
theorem Inv.hdl (I : Inv X pins σ H s) (e : Addr) : Inv (X.hdl e) pins σ H s :=
  ⟨⟨I.ok.mod, I.ok.kind, I.ok.glob, I.ok.blt, I.ok.above, I.ok.inj, I.ok.has, I.ok.cab, (fun z => nomatch z), I.ok.frames, I.ok.stk, I.ok.exf, I.ok.bs, I.ok.bsz, I.ok.noex, I.ok.exfs, I.ok.funs, I.ok.frf⟩, I.os, I.bare, I.base, I.loc, I.cell, I.free, I.freeC, I.pin, I.hok, I.len⟩
theorem Inv.unhdl {e : Addr} (hd : X.calm = true → X.A.handled = none) (I : Inv (X.hdl e) pins σ H s) : Inv X pins σ H s :=
  ⟨⟨I.ok.mod, I.ok.kind, I.ok.glob, I.ok.blt, I.ok.above, I.ok.inj, I.ok.has, I.ok.cab, hd, I.ok.frames, I.ok.stk, I.ok.exf, I.ok.bs, I.ok.bsz, I.ok.noex, I.ok.exfs, I.ok.funs, I.ok.frf⟩, I.os, I.bare, I.base, I.loc, I.cell, I.free, I.freeC, I.pin, I.hok, I.len⟩
theorem Inv.forget {n : Str} {j : Nat} {m : Str → Option Value} {v : Option Value} {tk : Nat} {h' : Heap} (I : Inv X pins σ H s) (hN : X.N.Nodup) (hj : X.N[j]? = some n) (hn : s.heap.Ns X.env.locals m)
    (hm : ∀ (i : Nat) (x : Str) (v : V), X.N[i]? = some x → σ[i]? = some (some v) → Vis X.env.scope x → ∃ u, RelV v u ∧ Look X.env s.heap m x u) (hn' : h'.Ns X.env.locals (fun x => if x = n then v else m x)) (hs : Heap.SameBut X.env.locals s.heap h') :
    Inv X pins (σ.set j none) H { s with heap := h', toks := tk } := by
  obtain ⟨oL, _, _, hoL, _⟩ := id hn
  have neL : ∀ b o, X.s₀.heap.get? b = some o → b ≠ X.env.locals := fun b o e => Nat.ne_of_lt (Nat.lt_of_lt_of_le (Heap.lt_size e) I.ok.above)
  refine ⟨I.ok, I.os, I.bare, ⟨fun b o e n hb hx => ?_, fun b o e n hb hx => ?_, I.base.free, fun b o e hx => ?_, I.base.tups, I.base.frzs, I.base.tbls⟩, ⟨_, hn', fun i y w e1 e2 e3 => ?_⟩, fun y c e => ?_, I.free, I.freeC, fun p hp => ?_, fun b u e => ?_, by rw [List.length_set]; exact I.len⟩
  · exact (hs.2 b (neL b o e)).trans (I.base.keep b o e n hb hx)
  · obtain ⟨sl, e1⟩ := I.base.slot b o e n hb hx
    exact ⟨sl, (hs.2 b (neL b o e)).trans e1⟩
  · obtain ⟨o', e1⟩ := I.base.there b o e hx
    exact ⟨o', (hs.2 b (neL b o e)).trans e1⟩
  · by_cases hij : i = j
    · subst hij
      rw [List.getElem?_set] at e2
      split at e2
      · split at e2 <;> cases e2
      · exact absurd rfl ‹_›
    · rw [List.getElem?_set_ne (Ne.symm hij)] at e2
      obtain ⟨u, r, l⟩ := hm i y w e1 e2 e3
      refine ⟨u, r, ?_⟩
      rcases l with ⟨k, z⟩ | ⟨k, c, z, y'⟩
      · have : y ≠ n := fun q => hij (nodup_ix hN e1 (q ▸ hj))
        exact .inl ⟨k, by simp [this, z]⟩
      · exact .inr ⟨k, c, z, y'.sameBut hs (I.cne y c z)⟩
  · obtain ⟨v', z⟩ := I.cell y c e
    exact ⟨v', z.sameBut hs (I.cne y c e)⟩
  · obtain ⟨e, n1, n2, nf, d⟩ := I.pin p hp
    exact ⟨(hs.2 p.1 n2).trans e, n1, n2, nf, d⟩
  · refine (I.hok b u e).stay (fun c w' hc q => (hs.2 c ?_).trans q) (fun _ q => q) fun _ _ q => q
    rintro rfl
    rcases hc with z | z
    · rw [← z, I.free] at e; cases e
    · rw [I.free] at z; cases z
end
open PySem PySem.Spec PyProof.Rows
section
variable {M : Model} {A : Around} {E : Value → Shared → Prop} {h : Heap} {g : Array GenState} {d : Drawn} {t : Nat} {os : OsState}
theorem exc_matches {K : PySem.W.Frag} {C D e : Addr} {bC bD : List Value} {nC nD : String} {oe : Obj} {Q : Bool → Shared → Prop} (X : K.In h) (qC : PySem.W.excIn K C bC nC = true) (qD : PySem.W.excIn K D bD nD = true)
    (hb : bD.contains (.type "BaseException") = true) (he : h.get? e = some oe) (hc : oe.cls = .ref C) (hq : Q ((mroK K C).contains (.ref D)) ⟨h, g, d, t, os⟩) : wpAny M A (excMatches (.ref e) (.ref D)) Q E ⟨h, g, d, t, os⟩ := by
  obtain ⟨bm1, _, _, _, _, _, _, _, _, _, _, _, _, _, _, _, _, e1, hC, _, _, T1⟩ := exc_obj X qC
  obtain ⟨bm2, _, _, _, _, _, _, _, _, _, _, _, _, _, _, _, _, _, hD, _, _, T2⟩ := exc_obj X qD
  have hcB : (Value.ref D :: bm2).contains (.type "BaseException") = true := by rw [List.contains_cons, T2.hasType hb, Bool.or_true]
  have f := tc_notTuple
  rw [e1] at hq
  unfold excMatches
  repeat (first | (with_reducible refine wpAny_loadPart_at he ?_; rw [hc]) | with_reducible refine wpAny_loadPart_at hD ?_ | (with_reducible refine wpAny_isSubtype_exc hD ?_; rw [hcB]) | with_reducible refine wpAny_isSubtype_exc hC ?_ | wp_step)
  all_goals (revert hq; cases (Value.ref C :: bm1).contains (Value.ref D) <;> intro hq)
  all_goals (repeat (first | exact hq | wp_step))
end
abbrev WX (X : Cx) (pins : List (Addr × Obj)) (σ : St) (E : XK) : Value → Shared → Prop := fun ex s' => ∃ H1 s1, Inv X pins σ H1 s1 ∧ CX1 X.prog X.w X.stack H1 s1 E ex s'
def PSX (X : Cx) (st : Stmt) (t : XK → TS) : Prop := ∀ (pins : List (Addr × Obj)) (s : Shared) (σ : St) (H : Hp) (D : Ends) (E : XK), Inv X pins σ H s → t E D σ H → wpAny (model X.prog X.w) X.A (exec st X.env) (SP X pins D) (WX X pins σ E) s
def PSXs (X : Cx) (st : List Stmt) (t : XK → TS) : Prop := ∀ (pins : List (Addr × Obj)) (s : Shared) (σ : St) (H : Hp) (D : Ends) (E : XK), Inv X pins σ H s → t E D σ H → wpAny (model X.prog X.w) X.A (execs st X.env) (SP X pins D) (WX X pins σ E) s
section
variable {X : Cx} {e : Expr} {t u : XK → TS} {te : XK → TE} {pos : Pos} {st : Stmt}
theorem psxs_one (h : PSX X st t) : PSXs X [st] t := by
  intro pins s σ H D E I h1
  refine wpAny_execs_cons (thn (h pins s σ H D E I h1) fun f s1 q => ?_)
  match f, q with
  | .next, q => exact wpAny_execs_nil q
  | .brk, q => exact q
  | .cont, q => exact q
  | .ret u, q => exact q
theorem psx_set {i : Nat} {x : Str} {pos' : Pos} (hN : X.N.Nodup) (hi : X.N[i]? = some x) (hx : Loc X.env.scope x) (he : PEX X e te) (hs : swapsWith e (some (.Name x pos')) pos.line X.env = pure false := by rfl)
    (hf : X.fn x = true ∨ X.env.scope.names.lookup x = some .local := by first | exact .inl rfl | exact .inr rfl | assumption) : PSX X (.Assign [.Name x pos'] e pos) fun E => tAsg (te E) (gName i) := by
  intro pins s σ H D E I h
  refine wpAny_Assign_Name (thn (he pins s σ H _ E I h) fun v s1 ⟨y, H1, I1, r1, q1⟩ => ?_) hs
  exact store_ok I1 hN hi hx r1 (fun s2 I2 => ⟨_, H1, I2, q1⟩) hf
abbrev Ends.un (D : Ends) (j : Nat) : Ends := { nx := fun σ H => D.nx (σ.set j none) H, rt := D.rt, bk := fun σ H => D.bk (σ.set j none) H, ct := fun σ H => D.ct (σ.set j none) H }
def Sub (K : PySem.W.Frag) (C D : Addr) : Prop := (∃ bm nid, PySem.W.excIn K C bm nid = true) ∧ (mroK K C).contains (.ref D) = true
def tTry (K : PySem.W.Frag) (Ch : Addr) (j : Nat) (t : XK → TS) (ts : TS) : TS := fun D σ H => t (fun c _ H' => ∃ C, c = .ref C ∧ Sub K C Ch ∧ ∀ ea, H' ea = none → ts (D.un j) (σ.set j (some (.ref ea))) (upd H' ea (exH C ea))) D σ H
theorem ps_try {body suite : List Stmt} {b₀ : Stmt} {ts : TS} {n x : Str} {j : Nat} {Ch : Addr} {bmB : List Value} {nid : String} {np hpos : Pos} (hB : Body X) (hc : X.calm = true) (hb : PSXs X body t) (hN : X.N.Nodup) (hj : X.N[j]? = some n)
    (hn : X.env.scope.names.lookup n = some .local) (hg : Gl X x) (hm : X.mg x = some (.ref Ch)) (hq : PySem.W.excIn X.K Ch bmB nid = true) (hbs : bmB.contains (.type "BaseException") = true) (hs : ∀ ea, PSs (X.hdl ea) (b₀ :: suite) ts)
    (hd : (x == ("__debug__" : Str)) = false := by decide) :
    PS X (.Try body [.ExceptHandler (some (.Name x np)) (some n) (b₀ :: suite) hpos] [] [] pos) (tTry X.K Ch j t ts) := by
  intro pins s σ H D I h
  refine wpAny_Try_except (wpAny_mono (hb pins s σ H D _ I h) (fun f s1 q => ?_) fun ex s1 z => ?_)
  · match f, q with
    | .next, q => exact wpAny_execs_nil q
    | .brk, q => exact q
    | .cont, q => exact q
    | .ret u, q => exact q
  · obtain ⟨H1, s0, I0, ea, C, t0, H', B, rfl, fx, os, bare, bk, C', eC, ⟨⟨bC, nC, qC⟩, sub⟩, ht⟩ := z
    obtain rfl : C = C' := by cases eC; rfl
    refine noteX hB I.ok.frames (.came fx) fun h1 x1 u1 => fx_land (s := { s1 with heap := h1 }) x1 fun h2 x2 u2 => ?_
    have bk2 := (bk.slots fx.fr u1).slots x1.fr u2
    have I2 : Inv X pins σ (upd H' ea (exH C ea)) { s1 with heap := h2 } := caughtI I0 os bare bk2 x2
    refine wpAny_handleBy_cons (codeAny_handlers_test (ld_glob (X := X.hdl ea) (I2.hdl ea) hg hm ?_ hd)) (by intro q; cases q)
    obtain ⟨T, oT, tt, hE, _⟩ := x2.ob
    refine exc_matches I2.kIn qC hq hbs hE rfl ?_
    rw [sub]
    refine codeAny_handlers_suite_as ?_
    refine fx_land (s := { s1 with heap := h2 }) x2 fun h3 x3 u3 => ?_
    have I3 : Inv X pins σ (upd H' ea (exH C ea)) { s1 with heap := h3 } := caughtI I0 os bare (bk2.slots x2.fr u3) x3
    refine store_ok (X := X.hdl ea) (I3.hdl ea) hN hj (.inl hn) (v := .ref ea) rfl (fun s4 I4 => ?_) (.inr hn)
    refine wpAny_mono (hs ea pins s4 _ _ _ I4 (ht ea (bk.none fx.ne))) (fun f s5 q => ?_) fun _ _ z => z.elim
    have go : ∀ {σ' : St} {H5 : Hp} {Q : Unit → Shared → Prop}, Inv (X.hdl ea) pins σ' H5 s5 → (∀ s6, Inv X pins (σ'.set j none) H5 s6 → Q () s6) → wpAny (model X.prog X.w) X.A (do bindName X.env n .none; unbindBehindTheSuite X.env n hpos) Q X.xe s5 := fun {σ' H5 Q} J k => by
      have J' : Inv X pins σ' H5 s5 := J.unhdl I.ok.hd
      obtain ⟨m, hns, hl⟩ := id J'.loc
      refine wpAny_nameGoes_keeps hn hns (by rw [I.ok.kind]; rfl) fun h6 v hn6 hs6 => k _ ?_
      exact J'.forget hN hj hns hl hn6 hs6
    match f, q with
    | .next, ⟨σ', H5, J, q⟩ => exact go J fun s6 J6 => ⟨_, H5, J6, q⟩
    | .brk, ⟨σ', H5, J, q⟩ => exact go J fun s6 J6 => ⟨_, H5, J6, q⟩
    | .cont, ⟨σ', H5, J, q⟩ => exact go J fun s6 J6 => ⟨_, H5, J6, q⟩
    | .ret u, ⟨v, σ', H5, J, r, q⟩ => exact go J fun s6 J6 => ⟨v, _, H5, J6, r, q⟩
end
open PySem PySem.Spec PyProof.Rows
structure ExC (K : PySem.W.Frag) (C : Addr) : Prop where
  ga : PySem.W.findIn K (.ref C) "__getattribute__" = some (some (.builtin "BaseException.__getattribute__"))
  gt : PySem.W.findIn K (.ref C) "__getattr__" = some none
  cl : PySem.W.findIn K (.ref C) "__class__" = some (some (.builtin "object.__class__"))
  gc : PySem.W.specialIn K (.builtin "object.__class__") "__get__" = some (some (.builtin "getset_descriptor.__get__"))
  tk : PySem.W.takesIn K (.builtin "object.__class__") = some true
  ob : PySem.W.mroIn K C (.type "object") = some true
  be : PySem.W.mroIn K C (.type "BaseException") = some true
  is : (PySem.W.clsIn K C).isSome = true
theorem canon_bga : (Manifest.canonical "BaseException.__getattribute__" != "object.__getattribute__") = false := by decide +kernel
section
variable {prog : Program} {w : World} {A : Around} {E : Value → Shared → Prop} {s : Shared} {K : PySem.W.Frag} {x C t : Addr} {tb : Value}
theorem ex_inst {h : Heap} (hx : h.get? x = some (exO C t tb)) : PySem.W.InstAt h x (exO C t tb) C none := ⟨hx, rfl, rfl, True.intro⟩
theorem ex_meth {m : Str} {f : Addr} {pl : Sem Bool} {Q : Value × List Value → Shared → Prop} (X : K.In s.heap) (hx : s.heap.get? x = some (exO C t tb)) (c : ExC K C) (hf : PySem.W.findIn K (.ref C) m = some (some (.ref f)))
    (ht : PySem.W.isFn K (.ref f) = true) (h : Q (.ref f, [.ref x]) s) : wpAny (model prog w) A (getMethod (.ref x) m pl) Q E s := by
  have I := ex_inst hx
  have hty : PySem.W.typeIn K (.ref f) = some (.type "function") := beq_iff_eq.mp ht
  unfold getMethod specialOf
  refine wpAny_bind (wpAny_bind (I.type.here ((PySem.W.looks_findIn X c.ga).here ?_)))
  dsimp only
  rw [canon_bga, if_neg Bool.false_ne_true]
  refine wpAny_bind (wpAny_bind (I.type.here ((PySem.W.looks_findIn X c.gt).here ?_)))
  refine wpAny_bind (wpAny_bind (I.type.here ((PySem.W.looks_findIn X hf).here (wpAny_bind ((PySem.W.looks_typeIn X hty).here ?_)))))
  rw [if_neg (by decide +kernel)]
  refine wpAny_bind (wpAny_loadPart hx ?_)
  exact wpAny_bind (wpAny_rule (wpAny_pure h))
theorem ex_class {Q : Option Value → Shared → Prop} (X : K.In s.heap) (hx : s.heap.get? x = some (exO C t tb)) (c : ExC K C) (h : Q (some (.ref C)) { s with toks := s.toks + 1 }) : wpAny (model prog w) A (getAttr? (.ref x) "__class__") Q E s := by
  have I := ex_inst hx
  obtain ⟨hh, g, d, tk, os⟩ := s
  have L0 : PySem.W.Looks (model prog w) hh (typeOf (.ref x)) (.ref C) := I.type
  have L1 := PySem.W.looks_findIn (M := model prog w) X c.ga
  have L2 := PySem.W.looks_findIn (M := model prog w) X c.gt
  have hfo : PySem.W.findObj K C none "__class__" = some (.bind (.builtin "getset_descriptor.__get__") (.builtin "object.__class__")) := by
    obtain ⟨cd, hc⟩ := Option.isSome_iff_exists.mp c.is
    unfold PySem.W.findObj
    rw [hc, Option.bind_some, c.cl, Option.bind_some]
    simp [c.gc, c.tk]
  have L3 := PySem.W.looks_find (M := model prog w) X I hfo
  have L4 : PySem.W.Looks (model prog w) hh (isInstance (.ref x) (.type "BaseException")) true := L0.andThen (PySem.W.looks_mroIn X c.be)
  have f3 := F.excAttr_ValueError.ga.bind (.ref x)
  unfold getAttr? getAttrBy? getAttrBy
  refine wpAny_bind (wpAny_mkText (wpAny_bind (wpAny_attempt (wpAny_holding (wpAny_bind (L0.at (wpAny_bind (L1.at ?_))))))))
  show wpAny _ _ (getAttrByItsOwn _ _ _ _ _ _) _ _ _
  unfold getAttrByItsOwn hookBefore
  rw [if_pos (show onTheHeap (Value.ref C) = true from rfl)]
  refine wpAny_bind (L2.at (wpAny_bind (wpAny_attempt (wpAny_holding ?_))))
  unfold callGetattribute
  rw [if_neg (show ¬ ((false && onTheHeap (Value.builtin "BaseException.__getattribute__")) = true) by simp)]
  unfold boundAndCalled
  rw [f3]
  refine wpAny_bind (wpAny_pure (wpAny_call (codeAny_call_builtin F.excAttr_ValueError.ga.plain F.entry_bexc_ga ?_)))
  have hk : builtinKind "BaseException.__getattribute__" = some .slot := by decide +kernel
  have hsp : splitId "BaseException.__getattribute__" = some ("BaseException", "__getattribute__") := by decide +kernel
  have ha := F.args_bexc_ga (.ref x) (.str "__class__" tk)
  simp only [checkBuiltinCall, hk, hsp]
  refine wpAny_bind (L4.at ?_)
  repeat (first | (with_reducible refine wpAny_bind (L0.at (wpAny_bind (L3.at ?_)))) | wp_step)
  refine PySem.W.class_get (s := ⟨hh, g, d, tk + 1, os⟩) (ox := exO C t tb) (od := none) X I c.ob ?_
  exact wpAny_pure (PySem.W.handed_on rfl (wpAny_pure h))
theorem kitx_exc (c : ExC K C) : PySem.W.KitX K (.ref x) (.ref C) (fun h => ∃ t tb, h.get? x = some (exO C t tb)) where
  ty := fun M h _ ⟨t, tb, e⟩ => (ex_inst e).type
  it := fun M h X _ => by
    obtain ⟨cd, hc⟩ := Option.isSome_iff_exists.mp c.is
    unfold PySem.W.clsIn at hc
    split at hc
    next ho =>
      intro A' Q' E' s' k q
      unfold isType loadHead
      exact wpAny_bind (wpAny_loadPart (k _ _ (X _ _ ho)) (wpAny_pure q))
    next => cases hc
  ne := fun h tp dd its n sl X htp => by
    obtain ⟨cd, hc⟩ := Option.isSome_iff_exists.mp c.is
    refine Bool.eq_false_iff.mpr fun q => ?_
    have e : C = tp := Value.ref.inj (beq_iff_eq.mp q)
    subst e
    unfold PySem.W.clsIn at hc
    split at hc
    next ho => cases (X _ _ ho).symm.trans htp
    next => cases hc
  ca := fun X ⟨t, tb, e⟩ k => ex_class X e c k
end
def rIsX (K : PySem.W.Frag) : List V → Hp → VK → Prop := fun vs H Q => ∃ a C b, H a = some (exH C a) ∧ ExC K C ∧
  ((∃ n, vs = [.ref a, .ty n] ∧ PySem.W.kitOne K (.ref C) (.type n) = some b) ∨ (∃ D, vs = [.ref a, .ref D] ∧ PySem.W.kitOne K (.ref C) (.ref D) = some b)) ∧ Q (.bl b) H
section
variable {X : Cx} {K : PySem.W.Frag}
theorem ex_at {pins : List (Addr × Obj)} {σ : St} {H : Hp} {s : Shared} {a C : Addr} (I : Inv X pins σ H s) (e : H a = some (exH C a)) : ∃ t tb, s.heap.get? a = some (exO C t tb) := (I.hok a _ e).1
theorem call_isx (hK : X.K = K := by rfl) : CallR X (.builtin "isinstance") (rIsX K) := by
  subst hK
  intro pins s σ H xs us Q I rv h
  obtain ⟨a, C, b, ea, c, hv, q⟩ := h
  rcases hv with ⟨n, rfl, e⟩ | ⟨D, rfl, e⟩
  · obtain ⟨u1, u2, rfl, r1, r2⟩ := rv.two
    cases r1
    cases r2
    exact PySem.W.kia_one (kitx_exc c) I.kIn (ex_at I ea) e (fun z => nomatch z) fun tk => ⟨.bl b, H, I.tok _, rfl, q⟩
  · obtain ⟨u1, u2, rfl, r1, r2⟩ := rv.two
    cases r1
    cases r2
    exact PySem.W.kia_one (kitx_exc c) I.kIn (ex_at I ea) e (fun z => nomatch z) fun tk => ⟨.bl b, H, I.tok _, rfl, q⟩
variable {CX : CXT} {k : Nat} {ps : List Str} {sp : Addr → Sp} {E : XK} {m : Str} {pos apos : Pos} {o : Expr} {ta : TE}
def tMethX (K : PySem.W.Frag) (m : Str) (sp : Addr → Sp) (E : XK) (ta : TE) : TE := fun σ H Q => ta σ H fun x H1 => ∃ a C, x = .ref a ∧ H1 a = some (exH C a) ∧ sp C [x] H1 Q E
end
open PySem PySem.Spec PyProof.Rows
abbrev vE : List Value := [.type "ValueError", .type "Exception", .type "BaseException", .type "object"]
abbrev vN : String := "ValueError.__new__"
structure Exn (K : PySem.W.Frag) (C : Addr) : Prop where
  q : PySem.W.excIn K C vE vN = true
  c : ExC K C
  ty : PySem.W.typeIn K (.ref C) = some (.type "type")
  ve : PySem.W.mroIn K C (.type "ValueError") = some true
theorem exn_mk {K : PySem.W.Frag} {C : Addr} (q : PySem.W.excIn K C vE vN = true) (ga : PySem.W.findIn K (.ref C) "__getattribute__" = some (some (.builtin "BaseException.__getattribute__"))) (gt : PySem.W.findIn K (.ref C) "__getattr__" = some none)
    (cl : PySem.W.findIn K (.ref C) "__class__" = some (some (.builtin "object.__class__"))) (gc : PySem.W.specialIn K (.builtin "object.__class__") "__get__" = some (some (.builtin "getset_descriptor.__get__"))) (tk : PySem.W.takesIn K (.builtin "object.__class__") = some true)
    (ob : PySem.W.mroIn K C (.type "object") = some true) (be : PySem.W.mroIn K C (.type "BaseException") = some true) (is : PySem.W.isClsIn K C = true) (ty : PySem.W.typeIn K (.ref C) = some (.type "type")) (ve : PySem.W.mroIn K C (.type "ValueError") = some true) : Exn K C :=
  ⟨q, ⟨ga, gt, cl, gc, tk, ob, be, is⟩, ty, ve⟩
theorem has_base : vE.contains (.type "BaseException") = true := by decide
theorem has_ve : vE.contains (.type "ValueError") = true := by decide
theorem Exn.sub {K : PySem.W.Frag} {C D : Addr} (x : Exn K C) (r : PySem.W.mroIn K C (.ref D) = some true) : Sub K C D := by
  refine ⟨⟨_, _, x.q⟩, ?_⟩
  obtain ⟨cd, h1, h2⟩ := Option.bind_eq_some_iff.mp r
  unfold PySem.W.clsIn at h1
  unfold mroK
  split at h1
  next c d cd' sl ho =>
    cases h1
    rw [ho]
    split at h2
    · cases h2
    · exact Option.some.inj h2
  next => cases h1
theorem kit_ref {K : PySem.W.Frag} {C D : Addr} {b : Bool} (hC : PySem.W.mroIn K C (.ref C) = some true) (x : Exn K D) (r : PySem.W.mroIn K C (.ref D) = some b) : PySem.W.kitOne K (.ref C) (.ref D) = some b := by
  unfold PySem.W.kitOne
  by_cases q : (Value.ref C == Value.ref D) = true
  · rw [if_pos q]
    have e : C = D := Value.ref.inj (beq_iff_eq.mp q)
    subst e
    rw [hC] at r
    exact r
  · rw [if_neg q]
    unfold PySem.W.kitCls
    have h : ((PySem.W.clsIn K D).isSome && PySem.W.typeIn K (.ref D) == some (.type "type")) = true := by rw [x.c.is, x.ty]; rfl
    show (if _ then _ else _) = _
    rw [if_pos h]
    exact r
theorem kit_ve {K : PySem.W.Frag} {C : Addr} (x : Exn K C) : PySem.W.kitOne K (.ref C) (.type "ValueError") = some true := by
  unfold PySem.W.kitOne
  rw [if_neg (by simp)]
  unfold PySem.W.kitCls
  show (if _ then _ else _) = _
  rw [if_pos (by decide +kernel)]
  exact x.ve
section
variable {X : Cx} {CX : CXT} {k : Nat} {C f : Addr} {fd : FuncData} {ps : List Str} {sp : Sp} {E : XK} {m : Str} {pos apos : Pos} {o : Expr} {ta : TE}
def tMethE (C : Addr) (sp : Sp) (E : XK) (ta : TE) : TE := fun σ H Q => ta σ H fun x H1 => ∃ a, x = .ref a ∧ H1 a = some (exH C a) ∧ sp [x] H1 Q E
theorem pe_methE {pl : Sem Bool} (he : PE X o ta) (c : ExC X.K C) (hm : Meth X.K C m f) (F : FnOk X.prog X.w X.K X.mg X.base CX k f fd ps sp) (hr : Room k X.A) (hb : Binds X.K fd ps []) (hx : Passes CX X E)
    (ht : eval (.Call (.Attribute o m apos) [] [] pos) X.env = (do
      let ov ← eval o X.env
      standAt apos.atName
      let (f, first) ← holding [ov] (getMethod ov m pl)
      callWith pos f first (backTo pos (starEach [] X.env)) (backToKw pos (keywordEach [] X.env))) := by rfl) :
    PE X (.Call (.Attribute o m apos) [] [] pos) (tMethE C sp E ta) := by
  intro pins s σ H Q I h
  refine PySem.W.methodCall_KW (pl := pl) (thn (he pins s σ H _ I h) fun u s1 ⟨x, H1, I1, rx, a, ex, ea, q⟩ => ?_) ht
  subst ex
  obtain rfl : u = Value.ref a := rx
  obtain ⟨t, tb, e1⟩ := ex_at I1 ea
  refine ex_meth I1.kIn e1 c hm.at_ hm.fn ?_
  exact PySem.W.callWith_K0 (first := [.ref a]) I1.kIn hm.kp (run_fn (us := [.ref a]) (vs := [.ref a]) (dvs := []) F hr hb .nil hx I1 (.cons rfl .nil) q)
end
def clsBody (s : Stmt) : List Stmt := match s with
  | .ClassDef _ _ _ b _ _ _ _ _ _ _ => b
  | _ => []
structure Mf (K : PySem.W.Frag) (x q : Str) (st : Stmt) (ps : List Str) (C f : Addr) (fd : FuncData) : Prop where
  F : Fun K x q st f fd
  m : Meth K C x f
  b : Binds K fd ps []
theorem bt_ValueError : bootBuiltins "ValueError" = some (.type "ValueError") := by decide +kernel
theorem kit_ib (K : PySem.W.Frag) : PySem.W.kitOne K (.type "int") (.type "bool") = some false := by
  unfold PySem.W.kitOne PySem.W.kitCls PySem.W.subIn
  rw [if_neg (by simp)]
  show (if _ then _ else _) = _
  rw [if_pos (by decide +kernel)]
  show Option.map (fun x => x.contains (Value.type "bool")) (fastBuiltinMro "int") = some false
  decide +kernel
open PySem PySem.Spec PyProof.Rows
open Builtin Builtin.Str
def cutT (u : List Nat) (lo hi : Option Int) : List Nat := (u.drop (HT.sIx u.length 0 lo)).take (HT.sIx u.length u.length hi - HT.sIx u.length 0 lo)
theorem rng_eq (a b : Nat) : sliceRange (a : Int) (b : Int) 1 = (List.range (b - a)).map fun k => a + k := by
  unfold sliceRange
  simp only [show (1 : Int) > 0 by decide, if_true]
  by_cases h : (a : Int) < (b : Int)
  · rw [if_pos h, Int.ediv_one, show (b : Int) - (a : Int) + 1 - 1 = ((b - a : Nat) : Int) by omega, Int.toNat_natCast]
    exact List.map_congr_left fun k _ => by omega
  · rw [if_neg h, show b - a = 0 by omega]
    rfl
theorem clip_some (n d : Nat) (i : Int) : max 0 (min (if i < 0 then i + (n : Int) else i) (n : Int)) = (HT.sIx n d (some i) : Int) := by
  show _ = (((if i < 0 then (i + (n : Int)).toNat else min i.toNat n) : Nat) : Int)
  by_cases h : i < 0
  · rw [if_pos h, if_pos h]; omega
  · rw [if_neg h, if_neg h]; omega
theorem idx_eq (n : Nat) (lo hi : Option Int) : strSliceIndices lo hi 1 n = (List.range (HT.sIx n n hi - HT.sIx n 0 lo)).map fun k => HT.sIx n 0 lo + k := by
  rw [← rng_eq]
  cases lo with
  | none =>
    cases hi with
    | none => rfl
    | some j => rw [← clip_some]; rfl
  | some i =>
    cases hi with
    | none => rw [← clip_some n 0 i]; rfl
    | some j => rw [← clip_some n 0 i, ← clip_some n n j]; rfl
theorem tx_slice (u : List Nat) (lo hi : Option Int) : Txt.slice (tx u) lo hi = tx (cutT u lo hi) := by
  unfold Txt.slice cutT
  rw [tx_len, idx_eq]
  have hle : HT.sIx u.length u.length hi ≤ u.length := HT.sIx_le _ _ (Nat.le_refl _) _
  have key : ∀ (a k : Nat), a + k ≤ u.length → ((List.range k).map fun j => a + j).filterMap (fun i => (tx u).cps[i]?) = (u.drop a).take k := by
    intro a k
    induction k with
    | zero => intro _; simp
    | succ k ih =>
      intro h
      rw [List.range_succ, List.map_append, List.filterMap_append, ih (by omega)]
      have : a + k < u.length := by omega
      simp only [List.map_cons, List.map_nil, List.filterMap_cons, List.filterMap_nil, tx_get, List.getElem?_eq_getElem this]
      rw [List.take_succ, List.getElem?_drop, List.getElem?_eq_getElem this]
      rfl
  split
  next h =>
    simp only [List.length_map, List.length_range, Bool.and_eq_true, beq_iff_eq] at h
    have h2 := h.2
    have : HT.sIx u.length 0 lo = 0 ∨ u.length = 0 := by omega
    rcases this with e | e
    · rw [e, List.drop_zero, List.take_of_length_le (by omega)]
    · rw [List.eq_nil_of_length_eq_zero e]; simp
  next h =>
    by_cases hlt : HT.sIx u.length 0 lo ≤ HT.sIx u.length u.length hi
    · show (Str.mk _) = _
      rw [key _ _ (by omega)]
      rfl
    · have e : HT.sIx u.length u.length hi - HT.sIx u.length 0 lo = 0 := by omega
      rw [e]
      simp [tx]
section
variable {X : Cx}
theorem sl_str : SlR X (fun x lo hi H Q => ∃ u : List Nat, x = .str (tx u) ∧ u.length ≤ sizeLine ∧ Q (.str (tx (cutT u lo hi))) H) := by
  intro pins s σ H x v vl vu lo hi sl Q I rx hs pl pu h
  obtain ⟨u, rfl, hz, q⟩ := h
  obtain ⟨t, rfl⟩ := rx
  rw [← tx_slice] at q
  refine ⟨"str", _, F.slot_str_getitem.lookup, typeIs_str _ _ _, ?_⟩
  have hsz : (tx u).length ≤ sizeLine := by rw [tx_len]; exact hz
  obtain ⟨os, hos, hcs, hds⟩ := id hs
  have fin : ∀ (l u' : Option (Int × Tok)), s.heap.IsSlice sl l u' none → Q (.str (Txt.slice (tx u) (l.map (·.1)) (u'.map (·.1)))) H → wpAny (model X.prog X.w) X.A (getItem (.str (tx u) t) (.ref sl)) (EP X pins σ Q) X.xe s := fun l u' z q' =>
    wpAny_getItem_str_slice z rfl (post_val_or_str ⟨Nat.le_trans (Txt.slice_le (tx u) _ _) hsz, fun t' k => ⟨.str _, H, I.tok _, ⟨t', rfl⟩, q'⟩⟩)
  cases pl with
  | none => cases pu with
    | none => exact fin none none ⟨os, hos, hcs, hds⟩ q
    | int j tj => exact fin none (some (j, tj)) ⟨os, hos, hcs, hds⟩ q
  | int i ti => cases pu with
    | none => exact fin (some (i, ti)) none ⟨os, hos, hcs, hds⟩ q
    | int j tj => exact fin (some (i, ti)) (some (j, tj)) ⟨os, hos, hcs, hds⟩ q
end
open PySem PySem.Spec PyProof.Rows
theorem vals_ptw : ∀ (xs : List V) (us : List Value), xs.length = us.length → (∀ (i : Nat) x u, xs[i]? = some x → us[i]? = some u → RelV x u) → Vals xs us
  | [], [], _, _ => .nil
  | [], _ :: _, h, _ => by simp at h
  | _ :: _, [], h, _ => by simp at h
  | x :: xs, u :: us, h, p => .cons (p 0 x u rfl rfl) (vals_ptw xs us (by simpa using h) fun i y v e1 e2 => p (i + 1) y v e1 e2)
def rngO (p : Addr) (a b c : Int) : HO := .ext fun h => ∃ t u v, IsRange h p a b c t u v
def rngL (a c : Int) (n : Nat) : List Int := (List.range n).map fun (i : Nat) => a + (i : Int) * c
section
variable {X : Cx} {K : PySem.W.Frag}
theorem laid_rng {pins : List (Addr × Obj)} {σ : St} {H : Hp} {s : Shared} {a b c : Int} {t u v : Tok} {Q : VK} {tk : Nat} (I : Inv X pins σ H s) (q : ∀ p, H p = none → Q (.ref p) (upd H p (rngO p a b c))) :
    EP X pins σ Q (.ref s.heap.objs.size) { s with heap := s.heap.push { cls := .type "range", data := .fields #[.int a t, .int b u, .int c v] }, toks := tk } := by
  have hg : (s.heap.push { cls := .type "range", data := .fields #[.int a t, .int b u, .int c v] }).get? s.heap.objs.size = some { cls := .type "range", data := .fields #[.int a t, .int b u, .int c v] } := Heap.get?_push_size _ rfl
  refine ⟨.ref s.heap.objs.size, _, I.laid (o := rngO s.heap.objs.size a b c) (fun b o e => Heap.get?_push_of_some _ e) (Nat.le_refl _) ?_, rfl, q _ (I.hok.fresh (Nat.le_refl _))⟩
  exact ⟨⟨t, u, v, hg⟩, ⟨_, hg⟩, fun h1 h2 y k => by
    obtain ⟨t', u', v', y⟩ := y
    exact ⟨t', u', v', k _ y⟩⟩
theorem call_rng2 : CallR X (.type "range") (fun xs H Q => ∃ a b, xs = [.int a, .int b] ∧ ∀ p, H p = none → Q (.ref p) (upd H p (rngO p a b 1))) := by
  intro pins s σ H xs us Q I rv h
  obtain ⟨a, b, rfl, q⟩ := h
  obtain ⟨u1, u2, rfl, r1, r2⟩ := rv.two
  obtain ⟨t, rfl⟩ := r1
  obtain ⟨t', rfl⟩ := r2
  exact call_range_2 (laid_rng I q)
theorem call_rng3 : CallR X (.type "range") (fun xs H Q => ∃ a b c, xs = [.int a, .int b, .int c] ∧ c ≠ 0 ∧ c.natAbs < 1000000 ∧ ∀ p, H p = none → Q (.ref p) (upd H p (rngO p a b c))) := by
  intro pins s σ H xs us Q I rv h
  obtain ⟨a, b, c, rfl, hc, hz, q⟩ := h
  cases rv with
  | cons r1 rv => cases rv with
    | cons r2 rv => cases rv with
      | cons r3 rv =>
        cases rv
        obtain ⟨t, rfl⟩ := r1
        obtain ⟨t', rfl⟩ := r2
        obtain ⟨t'', rfl⟩ := r3
        exact call_range_3 hc (laid_rng I q) (Or.inl (PyProof.noPylong_small (by omega)))
theorem call_listR (hc : X.calm = true := by rfl) : CallR X (.type "list") (fun xs H Q => ∃ (p : Addr) (a b c : Int) (n : Nat), xs = [.ref p] ∧ H p = some (rngO p a b c) ∧ Builtin.Range.small a b c = true ∧ Builtin.Range.rangeSize a b c = n ∧ n ≤ 1000 ∧
    ∀ l, H l = none → Q (.ref l) (upd H l (.lst (vI (rngL a c n))))) := by
  intro pins s σ H xs us Q I rv h
  obtain ⟨p, a, b, c, n, rfl, hp, hs, hn, hz, q⟩ := h
  obtain ⟨u, rfl, ru⟩ := rv.one
  cases ru
  obtain ⟨⟨t, u, v, hr⟩, _, _⟩ := I.hok p _ hp
  refine call_list_range (I.ok.hd hc) hr hs hn (Nat.le_trans hz (by decide)) fun h' tk acc c' hk hl hi => ?_
  refine ⟨.ref s.heap.objs.size, _, I.laid (t' := tk) (o := .lst (vI (rngL a c n))) hk (Nat.le_refl _) ?_, rfl, q _ (I.hok.fresh (Nat.le_refl _))⟩
  have hlen : (vI (rngL a c n)).length = n := by rw [vI_len]; unfold rngL; rw [List.length_map, List.length_range]
  refine ⟨by rw [hlen]; exact Nat.le_of_lt (small1000 hz), acc.toList, c', ?_, hl⟩
  refine vals_ptw _ _ (by rw [hlen, Array.length_toList, hi.1]) fun i x u e1 e2 => ?_
  obtain ⟨z, hz1, rfl⟩ := vI_got e1
  obtain ⟨t', rfl⟩ := hi.2 i u (by rw [← Array.getElem?_toList]; exact e2)
  have hin : i < n := by
    have := (List.getElem?_eq_some_iff.mp e1).1
    rwa [hlen] at this
  unfold rngL at hz1
  rw [List.getElem?_map, List.getElem?_range hin] at hz1
  cases hz1
  exact ⟨t', rfl⟩
theorem call_intT : CallR X (.type "int") (fun xs H Q => ∃ z n, xs = [.str z] ∧ PySem.intText? z = some n ∧ z.length ≤ 640 ∧ Q (.int n) H) := by
  intro pins s σ H xs us Q I rv h
  obtain ⟨z, n, rfl, hn, hl, q⟩ := h
  obtain ⟨u, rfl, t, rfl⟩ := rv.one
  exact PySem.W.KIN.call_text hn hl ⟨.int n, H, I.tok _, ⟨_, rfl⟩, q⟩
theorem call_sumI (hK : X.K = K := by rfl) (hc : X.calm = true := by rfl) : CallR X (.builtin "sum") (fun xs H Q => ∃ a ns, xs = [.ref a] ∧ SqL K H a (vI ns) ∧ Q (.int ns.sum) H) := by
  subst hK
  intro pins s σ H xs us Q I rv h
  obtain ⟨a, ns, rfl, hq, q⟩ := h
  obtain ⟨u, rfl, ru⟩ := rv.one
  cases ru
  obtain ⟨its, r, pl, hl⟩ := I.list hq
  have hi : IntsAre its ns := intsAre_of r
  obtain ⟨xs, hx⟩ := hi.allInts.items
  have hL : s.heap.IsList a (intItems xs) := by rw [← hx]; exact pl.isList
  refine sum_intListG (I.ok.hd hc) hL fun h' tk t' hk => ?_
  have e1 : xs.toList.map (·.1) = ns := by
    have z : numsOf its.toArray.toList = ns := hi.numsOf
    rw [hx, nums_intItems] at z
    exact z
  rw [show preSum (numAt xs) xs.size = ns.sum by rw [preSum_eq, List.take_of_length_le (by simp), e1]]
  exact ⟨.int ns.sum, H, I.kept hk, ⟨t', rfl⟩, q⟩
theorem in_figs (c : Nat) : (!(Builtin.Str.occurrences "0123456789" ⟨#[c]⟩ 0 (Str.length "0123456789") 1).isEmpty) = decide (48 ≤ c ∧ c ≤ 57) := by
  rw [StrLaws.found_one]
  have e : (("0123456789" : Str)).cps.toList = [48, 49, 50, 51, 52, 53, 54, 55, 56, 57] := by decide +kernel
  rw [e]
  apply decide_eq_decide.mpr
  simp only [List.mem_cons, List.not_mem_nil, or_false]
  omega
end
open PySem PySem.Spec PyProof.Rows
section
variable {X : Cx} {tg : Expr}
def iRng2L (ta : TA) : TI := fun σ H R => ta σ H fun vs H1 => ∃ i j : Int, vs = [.int i, .int j] ∧ R (Itr i (j - i).toNat) H1
end
section
variable {X : Cx}
def rRepS : R2 := fun x y H Q => ∃ u n, x = .str (tx u) ∧ y = .int n ∧ 0 ≤ n ∧ n ≤ 1000000 ∧ u.length * n.toNat ≤ sizeLine ∧ Q (.str (tx (List.replicate n.toNat u).flatten)) H
def rCount : V → List V → Hp → VK → Prop := fun x vs H Q => ∃ u c, x = .str (tx u) ∧ vs = [.str ⟨#[c]⟩] ∧ Q (.int (u.count c : Nat)) H
end
open PySem PySem.Spec PyProof.Rows
section
variable {X : Cx} {K : PySem.W.Frag}
def rIsXT (K : PySem.W.Frag) : List V → Hp → VK → Prop := fun vs H Q => ∃ (a C p : Addr) (Ds : List Addr) (b : Bool), vs = [.ref a, .ref p] ∧ H a = some (exH C a) ∧ ExC K C ∧ H p = some (.tup (Ds.map V.ref)) ∧ PySem.W.kitAny K (.ref C) (Ds.map Value.ref) = some b ∧ Q (.bl b) H
end
open PySem PySem.Spec PyProof.Rows
section
variable {X : Cx} {K : PySem.W.Frag}
def rNeL (K : PySem.W.Frag) : R2 := fun x y H Q => ∃ p q xs ys, x = .ref p ∧ y = .ref q ∧ SqL K H p xs ∧ SqL K H q ys ∧ xs.all flatV = true ∧ ys.all flatV = true ∧ Q (.bl (!eqL xs ys)) H
end
open PySem PySem.Spec PyProof.Rows
def SamL (K : PySem.W.Frag) (H : Hp) (p q : Addr) : Prop := ∃ as bs : List Addr, SqL K H p (as.map V.ref) ∧ SqL K H q (bs.map V.ref) ∧ as.length = bs.length ∧
  ∀ (i : Nat) (a b : Addr), as[i]? = some a → bs[i]? = some b → ∃ xs : List V, xs.all flatV = true ∧ SqL K H a xs ∧ SqL K H b xs
section
variable {X : Cx} {K : PySem.W.Frag}
def rNeLL (K : PySem.W.Frag) : R2 := fun x y H Q => ∃ p q, x = .ref p ∧ y = .ref q ∧ SamL K H p q ∧ Q (.bl false) H
def rEqLL (K : PySem.W.Frag) : R2 := fun x y H Q => ∃ p q, x = .ref p ∧ y = .ref q ∧ SamL K H p q ∧ Q (.bl true) H
end
open PySem PySem.Spec PyProof.Rows
section
variable {X : Cx} {K : PySem.W.Frag} {o e value : Expr} {f : Str} {pos pos' tpos : Pos} {ta tv : TE} {st : Stmt} {t : TS}
theorem pe_fldK (he : PE X e ta) (hb : attributeBase e f X.env (eval e X.env) = eval e X.env) (hK : X.K = K := by rfl) : PE X (.Attribute e f pos) (tFld K ta f) := by subst hK; exact pe_fld he hb
theorem ps_fldK (ha : PE X o ta) (hv : PE X value tv) (hs : swapsWith value (some (.Attribute o f pos')) pos.line X.env = pure false := by rfl) (hK : X.K = K := by rfl) : PS X (.Assign [.Attribute o f pos'] value pos) (sFld K ta tv f) := by subst hK; exact ps_fld ha hv hs
theorem ps_fldaugK {op : Operator} {rd : V → V → Hp → VK → Prop} (ha : PE X o ta) (hv : PE X value tv) (hop : InOp X op rd) (hK : X.K = K := by rfl) : PS X (.AugAssign (.Attribute o f tpos) op value pos) (sFldAug K ta tv rd f) := by subst hK; exact ps_fldaug ha hv hop
theorem ps_fr (h : X.A.frames = some X.stack → PS X st t) : PS X st t := fun pins s σ H D I hw => h I.ok.frames pins s σ H D I hw
end
structure Own (K : PySem.W.Frag) (C f : Addr) : Prop where
  c : Cls K C
  m : Mk K C f
theorem own_mk {K : PySem.W.Frag} {C f : Addr} (h1 : PySem.W.plainGet K C Str.empty = true) (h2 : PySem.W.hasDictIn K C = true) (h3 : PySem.W.plainOver K C = true) (h4 : PySem.W.findIn K (.ref C) "__setattr__" = some (some (.builtin "object.__setattr__")))
    (h5 : PySem.W.makesIn K C = true) (h6 : PySem.W.findIn K (.ref C) "__init__" = some (some (.ref f))) (h7 : PySem.W.isFn K (.ref f) = true) (h8 : PySem.W.keepIn K (.ref C) = true) : Own K C f := ⟨⟨h1, h2, h3, h4⟩, ⟨h5, h6, h7, h8⟩⟩
open PySem PySem.Spec PyProof.Rows
def Itz (K : PySem.W.Frag) (a b : Addr) : It where
  go := fun i H => ∃ xs ys x y, SqL K H a xs ∧ SqL K H b ys ∧ xs[i]? = some x ∧ ys[i]? = some y
  yld := fun i H x H' => ∃ T, x = .ref T ∧ H T = none ∧ ∀ xs ys u v, SqL K H a xs → SqL K H b ys → xs[i]? = some u → ys[i]? = some v → H' = upd H T (.tup [u, v])
  stop := fun i H => ∃ xs ys, SqL K H a xs ∧ SqL K H b ys ∧ (xs.length ≤ i ∨ ys.length ≤ i)
def ZipSt (z TI TO i1 i2 a b : Addr) (i : Nat) (h : Heap) : Prop := IsZip h z TI TO .none ∧ IsPair h TI (.ref i1) (.ref i2) ∧ (∃ p q, IsPair h TO p q) ∧ h.IsListIter i1 a i ∧ h.IsListIter i2 b i
section
variable {X : Cx} {es : List Expr} {kx : Nat} {tp : Pos}
def iZip (K : PySem.W.Frag) (ta : TA) : TI := fun σ H R => ta σ H fun vs H1 => ∃ a b, vs = [.ref a, .ref b] ∧ (∃ xs, SqL K H1 a xs) ∧ (∃ ys, SqL K H1 b ys) ∧ R (Itz K a b) H1
end
open PySem PySem.Spec PyProof.Rows
def rInT (K : PySem.W.Frag) : R2 := fun x y H Q => ∃ (p q : Addr) (as : List Addr) (ks : List Int), x = .ref p ∧ y = .ref q ∧ SqL K H q (as.map V.ref) ∧ SqT K H p (vI ks) ∧
  (∀ a ∈ as, ∃ js : List Int, SqT K H a (vI js)) ∧ (∃ a ∈ as, SqT K H a (vI ks)) ∧ Q (.bl true) H
section
variable {X : Cx} {K : PySem.W.Frag}
end
open PySem PySem.Spec PyProof.Rows
section
variable {prog : Program} {w : World} {A : Around} {E : Value → Shared → Prop} {s : Shared}
structure Apart2 (z TI TO i1 i2 : Addr) : Prop where
  TIz : TI ≠ z
  TOz : TO ≠ z
  i1z : i1 ≠ z
  i2z : i2 ≠ z
  TITO : TI ≠ TO
  TIi1 : TI ≠ i1
  TIi2 : TI ≠ i2
  TOi1 : TO ≠ i1
  TOi2 : TO ≠ i2
  i12 : i1 ≠ i2
abbrev strIt (x : Str) (t : Tok) : Obj := { cls := .type (strIterType x), data := .fields #[.str x t, .int 0 0] }
abbrev lstIt (l : Addr) : Obj := { cls := .type "list_iterator", data := .fields #[.ref l, .int 0 0] }
abbrev zHeap (h : Heap) (o1 o2 : Obj) : Heap := ((((h.push o1).push o2).push { cls := .type "tuple", data := .seq #[.ref h.objs.size, .ref (h.push o1).objs.size] }).push { cls := .type "tuple", data := .seq #[.none, .none] }).push
  { cls := .type "zip", data := .fields #[.none, .bool false, .bool false, .ref ((h.push o1).push o2).objs.size, .ref (((h.push o1).push o2).push { cls := .type "tuple", data := .seq #[.ref h.objs.size, .ref (h.push o1).objs.size] }).objs.size] }
abbrev zAddr (h : Heap) (o1 o2 : Obj) : Addr := ((((h.push o1).push o2).push { cls := .type "tuple", data := .seq #[.ref h.objs.size, .ref (h.push o1).objs.size] }).push { cls := .type "tuple", data := .seq #[.none, .none] }).objs.size
end
open PySem PySem.Spec PyProof.Rows
inductive Src where
  | l (a : Addr)
  | s (z : Str)
def srcV : Src → V
  | .l a => .ref a
  | .s z => .str z
def srcOk (K : PySem.W.Frag) (H : Hp) : Src → Prop
  | .l a => ∃ xs, SqL K H a xs
  | .s _ => True
def srcAt (K : PySem.W.Frag) (H : Hp) : Src → Nat → V → Prop
  | .l a, i, v => ∃ xs, SqL K H a xs ∧ xs[i]? = some v
  | .s z, i, v => ∃ c, z.cps[i]? = some c ∧ v = .str ⟨#[c]⟩
def srcEnd (K : PySem.W.Frag) (H : Hp) : Src → Nat → Prop
  | .l a, i => ∃ xs, SqL K H a xs ∧ xs.length = i
  | .s z, i => z.cps.size = i
def srcSt (it : Addr) (t : Tok) : Src → Nat → Heap → Prop
  | .l a, i, h => h.IsListIter it a i
  | .s z, i, h => h.IsStrIter it (strIterType z) z t i
def srcFp (it : Addr) : Src → List Addr
  | .l a => [it, a]
  | .s _ => [it]
def srcIt (t : Tok) : Src → Obj
  | .l a => lstIt a
  | .s z => strIt z t
def Itz2 (K : PySem.W.Frag) (S1 S2 : Src) : It where
  go := fun i H => (∃ u, srcAt K H S1 i u) ∧ ∃ v, srcAt K H S2 i v
  yld := fun i H x H' => ∃ T, x = .ref T ∧ H T = none ∧ ∀ u v, srcAt K H S1 i u → srcAt K H S2 i v → H' = upd H T (.tup [u, v])
  stop := fun i H => srcOk K H S1 ∧ srcOk K H S2 ∧ (srcEnd K H S1 i ∨ ((∃ u, srcAt K H S1 i u) ∧ srcEnd K H S2 i))
def Zip2St (z TI TO i1 i2 : Addr) (t1 t2 : Tok) (S1 S2 : Src) (i : Nat) (h : Heap) : Prop := IsZip h z TI TO .none ∧ IsPair h TI (.ref i1) (.ref i2) ∧ (∃ p q, IsPair h TO p q) ∧ srcSt i1 t1 S1 i h ∧ srcSt i2 t2 S2 i h
section
variable {X : Cx} {es : List Expr} {kx : Nat} {tp : Pos}
def zOk : Src → Src → Prop
  | .s _, .l _ => False
  | _, _ => True
def iZip2 (K : PySem.W.Frag) (ta : TA) : TI := fun σ H R => ta σ H fun vs H1 => ∃ S1 S2, vs = [srcV S1, srcV S2] ∧ zOk S1 S2 ∧ srcOk K H1 S1 ∧ srcOk K H1 S2 ∧ R (Itz2 K S1 S2) H1
end
open PySem PySem.Spec PyProof.Rows
structure CompOk2 (X : Cx) (x x' : Str) (Nc : List Str) (caps : List Nat) (scope : Scope) : Prop where
  kind : scope.kind = .function
  cell : ∀ y ∈ scope.names, y.2 ≠ .cell
  names : ∀ y ∈ scope.names, y.2 = .local → scope.names.lookup y.1 = some .local
  fr : ∀ y ∈ scope.names, y.2 = .free → X.env.scope.names.lookup y.1 = some .cell ∧ scope.names.lookup y.1 = some .free
  loc : scope.names.lookup x = some .local
  loc2 : scope.names.lookup x' = some .local
  len : Nc.length = caps.length + 2
  hd : Nc[0]? = some x
  hd2 : Nc[1]? = some x'
  nd : Nc.Nodup
  cap : ∀ k j, caps[k]? = some j → ∃ y, Nc[k + 2]? = some y ∧ X.N[j]? = some y ∧ scope.names.lookup y = some .free
def tCompW2 (K : PySem.W.Frag) (caps : List Nat) (tc : TT) (te : TE) (J : It) (σ : St) (H : Hp) (Q : VK) : Prop :=
  ∃ W : Nat → Nat → List V → Hp → Prop, (∃ m, W 0 m [] H) ∧ ∀ i m ys H, W i m ys H →
    (J.stop i H ∧ ys.length ≤ sizeLine ∧ ∀ p, H p = none → Q (.ref p) (upd H p (.lst ys))) ∨
    (J.go i H ∧ ys.length < sizeLine ∧ ∀ x H', J.yld i H x H' → ∃ a u v, x = .ref a ∧ SqT K H' a [u, v] ∧ tc (some u :: some v :: capV σ caps) H' fun b H2 =>
      if b = true then te (some u :: some v :: capV σ caps) H2 fun y H3 => ∃ m', m' < m ∧ W (i + 1) m' (ys ++ [y]) H3 else ∃ m', m' < m ∧ W (i + 1) m' ys H2)
def tComp2 (K : PySem.W.Frag) (wi : TI) (caps : List Nat) (tc : TT) (te : TE) : TE := fun σ H Q => wi σ H fun J H1 => tCompW2 K caps tc te J σ H1 Q
section
variable {X : Cx} {pins : List (Addr × Obj)} {σ : St} {H : Hp} {s : Shared}
end
open PySem PySem.Spec PyProof.Rows
section
variable {X : Cx}
def rCountL (K : PySem.W.Frag) : V → List V → Hp → VK → Prop := fun x vs H Q => ∃ a ns k, x = .ref a ∧ vs = [.int k] ∧ SqL K H a (vI ns) ∧ Q (.int (ns.count k : Nat)) H
end
def Ite (K : PySem.W.Frag) (a : Addr) : It where
  go := fun i H => ∃ xs x, SqL K H a xs ∧ xs[i]? = some x
  yld := fun i H x H' => ∃ T, x = .ref T ∧ H T = none ∧ ∀ xs u, SqL K H a xs → xs[i]? = some u → H' = upd H T (.tup [.int (i : Int), u])
  stop := fun i H => ∃ xs, SqL K H a xs ∧ xs.length = i
def EnSt (e it a : Addr) (i : Nat) (h : Heap) : Prop := (∃ old, IsEnum h e it i old) ∧ h.IsListIter it a i
section
variable {X : Cx} {es : List Expr} {kx : Nat} {tp : Pos}
def iEnum (K : PySem.W.Frag) (ta : TA) : TI := fun σ H R => ta σ H fun vs H1 => ∃ a, vs = [.ref a] ∧ (∃ xs, SqL K H1 a xs) ∧ R (Ite K a) H1
end
open PySem PySem.Spec PyProof.Rows
inductive SamV (K : PySem.W.Frag) (H : Hp) : Nat → V → V → Prop where
  | flat {n : Nat} {x : V} (h : flatV x = true) : SamV K H n x x
  | lst {n : Nat} {p q : Addr} {xs ys : List V} (hp : SqL K H p xs) (hq : SqL K H q ys) (hl : xs.length = ys.length) (hi : ∀ (i : Nat) (x y : V), xs[i]? = some x → ys[i]? = some y → SamV K H n x y) : SamV K H (n + 1) (.ref p) (.ref q)
  | tup {n : Nat} {p q : Addr} {xs ys : List V} (hp : SqT K H p xs) (hq : SqT K H q ys) (hl : xs.length = ys.length) (hi : ∀ (i : Nat) (x y : V), xs[i]? = some x → ys[i]? = some y → SamV K H n x y) : SamV K H (n + 1) (.ref p) (.ref q)
section
variable {X : Cx} {K : PySem.W.Frag}
def SamS (K : PySem.W.Frag) (H : Hp) (p q : Addr) : Prop := ∃ xs ys : List V, SqL K H p xs ∧ SqL K H q ys ∧ xs.length = ys.length ∧ ∀ (i : Nat) (x y : V), xs[i]? = some x → ys[i]? = some y → SamV K H 50 x y
def rEqS (K : PySem.W.Frag) : R2 := fun x y H Q => ∃ p q, x = .ref p ∧ y = .ref q ∧ SamS K H p q ∧ Q (.bl true) H
def rNeS (K : PySem.W.Frag) : R2 := fun x y H Q => ∃ p q, x = .ref p ∧ y = .ref q ∧ SamS K H p q ∧ Q (.bl false) H
end
open PySem PySem.Spec PyProof.Rows
section
variable {X : Cx} {K : PySem.W.Frag} {k : Nat} {f C : Addr} {fd : FuncData} {ps : List Str} {sp : Sp} {dvs : List V} {ds : List Value} {x m : Str} {p pos apos : Pos} {e o : Expr} {es : List Expr} {ta : TE} {t : TA}
def rNeE (K : PySem.W.Frag) : R2 := fun x y H Q => ∃ p q xs, x = .ref p ∧ y = .ref q ∧ SqL K H p xs ∧ SqL K H q [] ∧ Q (.bl (!xs.isEmpty)) H
def rEqE (K : PySem.W.Frag) : R2 := fun x y H Q => ∃ p q xs, x = .ref p ∧ y = .ref q ∧ SqL K H p xs ∧ SqL K H q [] ∧ Q (.bl xs.isEmpty) H
end
open PySem PySem.Spec PyProof.Rows
section
variable {X : Cx} {CX CX' : CXT} {k k' : Nat} {f f' C C' : Addr} {fd fd' : FuncData} {ps ps' : List Str} {sp sp' : Sp} {E : XK} {m : Str} {pos apos : Pos} {o : Expr} {ta : TE}
def tMethD (C C' : Addr) (m : Str) (sp sp' : Sp) (E : XK) (ta : TE) : TE := fun σ H Q => ta σ H fun x H1 => ∃ a dx fs, x = .ref a ∧ fs.lookup m = none ∧
  ((H1 a = some (.ins C dx fs) ∧ sp [x] H1 Q E) ∨ (H1 a = some (.ins C' dx fs) ∧ sp' [x] H1 Q E))
theorem pe_methD {pl : Sem Bool} (he : PE X o ta) (c : Cls X.K C) (hm : Meth X.K C m f) (F : FnOk X.prog X.w X.K X.mg X.base CX k f fd ps sp) (hr : Room k X.A) (hb : Binds X.K fd ps []) (hx : Passes CX X E)
    (c' : Cls X.K C') (hm' : Meth X.K C' m f') (F' : FnOk X.prog X.w X.K X.mg X.base CX' k' f' fd' ps' sp') (hr' : Room k' X.A) (hb' : Binds X.K fd' ps' []) (hx' : Passes CX' X E)
    (ht : eval (.Call (.Attribute o m apos) [] [] pos) X.env = (do
      let ov ← eval o X.env
      standAt apos.atName
      let (f, first) ← holding [ov] (getMethod ov m pl)
      callWith pos f first (backTo pos (starEach [] X.env)) (backToKw pos (keywordEach [] X.env))) := by rfl) :
    PE X (.Call (.Attribute o m apos) [] [] pos) (tMethD C C' m sp sp' E ta) := by
  intro pins s σ H Q I h
  refine PySem.W.methodCall_KW (pl := pl) (thn (he pins s σ H _ I h) fun u s1 ⟨x, H1, I1, rx, a, dx, fs, ex, l, q⟩ => ?_) ht
  subst ex
  obtain rfl : u = Value.ref a := rx
  rcases q with ⟨ea, q⟩ | ⟨ea, q⟩
  · refine getmeth_ok I1 ea c hm l ?_
    exact PySem.W.callWith_K0 (first := [.ref a]) I1.kIn hm.kp (run_fn (us := [.ref a]) (vs := [.ref a]) F hr hb .nil hx I1 (.cons rfl .nil) (by simpa using q))
  · refine getmeth_ok I1 ea c' hm' l ?_
    exact PySem.W.callWith_K0 (first := [.ref a]) I1.kIn hm'.kp (run_fn (us := [.ref a]) (vs := [.ref a]) F' hr' hb' .nil hx' I1 (.cons rfl .nil) (by simpa using q))
end
open PySem PySem.Spec PyProof.Rows
def vB (bs : List Bool) : List V := bs.map V.bl
section
variable {X : Cx} {K : PySem.W.Frag}
end
open PySem PySem.Spec PyProof.Rows
section
variable {X : Cx} {K : PySem.W.Frag}
theorem call_rng1 : CallR X (.type "range") (fun xs H Q => ∃ b, xs = [.int b] ∧ ∀ p, H p = none → Q (.ref p) (upd H p (rngO p 0 b 1))) := by
  intro pins s σ H xs us Q I rv h
  obtain ⟨b, rfl, q⟩ := h
  obtain ⟨u1, rfl, r1⟩ := rv.one
  obtain ⟨t, rfl⟩ := r1
  exact call_range_1 (laid_rng I q)
end
theorem rng_nat {n : Nat} (h : n ≤ 1000) : Builtin.Range.rangeSize 0 (n : Int) 1 = (n : Int) ∧ Builtin.Range.small 0 (n : Int) 1 = true ∧ rngL 0 1 n = (List.range n).map fun (i : Nat) => ((i : Nat) : Int) := by
  have rs : Builtin.Range.rangeSize 0 (n : Int) 1 = (n : Int) := by
    unfold Builtin.Range.rangeSize
    rw [if_pos (by decide)]
    by_cases h : (0 : Int) < (n : Int)
    · rw [if_pos h, Int.ediv_one]
      omega
    · rw [if_neg h]
      omega
  refine ⟨rs, ?_, ?_⟩
  · have fits : ∀ {z : Int}, -1000000 ≤ z → z ≤ 1000000 → Builtin.Range.rangeFitsLong z = true := fun {z} h1 h2 => by
      unfold Builtin.Range.rangeFitsLong
      simp only [Bool.and_eq_true, decide_eq_true_eq]
      omega
    unfold Builtin.Range.small
    rw [rs, fits (by omega) (by omega), fits (by omega) (by omega), fits (by omega) (by omega), fits (by omega) (by omega)]
    simp only [show (1 : Int) > 0 by decide, if_true, Bool.true_and, Bool.or_eq_true]
    exact .inr trivial
  · unfold rngL
    refine List.map_congr_left fun i _ => ?_
    omega
open PySem PySem.Spec PyProof.Rows PySem.Builtin PySem.Builtin.Str
def jn (c : Nat) : List (List Nat) → List Nat
  | [] => []
  | [w] => w
  | w :: v :: r => w ++ c :: jn c (v :: r)
theorem sep_eq {c : Nat} : ∀ {w v a b : List Nat}, c ∉ w → c ∉ v → w ++ c :: a = v ++ c :: b → w = v ∧ a = b
  | [], [], a, b, _, _, h => ⟨rfl, (List.cons.inj h).2⟩
  | [], x :: v, a, b, _, hv, h => absurd (by have := (List.cons.inj h).1; rw [this]; exact List.mem_cons_self) hv
  | x :: w, [], a, b, hw, _, h => absurd (by have := (List.cons.inj h).1; rw [← this]; exact List.mem_cons_self) hw
  | x :: w, y :: v, a, b, hw, hv, h => by
    have e := List.cons.inj h
    have := sep_eq (w := w) (v := v) (fun z => hw (List.mem_cons_of_mem _ z)) (fun z => hv (List.mem_cons_of_mem _ z)) e.2
    exact ⟨by rw [e.1, this.1], this.2⟩
theorem join_list (c : Nat) : ∀ l : List Str, (Str.join ⟨#[c]⟩ l).cps.toList = jn c (l.map fun z => z.cps.toList)
  | [] => rfl
  | [x] => rfl
  | x :: y :: r => by
    show (x ++ ⟨#[c]⟩ ++ Str.join ⟨#[c]⟩ (y :: r)).cps.toList = x.cps.toList ++ c :: jn c ((y :: r).map fun z => z.cps.toList)
    rw [← join_list c (y :: r)]
    show ((x.cps ++ #[c]) ++ (Str.join ⟨#[c]⟩ (y :: r)).cps).toList = _
    simp
theorem sk_min (z : Str) : 1 ≤ Builtin.Str.strKind z := by
  unfold Builtin.Str.strKind
  split
  · omega
  · split <;> omega
theorem vals_strs : ∀ {l : List (Str × Tok)} {ws : List (List Nat)}, l.map (·.1) = ws.map tx → Vals (vS ws) (strValues l)
  | [], [], _ => .nil
  | [], w :: ws, h => by cases h
  | p :: l, [], h => by cases h
  | p :: l, w :: ws, h => by
    have e := List.cons.inj h
    exact .cons ⟨p.2, by rw [← e.1]⟩ (vals_strs e.2)
def rSplit : V → List V → Hp → VK → Prop := fun x vs H Q => ∃ (u : List Nat) (c : Nat) (ws : List (List Nat)), x = .str (tx u) ∧ vs = [.str ⟨#[c]⟩] ∧ c < 256 ∧ u.length + 2 ≤ sizeLine ∧ ws ≠ [] ∧ jn c ws = u ∧ (∀ w ∈ ws, c ∉ w) ∧ ∀ l, H l = none → Q (.ref l) (upd H l (.lst (vS ws)))
open PySem PySem.Spec PyProof.Rows PySem.Builtin PySem.Builtin.Str
def jnS (sp : List Nat) : List (List Nat) → List Nat
  | [] => []
  | [w] => w
  | w :: v :: r => w ++ (sp ++ jnS sp (v :: r))
structure Sgn (sp : List Nat) (c d : Nat) : Prop where
  at' : ∀ i, sp[i]? = some c ↔ i = d
  b : ∀ z ∈ sp, z < 256
theorem ext_list (u : List Nat) (i n : Nat) : ((tx u).cps.extract i n).toList = (u.drop i).take (n - i) := by
  show ((u.toArray).extract i n).toList = _
  rw [Array.toList_extract, List.extract_eq_drop_take]
theorem subAt_iff {u sp : List Nat} {j : Nat} : Builtin.Str.subAt (tx u) (tx sp) j = true ↔ (u.drop j).take sp.length = sp := by
  unfold Builtin.Str.subAt
  rw [beq_iff_eq, ← Array.toList_inj, ext_list, tx_len, show j + sp.length - j = sp.length by omega, tx_list]
theorem sk_all {sp : List Nat} (h : ∀ z ∈ sp, z < 256) : Builtin.Str.strKind (tx sp) = 1 := by
  unfold Builtin.Str.strKind
  rw [if_pos]
  rw [← Array.all_toList, tx_list, List.all_eq_true]
  exact fun z hz => decide_eq_true (h z hz)
def rSplitS : V → List V → Hp → VK → Prop := fun x vs H Q => ∃ (sp : List Nat) (c d : Nat) (ws : List (List Nat)), x = .str (tx (jnS sp ws)) ∧ vs = [.str (tx sp)] ∧ Sgn sp c d ∧ (jnS sp ws).length + 2 ≤ sizeLine ∧ ws ≠ [] ∧ (∀ w ∈ ws, c ∉ w) ∧ ∀ l, H l = none → Q (.ref l) (upd H l (.lst (vS ws)))
open PySem PySem.Spec PyProof.Rows PySem.Builtin PySem.Builtin.Str
def Cln (sp w : List Nat) : Prop := ∀ i, i < w.length → (w.drop i ++ sp).take sp.length ≠ sp
def ClnL (sp w : List Nat) : Prop := ∀ i, i < w.length → (w.drop i).take sp.length ≠ sp
def AllC (sp : List Nat) : List (List Nat) → Prop
  | [] => True
  | [w] => ClnL sp w
  | w :: v :: r => Cln sp w ∧ AllC sp (v :: r)
theorem Cln.last {sp w : List Nat} (h : Cln sp w) : ClnL sp w := fun i hi e => h i hi (by
  have hl := congrArg List.length e
  rw [List.length_take] at hl
  rw [List.take_append_of_le_length (by omega)]
  exact e)
theorem allC_of {sp : List Nat} : ∀ {ws : List (List Nat)}, (∀ w ∈ ws, Cln sp w) → AllC sp ws
  | [], _ => trivial
  | [w], h => (h w List.mem_cons_self).last
  | w :: v :: r, h => ⟨h w List.mem_cons_self, allC_of fun x hx => h x (List.mem_cons_of_mem _ hx)⟩
theorem allC_ex {sp : List Nat} (hsp : 1 ≤ sp.length) : ∀ (n : Nat) (u : List Nat), u.length ≤ n → ∃ ws, ws ≠ [] ∧ jnS sp ws = u ∧ AllC sp ws := by
  intro n
  induction n with
  | zero =>
    intro u hu
    exact ⟨[u], by simp, rfl, fun i hi => by omega⟩
  | succ n ih =>
    intro u hu
    by_cases h : ∃ i, i < u.length ∧ (u.drop i).take sp.length = sp
    · obtain ⟨i, ⟨hi, he⟩, hm⟩ : ∃ i, (i < u.length ∧ (u.drop i).take sp.length = sp) ∧ ∀ j, j < i → ¬ (j < u.length ∧ (u.drop j).take sp.length = sp) := by
        obtain ⟨i, hi⟩ := h
        induction i using Nat.strongRecOn with
        | _ i ih2 =>
          by_cases g : ∃ j, j < i ∧ (j < u.length ∧ (u.drop j).take sp.length = sp)
          · obtain ⟨j, hj, hj2⟩ := g
            exact ih2 j hj hj2
          · exact ⟨i, hi, fun j hj z => g ⟨j, hj, z⟩⟩
      have e1 : u.drop i = sp ++ u.drop (i + sp.length) := by
        have := List.take_append_drop sp.length (u.drop i)
        rw [he, List.drop_drop] at this
        exact this.symm
      have eu : u = u.take i ++ (sp ++ u.drop (i + sp.length)) := by rw [← e1, List.take_append_drop]
      obtain ⟨ws, ne, ej, hC⟩ := ih (u.drop (i + sp.length)) (by rw [List.length_drop]; omega)
      refine ⟨u.take i :: ws, by simp, ?_, ?_⟩
      · cases ws with
        | nil => exact absurd rfl ne
        | cons v r => rw [jnS, ej]; exact eu.symm
      · cases ws with
        | nil => exact absurd rfl ne
        | cons v r =>
          refine ⟨fun j hj e => ?_, hC⟩
          rw [List.length_take] at hj
          refine hm j (by omega) ⟨by omega, ?_⟩
          have ed : u.drop j = (u.take i).drop j ++ (sp ++ u.drop (i + sp.length)) := by
            have q := congrArg (List.drop j) eu
            rw [List.drop_append_of_le_length (by rw [List.length_take]; omega)] at q
            exact q
          rw [ed, ← List.append_assoc, List.take_append_of_le_length (by rw [List.length_append]; omega)]
          exact e
    · exact ⟨[u], by simp, rfl, fun i hi e => h ⟨i, hi, e⟩⟩
def psn (W : Nat) : Nat → List (List Nat) → List Nat
  | _, [] => []
  | _, [_] => []
  | a, w :: v :: r => (a + w.length) :: psn W (a + w.length + W) (v :: r)
theorem take_pre {sp w x : List Nat} (h : (w ++ x).take sp.length = sp) (hx : x = [] ∨ ∃ y, x = sp ++ y) (hw : 1 ≤ w.length) : (w ++ sp).take sp.length = sp := by
  rcases hx with rfl | ⟨y, rfl⟩
  · rw [List.append_nil] at h
    have hl := congrArg List.length h
    rw [List.length_take] at hl
    rw [List.take_append_of_le_length (by omega)]
    exact h
  · rw [← List.append_assoc, List.take_append_of_le_length (by rw [List.length_append]; omega)] at h
    exact h
theorem skip_run {u sp : List Nat} {limit : Nat} : ∀ (m i k : Nat) (acc : Array Nat) (free : Nat), (∀ j, i ≤ j → j < i + m → ¬ (free ≤ j ∧ j + (tx sp).length ≤ (tx u).length ∧ Builtin.Str.subAt (tx u) (tx sp) j = true)) →
    forIn (List.range' i (m + k)) (acc, free) (StrLaws.occBody (tx u) (tx sp) (tx u).length limit) = forIn (List.range' (i + m) k) (acc, free) (StrLaws.occBody (tx u) (tx sp) (tx u).length limit)
  | 0, i, k, acc, free, _ => by rw [Nat.zero_add, Nat.add_zero]
  | m + 1, i, k, acc, free, h => by
    rw [show m + 1 + k = (m + k) + 1 by omega, List.range'_succ, List.forIn_cons]
    have e : StrLaws.occBody (tx u) (tx sp) (tx u).length limit i (acc, free) = pure (ForInStep.yield (acc, free)) := by
      unfold StrLaws.occBody
      rw [if_neg fun z => h i (Nat.le_refl _) (by omega) ⟨z.1.1.2, z.1.2, z.2⟩]
    rw [e]
    have ih := skip_run (u := u) (sp := sp) (limit := limit) m (i + 1) k acc free fun j h1 h2 => h j (by omega) (by omega)
    refine Eq.trans ih ?_
    rw [show i + 1 + m = i + (m + 1) by omega]
theorem occ_runG {sp : List Nat} (hsp : 1 ≤ sp.length) {limit : Nat} : ∀ (ws : List (List Nat)) (pre : List Nat) (acc : Array Nat) (free : Nat), ws ≠ [] → AllC sp ws → free ≤ pre.length → acc.size + (jnS sp ws).length < limit →
    ((forIn (List.range' pre.length ((jnS sp ws).length + 1)) (acc, free) (StrLaws.occBody (tx (pre ++ jnS sp ws)) (tx sp) (tx (pre ++ jnS sp ws)).length limit)).run.fst).toList = acc.toList ++ psn sp.length pre.length ws
  | [], _, _, _, h, _, _, _ => absurd rfl h
  | [w], pre, acc, free, _, hC, hf, hl => by
    have hj : jnS sp [w] = w := rfl
    have no : ∀ j, pre.length ≤ j → j < pre.length + (w.length + 1) → ¬ (free ≤ j ∧ j + (tx sp).length ≤ (tx (pre ++ jnS sp [w])).length ∧ Builtin.Str.subAt (tx (pre ++ jnS sp [w])) (tx sp) j = true) := fun j h1 h2 z => by
      obtain ⟨_, z1, z2⟩ := z
      rw [subAt_iff, hj] at z2
      rw [hj, tx_len, tx_len, List.length_append] at z1
      rw [List.drop_append_of_le_length' h1] at z2
      exact hC (j - pre.length) (by omega) z2
    have s := skip_run (limit := limit) (w.length + 1) pre.length 0 acc free no
    rw [hj] at s ⊢
    rw [Nat.add_zero] at s
    rw [s]
    simp [psn]
  | w :: v :: r, pre, acc, free, _, hC, hf, hl => by
    obtain ⟨u, eu⟩ : ∃ u, u = pre ++ jnS sp (w :: v :: r) := ⟨_, rfl⟩
    have hj : jnS sp (w :: v :: r) = w ++ (sp ++ jnS sp (v :: r)) := rfl
    have hlen : (jnS sp (w :: v :: r)).length = w.length + (sp.length + (jnS sp (v :: r)).length) := by rw [hj, List.length_append, List.length_append]
    have e2 : u = (pre ++ w ++ sp) ++ jnS sp (v :: r) := by rw [eu, hj]; simp
    have ul : u.length = pre.length + w.length + sp.length + (jnS sp (v :: r)).length := by rw [e2]; simp only [List.length_append]
    rw [← eu]
    have no : ∀ j, pre.length ≤ j → j < pre.length + w.length → ¬ (free ≤ j ∧ j + (tx sp).length ≤ (tx u).length ∧ Builtin.Str.subAt (tx u) (tx sp) j = true) := fun j h1 h2 z => by
      obtain ⟨_, z1, z2⟩ := z
      rw [subAt_iff, eu, hj, List.drop_append_of_le_length' h1, List.drop_append_of_le_length (by omega)] at z2
      exact hC.1 (j - pre.length) (by omega) (take_pre z2 (.inr ⟨_, rfl⟩) (by rw [List.length_drop]; omega))
    have s := skip_run (limit := limit) w.length pre.length (sp.length + (jnS sp (v :: r)).length + 1) acc free no
    rw [hlen, show w.length + (sp.length + (jnS sp (v :: r)).length) + 1 = w.length + (sp.length + (jnS sp (v :: r)).length + 1) by omega, s]
    rw [show sp.length + (jnS sp (v :: r)).length + 1 = ((sp.length - 1) + ((jnS sp (v :: r)).length + 1)) + 1 by omega, List.range'_succ, List.forIn_cons]
    have at_ : Builtin.Str.subAt (tx u) (tx sp) (pre.length + w.length) = true := by
      rw [subAt_iff, eu, hj, ← List.append_assoc, List.drop_append_of_le_length' (by rw [List.length_append]; omega), List.length_append, Nat.sub_self, List.drop_zero]
      exact List.take_left
    have e : StrLaws.occBody (tx u) (tx sp) (tx u).length limit (pre.length + w.length) (acc, free) = pure (ForInStep.yield (acc.push (pre.length + w.length), pre.length + w.length + (tx sp).length)) := by
      unfold StrLaws.occBody
      rw [if_pos ⟨⟨⟨by show acc.size < limit; omega, by show free ≤ _; omega⟩, by rw [tx_len, tx_len]; omega⟩, at_⟩]
    rw [e]
    have s2 := skip_run (u := u) (sp := sp) (limit := limit) (sp.length - 1) (pre.length + w.length + 1) ((jnS sp (v :: r)).length + 1) (acc.push (pre.length + w.length)) (pre.length + w.length + (tx sp).length) (fun j h1 h2 z => by
      have := z.1
      rw [tx_len] at this
      omega)
    show ((Id.run (forIn (List.range' (pre.length + w.length + 1) (sp.length - 1 + ((jnS sp (v :: r)).length + 1))) (acc.push (pre.length + w.length), pre.length + w.length + (tx sp).length) (StrLaws.occBody (tx u) (tx sp) (tx u).length limit))).fst).toList = _
    rw [s2]
    have ih := occ_runG hsp (limit := limit) (v :: r) (pre ++ w ++ sp) (acc.push (pre.length + w.length)) (pre.length + w.length + (tx sp).length) (by simp) hC.2 (by rw [tx_len]; simp only [List.length_append]; omega) (by rw [Array.size_push]; omega)
    rw [← e2] at ih
    have el : (pre ++ w ++ sp).length = pre.length + w.length + sp.length := by simp only [List.length_append]
    rw [el] at ih
    rw [show pre.length + w.length + 1 + (sp.length - 1) = pre.length + w.length + sp.length by omega, ih, Array.toList_push, List.append_assoc]
    rfl
where
  List.drop_append_of_le_length' {a b : List Nat} {j : Nat} (h : a.length ≤ j) : (a ++ b).drop j = b.drop (j - a.length) := by
    rw [List.drop_append, List.drop_of_length_le h, List.nil_append]
theorem parts_G {sp : List Nat} : ∀ (ws : List (List Nat)) (pre : List Nat), ws ≠ [] → StrLaws.partsFrom (tx (pre ++ jnS sp ws)) sp.length pre.length (psn sp.length pre.length ws) = ws.map tx
  | [], _, h => absurd rfl h
  | [w], pre, _ => by
    show [strSub (tx (pre ++ w)) pre.length (tx (pre ++ w)).length] = [tx w]
    congr 1
    apply Str.ext'
    apply Array.toList_inj.mp
    show ((tx (pre ++ w)).cps.extract pre.length (tx (pre ++ w)).length).toList = w
    rw [ext_list, tx_len, List.drop_left, List.length_append, List.take_of_length_le (by omega)]
  | w :: v :: r, pre, _ => by
    have hj : jnS sp (w :: v :: r) = w ++ (sp ++ jnS sp (v :: r)) := rfl
    have e2 : pre ++ jnS sp (w :: v :: r) = (pre ++ w ++ sp) ++ jnS sp (v :: r) := by rw [hj]; simp
    have ih := parts_G (sp := sp) (v :: r) (pre ++ w ++ sp) (by simp)
    have el : (pre ++ w ++ sp).length = pre.length + w.length + sp.length := by simp only [List.length_append]
    rw [el] at ih
    show strSub (tx (pre ++ jnS sp (w :: v :: r))) pre.length (pre.length + w.length) :: StrLaws.partsFrom (tx (pre ++ jnS sp (w :: v :: r))) sp.length (pre.length + w.length + sp.length) (psn sp.length (pre.length + w.length + sp.length) (v :: r)) = _
    rw [List.map_cons]
    congr 1
    · apply Str.ext'
      apply Array.toList_inj.mp
      show ((tx (pre ++ jnS sp (w :: v :: r))).cps.extract pre.length (pre.length + w.length)).toList = w
      rw [ext_list, List.drop_left, hj, Nat.add_sub_cancel_left, List.take_left]
    · rw [e2]
      exact ih
theorem splitG_is {sp : List Nat} (hsp : 1 ≤ sp.length) (h256 : ∀ z ∈ sp, z < 256) {ws : List (List Nat)} (ne : ws ≠ []) (hC : AllC sp ws) : Txt.split (tx (jnS sp ws)) (tx sp) = ws.map tx := by
  have o := occ_runG hsp (limit := (tx (jnS sp ws)).length + 1) ws [] #[] 0 ne hC (Nat.le_refl _) (by rw [tx_len]; simp)
  have oe : occurrences (tx (jnS sp ws)) (tx sp) 0 (tx (jnS sp ws)).length ((tx (jnS sp ws)).length + 1) = psn sp.length 0 ws := by
    rw [StrLaws.occ_eq, Nat.sub_zero, tx_len]
    simp only [List.nil_append, List.length_nil, tx_len] at o
    exact o
  have one : psn sp.length 0 ws = [] → [tx (jnS sp ws)] = ws.map tx := fun z => by
    match ws, ne, z with
    | [w], _, _ => rfl
    | w :: v :: r, _, z => simp [psn] at z
  unfold Txt.split
  split
  · rename_i h
    refine one ?_
    match ws, ne with
    | [w], _ => rfl
    | w :: v :: r, _ =>
      exfalso
      rcases Bool.or_eq_true_iff.mp h with h | h
      · have := of_decide_eq_true h
        rw [tx_len, tx_len] at this
        simp only [jnS, List.length_append] at this
        omega
      · have := of_decide_eq_true h
        rw [sk_all h256] at this
        have := sk_min (tx (jnS sp (w :: v :: r)))
        omega
  · split
    · rename_i h
      rw [List.isEmpty_iff, oe] at h
      exact one h
    · rw [StrLaws.partsBetween_eq, oe, tx_len]
      exact parts_G ws [] ne
theorem jnS_wl {sp : List Nat} (hsp : 1 ≤ sp.length) : ∀ (ws : List (List Nat)), ws.length ≤ (jnS sp ws).length + 1
  | [] => by simp
  | [_] => by simp
  | w :: v :: r => by
    have := jnS_wl hsp (v :: r)
    simp only [jnS, List.length_append, List.length_cons] at *
    omega
def rSplitG : V → List V → Hp → VK → Prop := fun x vs H Q => ∃ (sp : List Nat) (ws : List (List Nat)), x = .str (tx (jnS sp ws)) ∧ vs = [.str (tx sp)] ∧ 1 ≤ sp.length ∧ (∀ z ∈ sp, z < 256) ∧ (jnS sp ws).length + 2 ≤ sizeLine ∧ ws ≠ [] ∧ AllC sp ws ∧ ∀ l, H l = none → Q (.ref l) (upd H l (.lst (vS ws)))
theorem mt_splitG {X : Cx} : MtR X "str.split" rSplitG := by
  intro pins s σ H x vs v us Q I rx rv h
  obtain ⟨sp, ws, rfl, rfl, hsp, h256, hz, ne, no, q⟩ := h
  obtain ⟨t, rfl⟩ := rx
  obtain ⟨u', rfl, ru⟩ := rv.one
  obtain ⟨t', rfl⟩ := ru
  have es := splitG_is hsp h256 ne no
  have wl := jnS_wl hsp ws
  generalize jnS sp ws = u at es hz wl ⊢
  have hlen : (tx u).length + 2 ≤ sizeLine := by rw [tx_len]; exact hz
  have fin : ∀ (l : List (Str × Tok)) (tk : Nat), l.map (·.1) = Txt.split (tx u) (tx sp) → EP X pins σ Q (.ref s.heap.objs.size) { s with heap := s.heap.push { cls := .type "list", data := .seq (strValues l).toArray }, toks := tk } := fun l tk e =>
    ⟨.ref s.heap.objs.size, _, I.laid (t' := tk) (fun b o e => Heap.get?_push_of_some _ e) (Nat.le_refl _) (show ObjOk X.prog X.w _ _ _ (.lst (vS ws)) from ⟨by rw [vS_len]; omega, _, _, vals_strs (e.trans es), Heap.get?_push_size _ rfl⟩), rfl, q _ (I.hok.fresh (Nat.le_refl _))⟩
  have hy : ((tx sp).length == 0) = false := by rw [tx_len, beq_eq_false_iff_ne]; omega
  have hn : (partsBetween (tx u) (occurrences (tx u) (tx sp) 0 (tx u).length ((tx u).length + 1)) ((tx sp)).length).length ≤ sizeLine := by
    have e1 := StrLaws.occ_length_le (tx u) (tx sp) 0 (tx u).length ((tx u).length + 1)
    rw [length_partsBetween]; omega
  cases h1 : (decide ((tx u).length < ((tx sp)).length) || decide (Builtin.Str.strKind (tx u) < Builtin.Str.strKind (tx sp)))
  · cases hf : (occurrences (tx u) (tx sp) 0 (tx u).length ((tx u).length + 1)).isEmpty
    · refine call_meets F.slot_str_split (typeIs_str _ _ _) F.entry_str_split (F.args_str_split_2 _ _) (meets_str_split_sep (tx u) (tx sp) t t' h1 hy hf (by omega) hn) ?_
      show wants (EP X pins σ Q) _ _ { s with toks := _, heap := s.heap.push { cls := .type "list", data := .seq (strsFrom s.toks (partsBetween (tx u) (occurrences (tx u) (tx sp) 0 (tx u).length ((tx u).length + 1)) ((tx sp)).length)).toArray } }
      rw [strsFrom_eq]
      exact fin (numbered s.toks _) _ ((numbered_texts _ _).trans ((if_neg (ne_true_of_eq_false h1)).trans (if_neg (ne_true_of_eq_false hf))).symm)
    · exact call_meets F.slot_str_split (typeIs_str _ _ _) F.entry_str_split (F.args_str_split_2 _ _) (meets_str_split_not_found (tx u) (tx sp) t t' h1 hy hf)
        (fin [(tx u, t)] s.toks ((if_neg (ne_true_of_eq_false h1)).trans (if_pos hf)).symm)
  · exact call_meets F.slot_str_split (typeIs_str _ _ _) F.entry_str_split (F.args_str_split_2 _ _) (meets_str_split_cannot_occur (tx u) (tx sp) t t' h1)
      (fin [(tx u, t)] s.toks (if_pos h1).symm)
theorem cln_parts {w : List Nat} (h : ∀ i, w[i]? = some 32 → w[i + 1]? ≠ some 47) : Cln [32, 47, 32] w := fun i hi e => by
  have e0 : (w.drop i ++ [32, 47, 32])[0]? = some 32 := by
    have := congrArg (fun l : List Nat => l[0]?) e
    simpa [List.getElem?_take] using this
  have e1 : (w.drop i ++ [32, 47, 32])[1]? = some 47 := by
    have := congrArg (fun l : List Nat => l[1]?) e
    simpa [List.getElem?_take] using this
  rw [List.getElem?_append_left (by rw [List.length_drop]; omega), List.getElem?_drop, Nat.add_zero] at e0
  by_cases c : i + 1 < w.length
  · rw [List.getElem?_append_left (by rw [List.length_drop]; omega), List.getElem?_drop] at e1
    exact h i e0 e1
  · have : (w.drop i).length = 1 := by rw [List.length_drop]; omega
    rw [List.getElem?_append_right (by omega), this] at e1
    simp at e1
theorem cln_ties {w : List Nat} (h : ∀ i, w[i]? = some 44 → w[i + 1]? ≠ some 32) : Cln [44, 32] w := fun i hi e => by
  have e0 : (w.drop i ++ [44, 32])[0]? = some 44 := by
    have := congrArg (fun l : List Nat => l[0]?) e
    simpa [List.getElem?_take] using this
  have e1 : (w.drop i ++ [44, 32])[1]? = some 32 := by
    have := congrArg (fun l : List Nat => l[1]?) e
    simpa [List.getElem?_take] using this
  rw [List.getElem?_append_left (by rw [List.length_drop]; omega), List.getElem?_drop, Nat.add_zero] at e0
  by_cases c : i + 1 < w.length
  · rw [List.getElem?_append_left (by rw [List.length_drop]; omega), List.getElem?_drop] at e1
    exact h i e0 e1
  · have : (w.drop i).length = 1 := by rw [List.length_drop]; omega
    rw [List.getElem?_append_right (by omega), this] at e1
    simp at e1
open PySem PySem.Spec PyProof.Rows
def YX (X : Cx) (fp : List Addr) (C : Addr) (s : Shared) (H : Hp) (E : XK) : Value → Shared → Prop := fun e s' =>
  ∃ (H1 : Hp) (s1 : Shared) (m : Str → Option Value), Un (frs X.stack) fp H H1 s.heap s1.heap ∧ s1.os = s.os ∧ s1.heap.Ns C m ∧ H1 C = none ∧ CX1 X.prog X.w X.stack H1 s1 E e s'
abbrev cxCompX (X : Cx) (Nc : List Str) (scope : Scope) (cl : List (Str × Addr)) (C : Addr) (fp : List Addr) (s : Shared) (H : Hp) (E : XK) : Cx := (cxComp X Nc scope cl C fp s H).wish (YX X fp C s H E)
theorem passC {X : Cx} {Nc : List Str} {scope : Scope} {cl : List (Str × Addr)} {C : Addr} {fp : List Addr} {s : Shared} {H : Hp} {E : XK} : Passes (CX1 X.prog X.w) (cxCompX X Nc scope cl C fp s H E) E := fun pins σ H1 s1 e s' I c => by
  obtain ⟨m, hn, _⟩ := I.loc
  exact ⟨H1, s1, m, I.base, I.os, hn, I.free, c⟩
def Aft (X : Cx) (E : XK) (C : Addr) (e : Value) (s' : Shared) : Prop :=
  (∃ m, s'.heap.Ns C m) ∧ ∀ h', Heap.SameBut C s'.heap h' → ∃ ea Cc t H' B, e = .ref ea ∧ Fx B X.stack ea Cc t (rawInt X.env.locals) h' ∧ s'.os = X.s₀.os ∧ AllBare s'.gens ∧ Bk X.prog X.w X.outer X.H₀ X.s₀.heap H' B h' ∧ E (.ref Cc) none H'
theorem noteFrame_frame {e : Value} {env env' : Env} (h : env.frame = env'.frame) : noteFrame e env = noteFrame e env' := by
  unfold noteFrame PySem.frameOf
  rw [h]
theorem funFrames_but {h h' base : Heap} : ∀ {l : List Env}, (∀ b ∈ frs l, h'.get? b = h.get? b) → h.FunFrames base l → h'.FunFrames base l
  | [], _, _ => trivial
  | env :: r, k, ⟨hk, ⟨L, o, hf, hn, ho, hd⟩, hr⟩ => by
    have m : ∀ b ∈ frs r, b ∈ frs (env :: r) := fun b hb => by unfold frs; rw [List.filterMap_cons, hf]; exact List.mem_cons_of_mem _ hb
    have mL : L ∈ frs (env :: r) := by unfold frs; rw [List.filterMap_cons, hf]; exact List.mem_cons_self
    exact ⟨hk, ⟨L, o, hf, hn, (k L mL).trans ho, hd⟩, funFrames_but (fun b hb => k b (m b hb)) hr⟩
section
variable {X : Cx} {pins : List (Addr × Obj)} {σ : St} {H : Hp} {s s' : Shared} {E : XK} {e : Value} {C : Addr} {fp : List Addr}
theorem errC {M : Model} {R : Shared → Prop} {E' : Value → Shared → Prop} {cenv : Env} (hB : Body X) (I : Inv X pins σ H s) (hfp : ∀ b ∈ fp, FpOk X pins H b) (hC : s.heap.objs.size ≤ C) (hf : cenv.frame = X.env.frame)
    (c : YX X fp C s H E e s') (k : ∀ s'', Aft X E C e s'' → R s'') : wpAny M X.A (noteFrame e cenv) (fun _ s'' => R s'') E' s' := by
  obtain ⟨H1, s1, m, un, os1, hns, nC, ea, Cc, t, H', B, rfl, fx, os, bare, bk, q⟩ := c
  have nx : ∀ b : Addr, b ∉ X.ex := fun b z => by rw [hB.ex] at z; exact nomatch z
  have fsS : ∀ b, b ∈ X.fs → b ∈ frs X.stack := fun b hb => by
    rw [hB.stack]; unfold frs; rw [List.filterMap_cons, hB.frame]; exact List.mem_cons_of_mem _ hb
  have stk : ∀ b, b ∈ frs X.stack → ∃ o, s.heap.get? b = some o := fun b hb => by
    obtain ⟨_, o, e, _⟩ := I.stack.mem hb
    exact ⟨o, e⟩
  have CS : C ∉ frs X.stack := fun z => by
    obtain ⟨o, e⟩ := stk C z
    exact absurd (Heap.lt_size e) (Nat.not_lt.mpr hC)
  have old : ∀ b o, s.heap.get? b = some o → b ≠ C := fun b o e z => absurd (Heap.lt_size e) (Nat.not_lt.mpr (z ▸ hC))
  have nfp : ∀ b o, X.s₀.heap.get? b = some o → b ∉ fp := fun b o e z => by
    rcases (hfp b z).2.2.2.1 with y | y
    · exact nx b y
    · exact absurd (Heap.lt_size e) (Nat.not_lt.mpr y)
  obtain ⟨oC, es, ep, hoC, dC, sk, nf⟩ := hns
  have hBC : B.get? C = some oC := bk.keep C oC hoC nC CS
  have hH'C : H' C = none := bk.free C oC hoC nC
  have B'C : (PySem.W.hideAll B [C]).get? C = none := PySem.W.hideAll_none _ List.mem_cons_self
  have getB : ∀ b o, B.get? b = some o → b ≠ C → (PySem.W.hideAll B [C]).get? b = some o := fun b o e z => PySem.W.hideAll_get _ e fun y => z (List.mem_singleton.mp y)
  have stays : (PySem.W.hideAll B [C]).StaysIn B := fun b o e => PySem.W.of_hideAll _ e
  have fx' : Fx (PySem.W.hideAll B [C]) X.stack ea Cc t .none s'.heap := by
    obtain ⟨st, ne, fr, T, oT, ts, hE, hBT, hTe, hT, hdT, h3⟩ := fx
    exact ⟨fun b o e => st b o (stays b o e), PySem.W.fresh_of_stays stays ne, PySem.W.funFrames_base stays fr, T, oT, ts, hE, PySem.W.fresh_of_stays stays hBT, hTe, hT, hdT, h3⟩
  have bkX : Bk X.prog X.w X.outer X.H₀ X.s₀.heap H' (PySem.W.hideAll B [C]) s'.heap := by
    refine ⟨fun b u e => ?_, fun b o e n hb => ?_, fun b o e hb => ?_, fun b o e n => ?_, fun b o e hb => ?_, fun b xs e => bk.tups b xs (un.tups b xs (I.base.tups b xs e)), fun b o u e => bk.frzs b o u (un.frzs b o u (I.base.frzs b o u e)), fun b ps e => ?_⟩
    · refine (bk.ok b u e).stay (fun c v hc z => getB c v z fun y => ?_) (fun _ z => z) fun _ _ z => z
      rcases hc with x | x
      · rw [← x, y, hH'C] at e; cases e
      · rw [y, hH'C] at x; cases x
    · have e1 := I.base.keep b o e n hb (nx b)
      have n1 := I.base.free b o e n (nx b)
      have bfr := I.frsN e hb
      exact getB b o (bk.keep b o (un.keep b o e1 n1 bfr (nfp b o e)) (un.free b o e1 n1 (nfp b o e)) bfr) (old b o e1)
    · obtain ⟨sl, e1⟩ := I.base.slot b o e (I.ok.frf b hb) hb (nx b)
      obtain ⟨sl2, e2⟩ := un.slot b _ e1 (I.stkFree b (fsS b hb)) (fsS b hb) (nfp b o e)
      obtain ⟨sl3, e3⟩ := bk.slot b _ e2 (fsS b hb)
      exact ⟨sl3, e3⟩
    · obtain ⟨o', e1⟩ := I.base.there b o e (nx b)
      obtain ⟨o2, e2⟩ := un.there b o' e1 (nfp b o e)
      exact bk.free b o2 e2 (un.free b o' e1 (I.base.free b o e n (nx b)) (nfp b o e))
    · obtain ⟨o', e1⟩ := I.base.there b o e (nx b)
      obtain ⟨o2, e2⟩ := un.there b o' e1 (nfp b o e)
      obtain ⟨o3, e3⟩ := bk.there b o2 e2 (I.frsN e hb)
      exact ⟨o3, getB b o3 e3 (old b o' e1)⟩
    · obtain ⟨m1, e1⟩ := I.base.tbls b ps e
      obtain ⟨m2, e2⟩ := un.tbls b _ e1
      obtain ⟨m3, e3⟩ := bk.tbls b _ e2
      exact ⟨m1 ++ m2 ++ m3, by rw [e3, Array.append_assoc, Array.append_assoc, Array.append_assoc]⟩
  rw [noteFrame_frame hf]
  refine noteX hB I.ok.frames (.came fx') fun h1 x1 u1 => k _ ?_
  obtain ⟨sl, hC1⟩ := u1 C oC (fx.st C oC hBC) (fun vs z => by rw [dC] at z; cases z)
  refine ⟨⟨m, _, es, ep, hC1, dC, sk, nf⟩, fun h' sb => ?_⟩
  have bk1 := bkX.slots (frs_sub hB fx'.fr) u1
  obtain ⟨st, ne, fr, T, oT, ts, hE, hBT, hTe, hT, hdT, h3⟩ := x1
  have TC : T ≠ C := fun z => by rw [z, hC1] at hT; cases hT; rw [dC] at hdT; cases hdT
  have EC : ea ≠ C := fun z => by rw [z, hC1] at hE; have := congrArg Obj.data (Option.some.inj hE); dsimp only at this; rw [dC] at this; cases this
  refine ⟨ea, Cc, t, H', _, rfl, ⟨fun b o e => (sb.2 b fun z => by rw [z, B'C] at e; cases e).trans (st b o e), ne, funFrames_but (fun b hb => sb.2 b fun z => CS (z ▸ hb)) fr, T, oT, ts, (sb.2 ea EC).trans hE, hBT, hTe, (sb.2 T TC).trans hT, hdT, h3⟩, os.trans (os1.trans I.os), bare,
    ⟨bk1.ok, bk1.keep, fun b o e hb => ?_, bk1.free, bk1.there, bk1.tups, bk1.frzs, bk1.tbls⟩, q⟩
  obtain ⟨sl2, e2⟩ := bk1.slot b o e hb
  exact ⟨sl2, (sb.2 b fun z => CS (z ▸ fsS b hb)).trans e2⟩
end
def compPostX (M : Model) (A : Around) (E : Value → Shared → Prop) (Q : Value → Shared → Prop) (acc : Value) (C : Addr) (f : Option Addr) (r : Result) (s' : Shared) : Prop :=
  match r with
  | .ok _ => ∃ m, s'.heap.Ns C m ∧ ∀ h', Heap.SameBut C s'.heap h' → Q acc { s' with heap := h' }
  | .error x => ∃ m, s'.heap.Ns C m ∧ ∀ h', Heap.SameBut C s'.heap h' → ∀ cenv : Env, cenv.locals = C → cenv.frame = f → wpAny M A (passOn "comprehension.variables-let-go" x cenv : Sem Value) (fun _ _ => False) E { s' with heap := h' }
section
variable {X : Cx} {pins : List (Addr × Obj)} {σ : St} {H : Hp} {s : Shared}
end
open PySem PySem.Spec PyProof.Rows
section
variable {X : Cx} {pins : List (Addr × Obj)} {σ : St} {H : Hp} {s : Shared}
theorem comp_blockX {x : Str} {px : Pos} {Nc : List Str} {caps : List Nat} {scope : Scope} {cl : List (Str × Addr)} {iter elt : Expr} {ifs : List Expr} {pos : Pos} {tc : TT} {te : TE} {Q : VK} {it : Addr} {fp : List Addr} {tn : Nat → Heap → Prop} {J : It}
    {RR : Value → Addr → Option Addr → Result → Shared → Prop} {E : Value → Shared → Prop} {E' : XK} (hB : Body X)
    (O : CompOk X x Nc caps scope) (hc : X.calm = true)
    (hcl : ∀ x c, cl.lookup x = some c → X.env.cells.lookup x = some c ∧ (x, NameKind.free) ∈ scope.names) (hcl2 : ∀ x, (x, NameKind.free) ∈ scope.names → cl.lookup x = X.env.cells.lookup x)
    (hte : ∀ C fp s H, PE (cxCompX X Nc scope cl C fp s H E') elt te) (htc : ∀ C fp s H, PIf (cxCompX X Nc scope cl C fp s H E') ifs tc)
    (I : Inv X pins σ H s) (T : Turn X.prog X.w X.K (.Name x px) J fp it tn) (st : tn 0 s.heap) (hfp : ∀ b ∈ fp, FpOk X pins H b) (h : tCompW caps tc te J σ H Q)
    (hRR : ∀ (D C : Addr) (s' : Shared) (m : Str → Option Value), s'.heap.Ns C m → (∀ h', Heap.SameBut C s'.heap h' → ∃ H', Inv X pins σ H' { s' with heap := h' } ∧ H' C = none ∧ Q (.ref D) H') →
      s.heap.objs.size ≤ C → RR (.ref D) C X.env.frame (.ok .next) s')
    (hRE : ∀ (D C : Addr) (e : Value) (s' : Shared), Aft X E' C e s' → RR (.ref D) C X.env.frame (.error e) s') :
    wpAny (model X.prog X.w) X.A (newList []) (fun acc s₃ => wpAny (model X.prog X.w) X.A (newFunctionEnv scope X.env.globals cl [] X.env.qual none .none (some X.env)) (fun cenv s₄ =>
      codeAny (model X.prog X.w) X.A (.compStart (.ListComp elt [⟨.Name x px, iter, ifs, 0⟩] scope pos) 0 (.ref it) acc { cenv with scope := relabel scope X.env }) (RR acc cenv.locals cenv.frame) s₄) E s₃) E s := by
  refine wpAny_newObj_type (wpAny_newFunctionEnv O.cell (by intro y hy; simp at hy) (fun h₁ hns₁ hsb₁ => ?_) O.kind)
  dsimp only at hns₁ hsb₁ ⊢
  generalize hH2 : s.heap.push { cls := .type "list", dict := none, data := .seq ([] : List Value).toArray } = H2 at hns₁ hsb₁ ⊢
  have hC : H2.objs.size = s.heap.objs.size + 1 := by rw [← hH2, Heap.size_push]
  have hCle : s.heap.objs.size ≤ H2.objs.size := by rw [hC]; exact Nat.le_succ _
  have hDC : s.heap.objs.size ≠ H2.objs.size := by rw [hC]; exact Nat.ne_of_lt (Nat.lt_succ_self _)
  have below : ∀ b, b < s.heap.objs.size → b ≠ H2.objs.size ∧ b ≠ s.heap.objs.size := fun b hb => ⟨by rw [hC]; exact Nat.ne_of_lt (Nat.lt_succ_of_lt hb), Nat.ne_of_lt hb⟩
  have old : ∀ b o, s.heap.get? b = some o → h₁.get? b = some o := fun b o e => hsb₁.extBut b o (below b (Heap.lt_size e)).1 (Heap.get?_push_of_some _ (hH2 ▸ Heap.get?_push_of_some _ e))
  have hacc : h₁.get? s.heap.objs.size = some (rawL [] 0) := hsb₁.extBut _ _ hDC (Heap.get?_push_of_some _ (hH2 ▸ Heap.get?_push_size _ rfl))
  have hfo : ∀ b ∈ fp, b < s.heap.objs.size := fun b hb => by
    obtain ⟨o, e, _⟩ := T.obj _ _ st b hb
    exact Heap.lt_size e
  have st1 : tn 0 h₁ := T.keep _ _ _ st fun b _ o e => old b o e
  generalize hDD : s.heap.objs.size = D at *
  generalize hCC : H2.objs.size = C at *
  have DleC : D ≤ C := hCle
  let Y : Cx := cxCompX X Nc scope cl C fp s H E'
  have I0 : Inv Y [] (none :: capV σ caps) H { s with heap := h₁, toks := s.toks + ([] : List (Str × Value)).length } := (comp_start I O hcl hcl2 (by rw [hDD]; exact hCle) hfp (fun b hb => by rw [hDD]; exact hfo b hb) old hns₁).wish _
  have Dfree : H D = none := by rw [← hDD]; exact I.hok.fresh (Nat.le_refl _)
  have DneC : D ≠ C := hDC
  have Dfs : D ∉ Y.fs := fun z => by
    have := I.stack.mem (show D ∈ frs X.stack from z)
    obtain ⟨_, o, e, _⟩ := this
    have := Heap.lt_size e
    rw [hDD] at this
    exact Nat.lt_irrefl _ this
  have Dcell : ∀ y c, Y.env.cells.lookup y = some c → c ≠ D := fun y c e z => by
    obtain ⟨v, q⟩ := I.cell y c (hcl y c e).1
    have := q.lt
    rw [z, hDD] at this
    exact Nat.lt_irrefl _ this
  have Dfp : ∀ b ∈ fp, b ≠ D := fun b hb => Nat.ne_of_lt (hfo b hb)
  have fpY : ∀ {H' : Hp}, (∀ b ∈ fp, H' b = none) → ∀ b ∈ fp, FpOk Y [] H' b := fun hn b hb =>
    ⟨hn b hb, Nat.ne_of_lt (Nat.lt_of_lt_of_le (hfo b hb) DleC), fun z => I0.ok.exfs b hb z, .inl hb, fun y c e => (I0.ok.exf b hb).2 y c e, fun p hp => absurd (show p ∈ ([] : List (Addr × Obj)) from hp) (by simp)⟩
  obtain ⟨W, ⟨m0, w0⟩, turn⟩ := h
  have loop : ∀ s₃ : Shared, s₃ = { s with heap := h₁, toks := s.toks + ([] : List (Str × Value)).length } →
      codeAny (model X.prog X.w) X.A (.compLoop (.ListComp elt [⟨.Name x px, iter, ifs, 0⟩] scope pos) 0 (.ref it) (.ref D) (compEnvC scope cl C X.env)) (RR (.ref D) C X.env.frame) s₃ := by
    rintro s₃ rfl
    have err : ∀ e s', YX X fp C s H E' e s' → notedBy (model X.prog X.w) X.A (compEnvC scope cl C X.env) (fun e s'' => RR (.ref D) C X.env.frame (.error e) s'') e s' := fun e s' c =>
      errC hB I hfp (by rw [hDD]; exact hCle) rfl c fun s'' q => hRE D C e s'' q
    refine compLoop_any (fun n s' => ∃ (i : Nat) (o : Option V) (H' : Hp) (ys : List V) (us : List Value) (k : Nat), Inv Y [] (o :: capV σ caps) H' s' ∧ tn i s'.heap ∧ (∀ b ∈ fp, H' b = none) ∧ s'.heap.get? D = some (rawL us k) ∧ H' D = none ∧ Vals ys us ∧ W i n ys H')
      ?_ m0 ⟨0, none, H, [], [], 0, I0, st1, fun b hb => (hfp b hb).1, hacc, Dfree, .nil, w0⟩
    rintro n s3 ⟨i, o3, H3, ys, us, k, I3, st3, fr3, hD3, nD3, rv, w3⟩
    have fpP : ∀ {H' : Hp} {ob : Obj}, (∀ b ∈ fp, H' b = none) → ∀ b ∈ fp, FpOk Y [(D, ob)] H' b := fun hn b hb => by
      obtain ⟨g0, g1, g2, g3, g4, _⟩ := fpY hn b hb
      refine ⟨g0, g1, g2, g3, g4, fun p hp => ?_⟩
      have e : p = (D, _) := List.mem_singleton.mp (show p ∈ [(D, _)] from hp)
      rw [e]
      exact Ne.symm (Dfp b hb)
    have IP : Inv Y [(D, rawL us k)] (o3 :: capV σ caps) H3 s3 := I3.pins_of fun p hp => by
      have e : p = (D, rawL us k) := List.mem_singleton.mp hp
      subst e
      exact ⟨hD3, nD3, DneC, Dfs, fun v z => by cases z⟩
    have pinD : ∀ {σ' : St} {H' : Hp} {s' : Shared} {pl : List (Addr × Obj)}, Inv Y ([(D, rawL us k)] ++ pl) σ' H' s' → s'.heap.get? D = some (rawL us k) ∧ H' D = none := fun I' => by
      have z := I'.pin (D, rawL us k) (List.mem_append_right _ (List.mem_append_left _ List.mem_cons_self))
      exact ⟨z.1, z.2.1⟩
    rcases turn i n ys H3 w3 with ⟨stop, hlen, fin⟩ | ⟨go, hlen, step⟩
    ·
      refine wpAny_mono (T.done Y rfl rfl rfl hc i _ s3 _ H3 (fun _ _ => False) IP (fpP fr3) st3 stop) (fun r s4 hr => ?_) fun _ _ z => z.elim
      obtain ⟨hr, I4⟩ := hr
      subst hr
      obtain ⟨gD, nD⟩ := pinD (pl := []) (by simpa using I4)
      obtain ⟨m, hn, _⟩ := I4.loc
      refine hRR D C s4 m hn (fun h' hs' => ⟨upd H3 D (.lst ys), ?_, (upd_ne (Ne.symm DneC)).trans I4.free, fin D nD⟩) hCle
      have nt : ∀ b ob, H3 b = some ob → b ≠ C := fun b ob e z => by
        have := I4.free
        rw [z] at e
        rw [show H3 C = none from this] at e
        cases e
      have u1 : Un (frs X.stack) fp H H3 s.heap h' := Un.but I4.base hs' (show s.heap.objs.size ≤ C by rw [hDD]; exact hCle)
      have ok1 : HOk X.prog X.w H3 h' := fun b ob e => (I4.hok b ob e).stay (fun c v hc q => (hs'.2 c (by
        rcases hc with z | z
        · rw [z]; exact nt b ob e
        · exact nt c _ z)).trans q) (fun _ q => q) fun _ _ q => q
      have gD' : h'.get? D = some (rawL us k) := (hs'.2 D DneC).trans gD
      exact I.call' (s' := { s4 with heap := h' }) (ch := fp) I4.os (u1.track (Nat.le_of_eq hDD) nD) (ok1.track nD ⟨hlen, us, k, rv, gD'⟩) I4.bare fun b hb => by
        obtain ⟨_, g1, _, g3, g4, g5⟩ := hfp b hb
        exact ⟨g3, g1, g4, g5⟩
    ·
      refine wpAny_mono (T.item Y rfl rfl rfl hc i _ s3 _ H3 (fun _ _ => False) IP (fpP fr3) st3 go) (fun r s4 hr => ?_) fun _ _ z => z.elim
      obtain ⟨u0, hr, h4⟩ := hr
      subst hr
      refine wpAny_mono h4 (fun _ s5 h5 => ?_) fun _ _ z => z.elim
      obtain ⟨x5, H5, I5, r5, y5, st5, fr5⟩ := h5
      have I5' := I5.pinned (fpP fr5) (T.obj _ _ st5)
      have tgt : PG Y (.Name x px) (gName 0) := pg_name (i := 0) O.nd O.hd (.inl (lookup_relabel I.ok.kind O.loc (by intro z; cases z))) (.inr (lookup_relabel I.ok.kind O.loc (by intro z; cases z)))
      refine wpAny_mono (tgt _ s5 _ H5 x5 u0 (fun σ2 H2 => σ2 = some x5 :: capV σ caps ∧ H2 = H5) I5' r5 ⟨rfl, rfl⟩) (fun _ s6 h6 => ?_) err
      obtain ⟨_, _, I6, rfl, rfl⟩ := h6
      refine wpAny_mono ((htc C fp s H).run I6 (step x5 _ y5)) (fun b s7 h7 => ?_) err
      obtain ⟨H7, I7, q7⟩ := h7
      have keepT : ∀ {σ' : St} {H' : Hp} {s' : Shared}, Inv Y ([(D, rawL us k)] ++ pinsAt fp s5.heap) σ' H' s' → tn (i + 1) s'.heap ∧ ∀ b ∈ fp, H' b = none := fun I' =>
        ⟨T.keep _ _ _ st5 fun b hb o e => (I'.pin (b, o) (List.mem_append_right _ (List.mem_append_right _ (mem_pinsAt hb e)))).1, fun b hb => by
          obtain ⟨o, e, d⟩ := T.obj _ _ st5 b hb
          exact (I'.pin (b, o) (List.mem_append_right _ (List.mem_append_right _ (mem_pinsAt hb e)))).2.1⟩
      cases b with
      | false =>
        rw [if_neg Bool.false_ne_true] at q7
        rw [if_neg Bool.false_ne_true]
        obtain ⟨m', hm, w7⟩ := q7
        obtain ⟨gD, nD⟩ := pinD I7
        obtain ⟨k1, k2⟩ := keepT I7
        exact ⟨m', hm, i + 1, some x5, H7, ys, us, k, I7.pins_of (fun p hp => nomatch hp), k1, k2, gD, nD, rv, w7⟩
      | true =>
        rw [if_pos rfl] at q7
        rw [if_pos rfl]
        refine wpAny_mono (hte C fp s H _ s7 _ H7 _ I7 q7) (fun u8 s8 h8 => ?_) err
        obtain ⟨y8, H8, I8, r8, m', hm, w8⟩ := h8
        obtain ⟨gD, nD⟩ := pinD I8
        obtain ⟨k1, k2⟩ := keepT I8
        refine call_meets F.slot_list_append ⟨_, gD, rfl⟩ F.entry_list_append (F.args_list_append_2 _ _) (PySem.list_append D us.toArray k u8 (by rw [List.size_toArray, ← rv.length]; omega)) ⟨gD, ?_⟩
        have q := PySem.IsL.update gD (·.push u8)
        have e1 : us.toArray.push u8 = (us ++ [u8]).toArray := by simp
        rw [e1] at q
        have I8' : Inv Y [] (some x5 :: capV σ caps) H8 s8 := I8.pins_of (fun p hp => nomatch hp)
        have I9 : Inv Y [] (some x5 :: capV σ caps) H8 { s8 with heap := s8.heap.update D (Obj.mapSeq (·.push u8)), toks := s8.toks } :=
          I8'.turned (it := D) (fun b o hb e => (Heap.get?_update_other s8.heap (Obj.mapSeq (·.push u8)) (Ne.symm hb)).trans e) nD DneC (.inr (Nat.le_of_eq hDD)) Dcell (fun p hp => nomatch hp)
        refine ⟨m', hm, i + 1, some x5, H8, ys ++ [y8], us ++ [u8], _, I9, T.keep _ _ _ k1 fun b hb o e => (Heap.get?_update_other s8.heap (Obj.mapSeq (·.push u8)) (Ne.symm (Dfp b hb))).trans e, k2, q, nD, rv.append (.cons r8 .nil), w8⟩
  exact codeAny_compStart_list (loop _ rfl) (T.self X.A 0 _ _ _ st1 (loop _ rfl))
end
def compPostU (M : Model) (A : Around) (E : Value → Shared → Prop) (u : Value → Sem Unit) (Q : Value → Shared → Prop) (acc : Value) (C : Addr) (f : Option Addr) (r : Result) (s' : Shared) : Prop :=
  match r with
  | .ok _ => wpAny M A (u acc) (fun _ s'' => ∃ m, s''.heap.Ns C m ∧ ∀ h', Heap.SameBut C s''.heap h' → Q .none { s'' with heap := h' }) E s'
  | .error x => ∃ m, s'.heap.Ns C m ∧ ∀ h', Heap.SameBut C s'.heap h' → ∀ cenv : Env, cenv.locals = C → cenv.frame = f → wpAny M A (passOn "comprehension.variables-let-go" x cenv : Sem Value) (fun _ _ => False) E { s' with heap := h' }
theorem comp_freeU {M : Model} {A : Around} {E : Value → Shared → Prop} {s : Shared} {env : Env} {e : Expr} {scope : Scope} {pos : Pos} {newAcc first : Sem Value} {g : Comprehension} {gs : List Comprehension} {cl : List (Str × Addr)} {u : Value → Sem Unit} {Q : Value → Shared → Prop}
    (hcl : clausesOf e = g :: gs) (hs : ∀ x, foldedSetIterable g.iter env x = pure x) (hclos : closureFor scope env = pure cl)
    (hkind : scope.kind = .function) (hnames : ∀ x ∈ scope.names, x.2 = .local → scope.names.lookup x.1 = some .local)
    (h : wpAny M A first (fun x s₁ => wpAny M A (pyIter x) (fun it s₂ => wpAny M A newAcc (fun acc s₃ =>
      wpAny M A (newFunctionEnv scope env.globals cl [] env.qual none .none (some env)) (fun cenv s₄ =>
        codeAny M A (.compStart e 0 it acc { cenv with scope := relabel scope env }) (compPostU M A E u Q acc cenv.locals cenv.frame) s₄) E s₃) E s₂) E s₁) E s) :
    wpAny M A (comprehension e scope env pos newAcc false first (some u)) Q E s := by
  unfold comprehension
  rw [hclos, hcl]
  refine wpAny_bind (wpAny_mono h (fun x s₁ h₁ => wpAny_bind (wpAny_standAt (wpAny_bind (wpAny_of_eq (hs x) (wpAny_bind (wpAny_holding (wpAny_mono h₁ (fun it s₂ h₂ =>
    wpAny_standIf (wpAny_bind (wpAny_mono h₂ (fun acc s₃ h₃ => wpAny_bind (wpAny_pure (wpAny_bind (wpAny_mono h₃ (fun cenv s₄ h₄ => ?_) fun _ _ h' => h')))) fun _ _ h' => h')))
      fun _ _ h' => h'))))))) fun _ _ h' => h')
  dsimp only
  have hv : ∀ x ∈ (scope.names.filter fun x => (x.2 == .local || x.2 == .cell) && x.1 != (".0" : Str)).reverse, x.2 = .local →
      Env.kindOf { cenv with scope := relabel scope env } x.1 = some .local := fun x hx hl => lookup_relabel_local (hnames x (List.mem_filter.mp (List.mem_reverse.mp hx)).1 hl)
  have hv' : ∀ x ∈ (scope.names.filter fun x => (x.2 == .local || x.2 == .cell) && x.1 != (".0" : Str)).reverse.drop 1 ++ (scope.names.filter fun x => (x.2 == .local || x.2 == .cell) && x.1 != (".0" : Str)).reverse.take 1,
      x.2 = .local → Env.kindOf { cenv with scope := relabel scope env } x.1 = some .local := fun x hx hl => (List.mem_append.mp hx).elim (fun h1 => hv x (List.mem_of_mem_drop h1) hl) (fun h1 => hv x (List.mem_of_mem_take h1) hl)
  refine wpAny_holding (wpAny_bind (wpAny_attempt (wpAny_holding (wpAny_run (codeAny_mono h₄ fun r s' hr => ?_)))))
  cases r with
  | ok f =>
    refine wpAny_bind (wpAny_rule (wpAny_bind (wpAny_holding (wpAny_mono hr (fun _ s'' hr' => ?_) fun _ _ h' => h'))))
    obtain ⟨m, hn, hr'⟩ := hr'
    exact wpAny_bind (wpAny_comp_letGo (cenv := { cenv with scope := relabel scope env }) hkind _ s'' m hv' hn fun h' m' _ hs' => wpAny_pure (hr' h' hs'))
  | error x =>
    obtain ⟨m, hn, hr⟩ := hr
    exact wpAny_bind (wpAny_holding (wpAny_comp_letGo (cenv := { cenv with scope := relabel scope env }) hkind _ s' m hv hn fun h' m' _ hs' => wpAny_mono (hr h' hs' _ rfl rfl) (fun _ _ f => f.elim) fun _ _ y => y))
section
variable {X : Cx} {pins : List (Addr × Obj)} {σ : St} {H : Hp} {s : Shared}
theorem ps_setCX {E' : XK} {i : Nat} {y x : Str} {px py pos spos : Pos} {Nc : List Str} {caps : List Nat} {scope : Scope} {iter elt : Expr} {ifs : List Expr} {wi : TI} {tc : TT} {te : TE} (hB : Body X) (hw : ∀ e s', FlX X E' e s' → X.xe e s') (O : CompOk X x Nc caps scope) (hc : X.calm = true)
    (hN : X.N.Nodup) (hy : X.N[i]? = some y) (hx : X.env.scope.names.lookup y = some .local) (hi : PI X (.Name x px) iter wi)
    (htc : ∀ cl C fp s H, PIf (cxCompX X Nc scope cl C fp s H E') ifs tc) (hte : ∀ cl C fp s H, PE (cxCompX X Nc scope cl C fp s H E') elt te)
    (hsw : swapsWith (.ListComp elt [⟨.Name x px, iter, ifs, 0⟩] scope pos) (some (.Name y py)) spos.line X.env = pure true) (hs : ∀ x, foldedSetIterable iter X.env x = pure x := by intro _; rfl) :
    PS X (.Assign [.Name y py] (.ListComp elt [⟨.Name x px, iter, ifs, 0⟩] scope pos) spos) (tAsg (tComp wi caps tc te) (gName i)) := by
  intro pins s σ H Dn I h
  rw [exec_Assign_Name_used _ _ _ _ hsw]
  refine wpAny_bind (wpAny_standAt (wpAny_bind ?_))
  obtain ⟨cl, e1, e2, e3⟩ := closure_is (scope := scope) (env := X.env) fun y hy hf => I.ok.has y.1 (.inl (O.fr y hy hf).1)
  show wpAny _ X.A (do let _ ← comprehension (.ListComp elt [⟨.Name x px, iter, ifs, 0⟩] scope pos) scope X.env _ (newList []) false (eval iter X.env) (some (assign (.Name y py) X.env))) _ _ s
  refine wpAny_bind (wpAny_mono (comp_freeU (u := assign (.Name y py) X.env) (Q := fun _ s' => SP X pins Dn .next s') rfl hs e1 O.kind O.names
    (thn (hi pins s σ H _ I h) fun v s1 h1 => thn h1 fun itv s2 h2 => ?_)) (fun _ s' hq => wpAny_pure (wpAny_pure hq)) fun _ _ e => e)
  obtain ⟨it, fp, tn, J, H2, e, I2, T, st2, f2, w2⟩ := h2
  subst e
  refine comp_blockX (RR := fun acc C f => compPostU (model X.prog X.w) X.A X.xe (assign (.Name y py) X.env) (fun _ s' => SP X pins Dn .next s') acc C f) hB O hc e2 e3 (hte cl) (htc cl) I2 T st2 f2 w2 ?_ ?_
  · intro D C s' m hn hq hC
    show wpAny _ X.A (assign (.Name y py) X.env (.ref D)) _ _ _
    obtain ⟨H', I', nC, q⟩ := hq s'.heap (.refl ..)
    have I'' : Inv X pins σ H' s' := I'
    have CL : C ≠ X.env.locals := Nat.ne_of_gt (Nat.lt_of_lt_of_le I2.lt hC)
    have Ccell : ∀ y c, X.env.cells.lookup y = some c → c ≠ C := fun y c e z => by
      obtain ⟨v, q⟩ := I2.cell y c e
      have := Nat.lt_of_lt_of_le q.lt hC
      rw [z] at this
      exact Nat.lt_irrefl _ this
    refine wpAny_assign_Name (store_ok2 I'' hN hy (.inl hx) (show RelV (.ref D) (.ref D) from rfl) (fun s3 I3 hsb => ?_) (.inr hx))
    obtain ⟨a, hsb, ha⟩ := hsb
    have aC : C ≠ a := by
      rcases ha with z | z
      · rw [z]; exact CL
      · exact Ne.symm (Ccell _ _ z)
    refine ⟨m, hn.sameBut hsb aC, fun h4 hs4 => ?_⟩
    refine ⟨_, H', I3.turned (it := C) (t' := s3.toks) (fun b o hb e => (hs4.2 b hb).trans e) nC CL (.inr (Nat.le_trans I2.sz hC)) Ccell (fun p hp z => ?_), q⟩
    · have := Nat.lt_of_lt_of_le (Heap.lt_size (I2.pin p hp).1) hC
      rw [z] at this
      exact Nat.lt_irrefl _ this
  · intro D C e s' ⟨⟨m, hn⟩, hq⟩
    refine ⟨m, hn, fun h' hs' cenv _ hf => ?_⟩
    obtain ⟨ea, Cc, t, H', B, rfl, fx, os, bare, bk, q⟩ := hq h' hs'
    unfold PySem.passOn
    obtain ⟨T', oT, ts, hE, _⟩ := fx.ob
    refine wpAny_bind (wpAny_field (s := { s' with heap := h' }) hE rfl (x := .ref T') rfl ?_)
    rw [if_neg (by simp)]
    refine wpAny_bind (fx_flight (s := { s' with heap := h' }) (f := cenv.frame) fx fun h2 x2 u2 => ?_)
    rw [hf, hB.frame] at x2
    refine wpAny_throw (hw _ _ ⟨ea, Cc, t, H', B, rfl, .seen x2, os, bare, bk.slots (frs_sub hB fx.fr) u2, q⟩)
end
open PySem PySem.Spec PyProof.Rows
section
variable {X : Cx}
end
open PySem PySem.Spec PyProof.Rows
structure Isa (K : PySem.W.Frag) (C : Addr) : Prop where
  ha : PySem.W.findIn K (.ref C) "__class__" = some (some (.builtin "object.__class__"))
  hn : PySem.W.specialIn K (.builtin "object.__class__") "__get__" = some (some (.builtin "getset_descriptor.__get__"))
  htk : PySem.W.takesIn K (.builtin "object.__class__") = some true
  hm : PySem.W.mroIn K C (.type "object") = some true
theorem Isa.ty {K : PySem.W.Frag} {C a dx : Addr} {fs : List (Str × V)} {H : Hp} (h : Isa K C) (cl : Cls K C) (e : H a = some (.ins C dx fs)) : TyOf K H (.ref a) (.ref C) := .ins e cl h.ha h.hn h.htk h.hm
end L2
namespace Mine
open L2
def Sg (c : Nat) : Prop := c = 35 ∨ c = 46
structure Cl (cl : List (List Nat)) (m n : Nat) : Prop where
  hn : cl.length = n
  hm : ∀ t ∈ cl, t.length = m
  sg : ∀ t ∈ cl, ∀ c ∈ t, Sg c
  m1 : 1 ≤ m
  m40 : m ≤ 40
  n1 : 1 ≤ n
  n40 : n ≤ 40
def flip (c : Nat) : Nat := if c = 35 then 46 else 35
def back (cl : List (List Nat)) : List (List Nat) := cl.map fun t => t.reverse.map flip
def col (cl : List (List Nat)) (e : Nat) : List Nat := cl.map fun t => t.getD e 0
def quart (cl : List (List Nat)) (m : Nat) : List (List Nat) := (List.range m).map fun e => (col cl e).map flip
def sgn (cl : List (List Nat)) (m n : Nat) (x y : Int) : Nat := (cl.getD (y % (n : Int)).toNat []).getD (x % (m : Int)).toNat 0
def Rs (ks : List Int) : Prop := (∀ (i : Nat) (a b : Int), ks[i]? = some a → ks[i + 1]? = some b → a < b) ∧ ∀ k ∈ ks, 0 ≤ k ∧ k < 40
theorem rs_nil : Rs [] := ⟨fun i a b h => by simp at h, fun k h => by cases h⟩
theorem rs_add {ks : List Int} {z : Int} (h : Rs ks) (hz : ∀ k ∈ ks, k < z) (h0 : 0 ≤ z) (h1 : z < 40) : Rs (ks ++ [z]) := by
  refine ⟨fun i a b ha hb => ?_, fun k hk => ?_⟩
  · by_cases hi : i + 1 < ks.length
    · rw [List.getElem?_append_left (by omega)] at ha
      rw [List.getElem?_append_left hi] at hb
      exact h.1 i a b ha hb
    · by_cases hi2 : i < ks.length
      · rw [List.getElem?_append_left hi2] at ha
        rw [List.getElem?_append_right (by omega)] at hb
        have e : i + 1 - ks.length = 0 := by omega
        rw [e] at hb
        have : b = z := by simpa using hb.symm
        rw [this]
        exact hz a (List.mem_of_getElem? ha)
      · rw [List.getElem?_append_right (by omega)] at hb
        have : ([z] : List Int)[i + 1 - ks.length]? = none := by
          apply List.getElem?_eq_none
          simp
          omega
        rw [this] at hb
        cases hb
  · rcases List.mem_append.mp hk with h2 | h2
    · exact h.2 k h2
    · rw [List.mem_singleton.mp h2]; exact ⟨h0, h1⟩
structure Ft (th : List Int) (tss : List (List Int)) (tr : List Int) : Prop where
  m1 : 1 ≤ th.length
  m40 : th.length ≤ 40
  t1 : 1 ≤ tss.length
  t40 : tss.length ≤ 40
  n1 : 1 ≤ tr.length
  n40 : tr.length ≤ 40
  hth : ∀ v ∈ th, 0 ≤ v ∧ v < 40
  hti : ∀ ks ∈ tss, Rs ks
  htr : ∀ v ∈ tr, 0 ≤ v ∧ v < tss.length
def shd (th ks : List Int) : List Nat := th.map fun s => if s ∈ ks then 35 else 46
def wv (th : List Int) (tss : List (List Int)) (tr : List Int) : List (List Nat) := tr.map fun v => shd th (tss.getD v.toNat [])
end Mine
set_option maxHeartbeats 4000000
namespace Mine
open PySem L2
def top (i : Nat) : Stmt := PySem.Challenge.pw_heddle_k70_drafts_read.main.body.getD i (.Pass ⟨0, 0, 0, 0⟩)
abbrev s_check_setting : Stmt := top 9
theorem sc_check_setting : FnScope ["threading", "ties", "shaft", "tie"] ["threading", "ties"] (defScope s_check_setting) := ⟨rfl, rfl, rfl, by decide +kernel, rfl, by decide +kernel, by decide +kernel⟩
abbrev s_check_count : Stmt := top 10
theorem sc_check_count : FnScope ["count"] ["count"] (defScope s_check_count) := ⟨rfl, rfl, rfl, by decide +kernel, rfl, by decide +kernel, by decide +kernel⟩
abbrev s_check_shaft : Stmt := top 11
theorem sc_check_shaft : FnScope ["shaft"] ["shaft"] (defScope s_check_shaft) := ⟨rfl, rfl, rfl, by decide +kernel, rfl, by decide +kernel, by decide +kernel⟩
abbrev s_check_tie : Stmt := top 12
theorem sc_check_tie : FnScope ["tie", "k"] ["tie"] (defScope s_check_tie) := ⟨rfl, rfl, rfl, by decide +kernel, rfl, by decide +kernel, by decide +kernel⟩
abbrev s_check_treading : Stmt := top 13
theorem sc_check_treading : FnScope ["treading", "treadles", "treadle"] ["treading", "treadles"] (defScope s_check_treading) := ⟨rfl, rfl, rfl, by decide +kernel, rfl, by decide +kernel, by decide +kernel⟩
abbrev s_number_of : Stmt := top 17
theorem sc_number_of : FnScope ["figures"] ["figures"] (defScope s_number_of) := ⟨rfl, rfl, rfl, by decide +kernel, rfl, by decide +kernel, by decide +kernel⟩
abbrev s_unfolded : Stmt := top 23
theorem sc_unfolded : FnScope ["text", "row_items"] ["text"] (defScope s_unfolded) := ⟨rfl, rfl, rfl, by decide +kernel, rfl, by decide +kernel, by decide +kernel⟩
abbrev s_whole_size : Stmt := top 24
theorem sc_whole_size : FnScope ["row_items"] ["row_items"] (defScope s_whole_size) := ⟨rfl, rfl, rfl, by decide +kernel, rfl, by decide +kernel, by decide +kernel⟩
abbrev s_all_numbers : Stmt := top 25
theorem sc_all_numbers : FnScope ["row_items", "written", "item"] ["row_items"] (defScope s_all_numbers) := ⟨rfl, rfl, rfl, by decide +kernel, rfl, by decide +kernel, by decide +kernel⟩
abbrev s_steps_between : Stmt := top 26
theorem sc_steps_between : FnScope ["start", "stop"] ["start", "stop"] (defScope s_steps_between) := ⟨rfl, rfl, rfl, by decide +kernel, rfl, by decide +kernel, by decide +kernel⟩
abbrev s_read_row : Stmt := top 27
theorem sc_read_row : FnScope ["text", "reader", "row_items"] ["text"] (defScope s_read_row) := ⟨rfl, rfl, rfl, by decide +kernel, rfl, by decide +kernel, by decide +kernel⟩
abbrev s_read_items : Stmt := top 28
theorem sc_read_items : FnScope ["reader", "depth", "row_items"] ["reader", "depth"] (defScope s_read_items) := ⟨rfl, rfl, rfl, by decide +kernel, rfl, by decide +kernel, by decide +kernel⟩
abbrev s_read_item : Stmt := top 29
theorem sc_read_item : FnScope ["reader", "depth", "first"] ["reader", "depth"] (defScope s_read_item) := ⟨rfl, rfl, rfl, by decide +kernel, rfl, by decide +kernel, by decide +kernel⟩
abbrev s_read_times : Stmt := top 30
theorem sc_read_times : FnScope ["reader", "count", "depth", "inner"] ["reader", "count", "depth"] (defScope s_read_times) := ⟨rfl, rfl, rfl, by decide +kernel, rfl, by decide +kernel, by decide +kernel⟩
abbrev s_read_path : Stmt := top 31
theorem sc_read_path : FnScope ["reader", "first", "stops"] ["reader", "first"] (defScope s_read_path) := ⟨rfl, rfl, rfl, by decide +kernel, rfl, by decide +kernel, by decide +kernel⟩
abbrev s_read_number : Stmt := top 32
theorem sc_read_number : FnScope ["reader", "number"] ["reader"] (defScope s_read_number) := ⟨rfl, rfl, rfl, by decide +kernel, rfl, by decide +kernel, by decide +kernel⟩
abbrev s_read_draft : Stmt := top 36
theorem sc_read_draft : FnScope ["text", "parts", "threading", "ties"] ["text"] (defScope s_read_draft) := ⟨rfl, rfl, rfl, by decide +kernel, rfl, by decide +kernel, by decide +kernel⟩
abbrev s_law_numbers : Stmt := top 38
theorem sc_law_numbers : FnScope ["script", "many", "mixed", "found", "k"] ["script", "many"] (defScope s_law_numbers) := ⟨rfl, rfl, rfl, by decide +kernel, rfl, by decide +kernel, by decide +kernel⟩
abbrev s_law_subset : Stmt := top 39
theorem sc_law_subset : FnScope ["number", "found", "shaft"] ["number"] (defScope s_law_subset) := ⟨rfl, rfl, rfl, by decide +kernel, rfl, by decide +kernel, by decide +kernel⟩
abbrev s_law_numbers_same : Stmt := top 40
theorem sc_law_numbers_same : FnScope ["found", "due", "k"] ["found", "due"] (defScope s_law_numbers_same) := ⟨rfl, rfl, rfl, by decide +kernel, rfl, by decide +kernel, by decide +kernel⟩
abbrev s_law_draft_same : Stmt := top 41
theorem sc_law_draft_same : FnScope ["draft", "threading", "ties", "treading", "k"] ["draft", "threading", "ties", "treading"] (defScope s_law_draft_same) := ⟨rfl, rfl, rfl, by decide +kernel, rfl, by decide +kernel, by decide +kernel⟩
abbrev s_law_written : Stmt := top 42
theorem sc_law_written : FnScope ["row"] ["row"] (defScope s_law_written) := ⟨rfl, rfl, rfl, by decide +kernel, rfl, by decide +kernel, by decide +kernel⟩
abbrev s_law_exchanged : Stmt := top 43
theorem sc_law_exchanged : FnScope ["row", "number", "text", "way", "rest", "some", "at", "far", "times"] ["row", "number"] (defScope s_law_exchanged) := ⟨rfl, rfl, rfl, by decide +kernel, rfl, by decide +kernel, by decide +kernel⟩
abbrev s_law_rows_by : Stmt := top 44
theorem sc_law_rows_by : FnScope ["numbers", "ends", "treadles", "picks", "most", "found", "number"] ["numbers"] (defScope s_law_rows_by) := ⟨rfl, rfl, rfl, by decide +kernel, rfl, by decide +kernel, by decide +kernel⟩
abbrev s_law_fits : Stmt := top 45
theorem sc_law_fits : FnScope ["threading", "ties", "treading", "part", "shaft", "tie", "k", "treadle"] ["threading", "ties", "treading"] (defScope s_law_fits) := ⟨rfl, rfl, rfl, by decide +kernel, rfl, by decide +kernel, by decide +kernel⟩
abbrev s_law_due : Stmt := top 46
theorem sc_law_due : FnScope ["rows", "row"] ["rows"] (defScope s_law_due) := ⟨rfl, rfl, rfl, by decide +kernel, rfl, by decide +kernel, by decide +kernel⟩
abbrev s_law_caught : Stmt := top 47
theorem sc_law_caught : FnScope ["text", "caught", "draft", "e"] ["text"] (defScope s_law_caught) := ⟨rfl, rfl, rfl, by decide +kernel, rfl, by decide +kernel, by decide +kernel⟩
abbrev s_law_refused : Stmt := top 48
theorem sc_law_refused : FnScope ["caught", "word", "kinds"] ["caught", "word"] (defScope s_law_refused) := ⟨rfl, rfl, rfl, by decide +kernel, rfl, by decide +kernel, by decide +kernel⟩
abbrev s_law : Stmt := top 49
theorem sc_law : FnScope ["script", "numbers", "rows", "k", "at", "parts", "due", "way", "text", "told"] ["script"] (defScope s_law) := ⟨rfl, rfl, rfl, by decide +kernel, rfl, by decide +kernel, by decide +kernel⟩
abbrev s_WeaveError_called : Stmt := (clsBody (top 1)).getD 0 (.Pass ⟨0, 0, 0, 0⟩)
abbrev s_NoRow_called : Stmt := (clsBody (top 2)).getD 0 (.Pass ⟨0, 0, 0, 0⟩)
theorem sc_NoRow_called : FnScope ["self"] ["self"] (defScope s_NoRow_called) := ⟨rfl, rfl, rfl, by decide +kernel, rfl, by decide +kernel, by decide +kernel⟩
abbrev s_TooLarge_called : Stmt := (clsBody (top 3)).getD 0 (.Pass ⟨0, 0, 0, 0⟩)
theorem sc_TooLarge_called : FnScope ["self"] ["self"] (defScope s_TooLarge_called) := ⟨rfl, rfl, rfl, by decide +kernel, rfl, by decide +kernel, by decide +kernel⟩
abbrev s_NoDraft_called : Stmt := (clsBody (top 4)).getD 0 (.Pass ⟨0, 0, 0, 0⟩)
theorem sc_NoDraft_called : FnScope ["self"] ["self"] (defScope s_NoDraft_called) := ⟨rfl, rfl, rfl, by decide +kernel, rfl, by decide +kernel, by decide +kernel⟩
abbrev s_Draft___init__ : Stmt := (clsBody (top 8)).getD 0 (.Pass ⟨0, 0, 0, 0⟩)
theorem sc_Draft___init__ : FnScope ["self", "threading", "ties", "treading"] ["self", "threading", "ties", "treading"] (defScope s_Draft___init__) := ⟨rfl, rfl, rfl, by decide +kernel, rfl, by decide +kernel, by decide +kernel⟩
abbrev s_Reader___init__ : Stmt := (clsBody (top 16)).getD 0 (.Pass ⟨0, 0, 0, 0⟩)
theorem sc_Reader___init__ : FnScope ["self", "text"] ["self", "text"] (defScope s_Reader___init__) := ⟨rfl, rfl, rfl, by decide +kernel, rfl, by decide +kernel, by decide +kernel⟩
abbrev s_Reader_ended : Stmt := (clsBody (top 16)).getD 1 (.Pass ⟨0, 0, 0, 0⟩)
theorem sc_Reader_ended : FnScope ["self"] ["self"] (defScope s_Reader_ended) := ⟨rfl, rfl, rfl, by decide +kernel, rfl, by decide +kernel, by decide +kernel⟩
abbrev s_Reader_took : Stmt := (clsBody (top 16)).getD 2 (.Pass ⟨0, 0, 0, 0⟩)
theorem sc_Reader_took : FnScope ["self", "wanted", "behind"] ["self", "wanted"] (defScope s_Reader_took) := ⟨rfl, rfl, rfl, by decide +kernel, rfl, by decide +kernel, by decide +kernel⟩
abbrev s_Reader_stretch : Stmt := (clsBody (top 16)).getD 3 (.Pass ⟨0, 0, 0, 0⟩)
theorem sc_Reader_stretch : FnScope ["self", "signs", "begin"] ["self", "signs"] (defScope s_Reader_stretch) := ⟨rfl, rfl, rfl, by decide +kernel, rfl, by decide +kernel, by decide +kernel⟩
abbrev s_Reader_number : Stmt := (clsBody (top 16)).getD 4 (.Pass ⟨0, 0, 0, 0⟩)
theorem sc_Reader_number : FnScope ["self"] ["self"] (defScope s_Reader_number) := ⟨rfl, rfl, rfl, by decide +kernel, rfl, by decide +kernel, by decide +kernel⟩
abbrev s_Path___init__ : Stmt := (clsBody (top 21)).getD 0 (.Pass ⟨0, 0, 0, 0⟩)
theorem sc_Path___init__ : FnScope ["self", "stops"] ["self", "stops"] (defScope s_Path___init__) := ⟨rfl, rfl, rfl, by decide +kernel, rfl, by decide +kernel, by decide +kernel⟩
abbrev s_Path_size : Stmt := (clsBody (top 21)).getD 1 (.Pass ⟨0, 0, 0, 0⟩)
theorem sc_Path_size : FnScope ["self", "total", "k"] ["self"] (defScope s_Path_size) := ⟨rfl, rfl, rfl, by decide +kernel, rfl, by decide +kernel, by decide +kernel⟩
abbrev s_Path_numbers : Stmt := (clsBody (top 21)).getD 2 (.Pass ⟨0, 0, 0, 0⟩)
theorem sc_Path_numbers : FnScope ["self", "written", "stop"] ["self"] (defScope s_Path_numbers) := ⟨rfl, rfl, rfl, by decide +kernel, rfl, by decide +kernel, by decide +kernel⟩
abbrev s_Times___init__ : Stmt := (clsBody (top 22)).getD 0 (.Pass ⟨0, 0, 0, 0⟩)
theorem sc_Times___init__ : FnScope ["self", "count", "inner"] ["self", "count", "inner"] (defScope s_Times___init__) := ⟨rfl, rfl, rfl, by decide +kernel, rfl, by decide +kernel, by decide +kernel⟩
abbrev s_Times_size : Stmt := (clsBody (top 22)).getD 1 (.Pass ⟨0, 0, 0, 0⟩)
theorem sc_Times_size : FnScope ["self"] ["self"] (defScope s_Times_size) := ⟨rfl, rfl, rfl, by decide +kernel, rfl, by decide +kernel, by decide +kernel⟩
abbrev s_Times_numbers : Stmt := (clsBody (top 22)).getD 2 (.Pass ⟨0, 0, 0, 0⟩)
theorem sc_Times_numbers : FnScope ["self"] ["self"] (defScope s_Times_numbers) := ⟨rfl, rfl, rfl, by decide +kernel, rfl, by decide +kernel, by decide +kernel⟩
set_option genInjectivity false in
structure Adr where
  e_Draft : Addr
  e_Reader : Addr
  e_Path : Addr
  e_Times : Addr
  f_Draft___init__ : Addr
  d_Draft___init__ : FuncData
  f_Reader___init__ : Addr
  d_Reader___init__ : FuncData
  f_Reader_ended : Addr
  d_Reader_ended : FuncData
  f_Reader_took : Addr
  d_Reader_took : FuncData
  f_Reader_stretch : Addr
  d_Reader_stretch : FuncData
  f_Reader_number : Addr
  d_Reader_number : FuncData
  f_Path___init__ : Addr
  d_Path___init__ : FuncData
  f_Path_size : Addr
  d_Path_size : FuncData
  f_Path_numbers : Addr
  d_Path_numbers : FuncData
  f_Times___init__ : Addr
  d_Times___init__ : FuncData
  f_Times_size : Addr
  d_Times_size : FuncData
  f_Times_numbers : Addr
  d_Times_numbers : FuncData
  f_check_setting : Addr
  d_check_setting : FuncData
  f_check_count : Addr
  d_check_count : FuncData
  f_check_shaft : Addr
  d_check_shaft : FuncData
  f_check_tie : Addr
  d_check_tie : FuncData
  f_check_treading : Addr
  d_check_treading : FuncData
  f_number_of : Addr
  d_number_of : FuncData
  f_unfolded : Addr
  d_unfolded : FuncData
  f_whole_size : Addr
  d_whole_size : FuncData
  f_all_numbers : Addr
  d_all_numbers : FuncData
  f_steps_between : Addr
  d_steps_between : FuncData
  f_read_row : Addr
  d_read_row : FuncData
  f_read_items : Addr
  d_read_items : FuncData
  f_read_item : Addr
  d_read_item : FuncData
  f_read_times : Addr
  d_read_times : FuncData
  f_read_path : Addr
  d_read_path : FuncData
  f_read_number : Addr
  d_read_number : FuncData
  f_read_draft : Addr
  d_read_draft : FuncData
  f_law_numbers : Addr
  d_law_numbers : FuncData
  f_law_subset : Addr
  d_law_subset : FuncData
  f_law_numbers_same : Addr
  d_law_numbers_same : FuncData
  f_law_draft_same : Addr
  d_law_draft_same : FuncData
  f_law_written : Addr
  d_law_written : FuncData
  f_law_exchanged : Addr
  d_law_exchanged : FuncData
  f_law_rows_by : Addr
  d_law_rows_by : FuncData
  f_law_fits : Addr
  d_law_fits : FuncData
  f_law_due : Addr
  d_law_due : FuncData
  f_law_caught : Addr
  d_law_caught : FuncData
  f_law_refused : Addr
  d_law_refused : FuncData
  f_law : Addr
  d_law : FuncData
  e_WeaveError : Addr
  f_WeaveError_called : Addr
  d_WeaveError_called : FuncData
  e_NoRow : Addr
  f_NoRow_called : Addr
  d_NoRow_called : FuncData
  e_TooLarge : Addr
  f_TooLarge_called : Addr
  d_TooLarge_called : FuncData
  e_NoDraft : Addr
  f_NoDraft_called : Addr
  d_NoDraft_called : FuncData
structure Txt (K : PySem.W.Frag) (mg : Str → Option Value) (t : Adr) : Prop where
  check_setting : Df K mg "check_setting" s_check_setting ["threading", "ties"] t.f_check_setting t.d_check_setting
  check_count : Df K mg "check_count" s_check_count ["count"] t.f_check_count t.d_check_count
  check_shaft : Df K mg "check_shaft" s_check_shaft ["shaft"] t.f_check_shaft t.d_check_shaft
  check_tie : Df K mg "check_tie" s_check_tie ["tie"] t.f_check_tie t.d_check_tie
  check_treading : Df K mg "check_treading" s_check_treading ["treading", "treadles"] t.f_check_treading t.d_check_treading
  number_of : Df K mg "number_of" s_number_of ["figures"] t.f_number_of t.d_number_of
  unfolded : Df K mg "unfolded" s_unfolded ["text"] t.f_unfolded t.d_unfolded
  whole_size : Df K mg "whole_size" s_whole_size ["row_items"] t.f_whole_size t.d_whole_size
  all_numbers : Df K mg "all_numbers" s_all_numbers ["row_items"] t.f_all_numbers t.d_all_numbers
  steps_between : Df K mg "steps_between" s_steps_between ["start", "stop"] t.f_steps_between t.d_steps_between
  read_row : Df K mg "read_row" s_read_row ["text"] t.f_read_row t.d_read_row
  read_items : Df K mg "read_items" s_read_items ["reader", "depth"] t.f_read_items t.d_read_items
  read_item : Df K mg "read_item" s_read_item ["reader", "depth"] t.f_read_item t.d_read_item
  read_times : Df K mg "read_times" s_read_times ["reader", "count", "depth"] t.f_read_times t.d_read_times
  read_path : Df K mg "read_path" s_read_path ["reader", "first"] t.f_read_path t.d_read_path
  read_number : Df K mg "read_number" s_read_number ["reader"] t.f_read_number t.d_read_number
  read_draft : Df K mg "read_draft" s_read_draft ["text"] t.f_read_draft t.d_read_draft
  law_numbers : Df K mg "_law_numbers" s_law_numbers ["script", "many"] t.f_law_numbers t.d_law_numbers
  law_subset : Df K mg "_law_subset" s_law_subset ["number"] t.f_law_subset t.d_law_subset
  law_numbers_same : Df K mg "_law_numbers_same" s_law_numbers_same ["found", "due"] t.f_law_numbers_same t.d_law_numbers_same
  law_draft_same : Df K mg "_law_draft_same" s_law_draft_same ["draft", "threading", "ties", "treading"] t.f_law_draft_same t.d_law_draft_same
  law_written : Df K mg "_law_written" s_law_written ["row"] t.f_law_written t.d_law_written
  law_exchanged : Df K mg "_law_exchanged" s_law_exchanged ["row", "number"] t.f_law_exchanged t.d_law_exchanged
  law_rows_by : Df K mg "_law_rows_by" s_law_rows_by ["numbers"] t.f_law_rows_by t.d_law_rows_by
  law_fits : Df K mg "_law_fits" s_law_fits ["threading", "ties", "treading"] t.f_law_fits t.d_law_fits
  law_due : Df K mg "_law_due" s_law_due ["rows"] t.f_law_due t.d_law_due
  law_caught : Df K mg "_law_caught" s_law_caught ["text"] t.f_law_caught t.d_law_caught
  law_refused : Df K mg "_law_refused" s_law_refused ["caught", "word"] t.f_law_refused t.d_law_refused
  law : Df K mg "law" s_law ["script"] t.f_law t.d_law
  b_ValueError : mg "ValueError" = none
  b_abs : mg "abs" = none
  b_bool : mg "bool" = none
  b_int : mg "int" = none
  b_isinstance : mg "isinstance" = none
  b_len : mg "len" = none
  b_list : mg "list" = none
  b_range : mg "range" = none
  b_str : mg "str" = none
  b_sum : mg "sum" = none
  c_MOST_STRANDS : ∃ tk, mg "MOST_STRANDS" = some (.int 40 tk)
  c_MOST_SHAFTS : ∃ tk, mg "MOST_SHAFTS" = some (.int 40 tk)
  c_FIGURES : ∃ tk, mg "FIGURES" = some (.str "0123456789" tk)
  c_MOST_NUMBERS : ∃ tk, mg "MOST_NUMBERS" = some (.int 400 tk)
  c_MOST_DEEP : ∃ tk, mg "MOST_DEEP" = some (.int 8 tk)
  c_BETWEEN_PARTS : ∃ tk, mg "BETWEEN_PARTS" = some (.str " / " tk)
  c_BETWEEN_TIES : ∃ tk, mg "BETWEEN_TIES" = some (.str ", " tk)
  k_WeaveError : mg "WeaveError" = some (.ref t.e_WeaveError)
  x_WeaveError : Exn K t.e_WeaveError
  m_WeaveError : Mf K "called" "WeaveError.called" s_WeaveError_called ["self"] t.e_WeaveError t.f_WeaveError_called t.d_WeaveError_called
  r_WeaveError_WeaveError : PySem.W.mroIn K t.e_WeaveError (.ref t.e_WeaveError) = some true
  r_WeaveError_NoRow : PySem.W.mroIn K t.e_WeaveError (.ref t.e_NoRow) = some false
  r_WeaveError_TooLarge : PySem.W.mroIn K t.e_WeaveError (.ref t.e_TooLarge) = some false
  r_WeaveError_NoDraft : PySem.W.mroIn K t.e_WeaveError (.ref t.e_NoDraft) = some false
  k_NoRow : mg "NoRow" = some (.ref t.e_NoRow)
  x_NoRow : Exn K t.e_NoRow
  m_NoRow : Mf K "called" "NoRow.called" s_NoRow_called ["self"] t.e_NoRow t.f_NoRow_called t.d_NoRow_called
  r_NoRow_WeaveError : PySem.W.mroIn K t.e_NoRow (.ref t.e_WeaveError) = some true
  r_NoRow_NoRow : PySem.W.mroIn K t.e_NoRow (.ref t.e_NoRow) = some true
  r_NoRow_TooLarge : PySem.W.mroIn K t.e_NoRow (.ref t.e_TooLarge) = some false
  r_NoRow_NoDraft : PySem.W.mroIn K t.e_NoRow (.ref t.e_NoDraft) = some false
  k_TooLarge : mg "TooLarge" = some (.ref t.e_TooLarge)
  x_TooLarge : Exn K t.e_TooLarge
  m_TooLarge : Mf K "called" "TooLarge.called" s_TooLarge_called ["self"] t.e_TooLarge t.f_TooLarge_called t.d_TooLarge_called
  r_TooLarge_WeaveError : PySem.W.mroIn K t.e_TooLarge (.ref t.e_WeaveError) = some true
  r_TooLarge_NoRow : PySem.W.mroIn K t.e_TooLarge (.ref t.e_NoRow) = some false
  r_TooLarge_TooLarge : PySem.W.mroIn K t.e_TooLarge (.ref t.e_TooLarge) = some true
  r_TooLarge_NoDraft : PySem.W.mroIn K t.e_TooLarge (.ref t.e_NoDraft) = some false
  k_NoDraft : mg "NoDraft" = some (.ref t.e_NoDraft)
  x_NoDraft : Exn K t.e_NoDraft
  m_NoDraft : Mf K "called" "NoDraft.called" s_NoDraft_called ["self"] t.e_NoDraft t.f_NoDraft_called t.d_NoDraft_called
  r_NoDraft_WeaveError : PySem.W.mroIn K t.e_NoDraft (.ref t.e_WeaveError) = some true
  r_NoDraft_NoRow : PySem.W.mroIn K t.e_NoDraft (.ref t.e_NoRow) = some false
  r_NoDraft_TooLarge : PySem.W.mroIn K t.e_NoDraft (.ref t.e_TooLarge) = some false
  r_NoDraft_NoDraft : PySem.W.mroIn K t.e_NoDraft (.ref t.e_NoDraft) = some true
  k_Draft : mg "Draft" = some (.ref t.e_Draft)
  o_Draft : Own K t.e_Draft t.f_Draft___init__
  na_Draft_threading : NoAttr K t.e_Draft "threading"
  na_Draft_ties : NoAttr K t.e_Draft "ties"
  na_Draft_treading : NoAttr K t.e_Draft "treading"
  is_Draft : Isa K t.e_Draft
  k_Reader : mg "Reader" = some (.ref t.e_Reader)
  o_Reader : Own K t.e_Reader t.f_Reader___init__
  na_Reader_text : NoAttr K t.e_Reader "text"
  na_Reader_place : NoAttr K t.e_Reader "place"
  k_Path : mg "Path" = some (.ref t.e_Path)
  o_Path : Own K t.e_Path t.f_Path___init__
  na_Path_stops : NoAttr K t.e_Path "stops"
  k_Times : mg "Times" = some (.ref t.e_Times)
  o_Times : Own K t.e_Times t.f_Times___init__
  na_Times_count : NoAttr K t.e_Times "count"
  na_Times_inner : NoAttr K t.e_Times "inner"
  m_Draft___init__ : Mf K "__init__" "Draft.__init__" s_Draft___init__ ["self", "threading", "ties", "treading"] t.e_Draft t.f_Draft___init__ t.d_Draft___init__
  m_Reader___init__ : Mf K "__init__" "Reader.__init__" s_Reader___init__ ["self", "text"] t.e_Reader t.f_Reader___init__ t.d_Reader___init__
  m_Reader_ended : Mf K "ended" "Reader.ended" s_Reader_ended ["self"] t.e_Reader t.f_Reader_ended t.d_Reader_ended
  m_Reader_took : Mf K "took" "Reader.took" s_Reader_took ["self", "wanted"] t.e_Reader t.f_Reader_took t.d_Reader_took
  m_Reader_stretch : Mf K "stretch" "Reader.stretch" s_Reader_stretch ["self", "signs"] t.e_Reader t.f_Reader_stretch t.d_Reader_stretch
  m_Reader_number : Mf K "number" "Reader.number" s_Reader_number ["self"] t.e_Reader t.f_Reader_number t.d_Reader_number
  m_Path___init__ : Mf K "__init__" "Path.__init__" s_Path___init__ ["self", "stops"] t.e_Path t.f_Path___init__ t.d_Path___init__
  m_Path_size : Mf K "size" "Path.size" s_Path_size ["self"] t.e_Path t.f_Path_size t.d_Path_size
  m_Path_numbers : Mf K "numbers" "Path.numbers" s_Path_numbers ["self"] t.e_Path t.f_Path_numbers t.d_Path_numbers
  m_Times___init__ : Mf K "__init__" "Times.__init__" s_Times___init__ ["self", "count", "inner"] t.e_Times t.f_Times___init__ t.d_Times___init__
  m_Times_size : Mf K "size" "Times.size" s_Times_size ["self"] t.e_Times t.f_Times_size t.d_Times_size
  m_Times_numbers : Mf K "numbers" "Times.numbers" s_Times_numbers ["self"] t.e_Times t.f_Times_numbers t.d_Times_numbers
theorem bl1 {fd : FuncData} {ps : List Str} (h : ∀ a0 : Value, bindArgs fd ⟨[a0], []⟩ = pure (ps.zip [a0])) (us : List Value) (hl : us.length = 1) : bindArgs fd ⟨us, []⟩ = pure (ps.zip us) := by
  rcases us with _ | ⟨a0, us⟩
  · cases hl
  rcases us with _ | ⟨b, us⟩
  · exact h a0
  · cases hl
theorem bl2 {fd : FuncData} {ps : List Str} (h : ∀ a0 a1 : Value, bindArgs fd ⟨[a0, a1], []⟩ = pure (ps.zip [a0, a1])) (us : List Value) (hl : us.length = 2) : bindArgs fd ⟨us, []⟩ = pure (ps.zip us) := by
  rcases us with _ | ⟨a0, us⟩
  · cases hl
  rcases us with _ | ⟨a1, us⟩
  · cases hl
  rcases us with _ | ⟨b, us⟩
  · exact h a0 a1
  · cases hl
theorem bl3 {fd : FuncData} {ps : List Str} (h : ∀ a0 a1 a2 : Value, bindArgs fd ⟨[a0, a1, a2], []⟩ = pure (ps.zip [a0, a1, a2])) (us : List Value) (hl : us.length = 3) : bindArgs fd ⟨us, []⟩ = pure (ps.zip us) := by
  rcases us with _ | ⟨a0, us⟩
  · cases hl
  rcases us with _ | ⟨a1, us⟩
  · cases hl
  rcases us with _ | ⟨a2, us⟩
  · cases hl
  rcases us with _ | ⟨b, us⟩
  · exact h a0 a1 a2
  · cases hl
theorem bl4 {fd : FuncData} {ps : List Str} (h : ∀ a0 a1 a2 a3 : Value, bindArgs fd ⟨[a0, a1, a2, a3], []⟩ = pure (ps.zip [a0, a1, a2, a3])) (us : List Value) (hl : us.length = 4) : bindArgs fd ⟨us, []⟩ = pure (ps.zip us) := by
  rcases us with _ | ⟨a0, us⟩
  · cases hl
  rcases us with _ | ⟨a1, us⟩
  · cases hl
  rcases us with _ | ⟨a2, us⟩
  · cases hl
  rcases us with _ | ⟨a3, us⟩
  · cases hl
  rcases us with _ | ⟨b, us⟩
  · exact h a0 a1 a2 a3
  · cases hl
section
variable {P : Program} {w : World} {K : PySem.W.Frag} {mg : Str → Option Value} {base : Heap} {t : Adr}
def sp_called (z : Str) : Sp := fun vs H Q _ => ∃ v, vs = [v] ∧ Q (.str z) H
theorem ok_NoRow_called (T : Txt K mg t) : FnOk P w K mg base CX0 1 t.f_NoRow_called t.d_NoRow_called ["self"] (sp_called "NoRow") :=
  T.m_NoRow.F.ok sc_NoRow_called (fun vs H Q E h => by obtain ⟨v, rfl, _⟩ := h; rfl) fun cdv A outer s H vs Q E hr h => by
    obtain ⟨v, rfl, k⟩ := h
    exact ⟨_, pss_one (ps_ret pe_str), k⟩
theorem ok_TooLarge_called (T : Txt K mg t) : FnOk P w K mg base CX0 1 t.f_TooLarge_called t.d_TooLarge_called ["self"] (sp_called "TooLarge") :=
  T.m_TooLarge.F.ok sc_TooLarge_called (fun vs H Q E h => by obtain ⟨v, rfl, _⟩ := h; rfl) fun cdv A outer s H vs Q E hr h => by
    obtain ⟨v, rfl, k⟩ := h
    exact ⟨_, pss_one (ps_ret pe_str), k⟩
theorem ok_NoDraft_called (T : Txt K mg t) : FnOk P w K mg base CX0 1 t.f_NoDraft_called t.d_NoDraft_called ["self"] (sp_called "NoDraft") :=
  T.m_NoDraft.F.ok sc_NoDraft_called (fun vs H Q E h => by obtain ⟨v, rfl, _⟩ := h; rfl) fun cdv A outer s H vs Q E hr h => by
    obtain ⟨v, rfl, k⟩ := h
    exact ⟨_, pss_one (ps_ret pe_str), k⟩
end
section
variable {P : Program} {w : World} {K : PySem.W.Frag} {mg : Str → Option Value} {base : Heap} {t : Adr}
theorem z0 (i : Nat) : (0 + (i : Int)).toNat = i := by omega
theorem kit_same (K : PySem.W.Frag) (n : String) : PySem.W.kitOne K (.type n) (.type n) = some true := if_pos (beq_self_eq_true _)
theorem small6000 {n : Nat} (h : n ≤ 6000) : n < sizeLine := Nat.lt_of_le_of_lt h (by decide)
structure NL (H : Hp) (y : Addr) (rs : List Addr) (tss : List (List Int)) : Prop where
  h : H y = some (.lst (rs.map V.ref))
  l : rs.length = tss.length
  r : ∀ (i : Nat) (a : Addr) (ks : List Int), rs[i]? = some a → tss[i]? = some ks → H a = some (.lst (vI ks))
theorem NL.same {H H' : Hp} {y : Addr} {rs : List Addr} {tss : List (List Int)} (N : NL H y rs tss) (s : Same H H') : NL H' y rs tss := ⟨s _ _ N.h, N.l, fun i a ks h1 h2 => s _ _ (N.r i a ks h1 h2)⟩
theorem NL.at {H : Hp} {y : Addr} {rs : List Addr} {tss : List (List Int)} (N : NL H y rs tss) {i : Nat} {a : V} (h : (rs.map V.ref)[i]? = some a) : ∃ r ks, a = .ref r ∧ rs[i]? = some r ∧ tss[i]? = some ks ∧ H r = some (.lst (vI ks)) := by
  rw [List.getElem?_map] at h
  cases e : rs[i]? with
  | none => rw [e] at h; cases h
  | some r =>
    rw [e] at h
    cases h
    have hi : i < tss.length := by rw [← N.l]; exact (List.getElem?_eq_some_iff.mp e).1
    exact ⟨r, tss[i], rfl, rfl, List.getElem?_eq_getElem hi, N.r i r _ e (List.getElem?_eq_getElem hi)⟩
theorem rs_short {ks : List Int} (R : Rs ks) : ks.length ≤ 1000 := by
  have step : ∀ (i : Nat) (a : Int), ks[i]? = some a → (i : Int) ≤ a := by
    intro i
    induction i with
    | zero => exact fun a h => (R.2 a (List.mem_of_getElem? h)).1
    | succ i ih =>
      intro a h
      have hi : i < ks.length := by have := (List.getElem?_eq_some_iff.mp h).1; omega
      have := ih ks[i] (List.getElem?_eq_getElem hi)
      have := R.1 i ks[i] a (List.getElem?_eq_getElem hi) h
      omega
  by_cases h : ks.length = 0
  · omega
  · have hi : ks.length - 1 < ks.length := by omega
    have h1 := step (ks.length - 1) _ (List.getElem?_eq_getElem hi)
    have h2 := R.2 _ (List.getElem_mem hi)
    omega
def CtOk (c : Nat) : Prop := 1 ≤ c ∧ c ≤ 40
def SetOk (th : List Int) (tss : List (List Int)) : Prop := CtOk th.length ∧ CtOk tss.length ∧ (∀ v ∈ th, 0 ≤ v ∧ v < 40) ∧ ∀ ks ∈ tss, Rs ks
def TrOk (tr : List Int) (n : Nat) : Prop := CtOk tr.length ∧ ∀ v ∈ tr, 0 ≤ v ∧ v < (n : Int)
def Bd3 (th : List Int) (tss : List (List Int)) (tr : List Int) : Prop := th.length ≤ 1000 ∧ tss.length ≤ 1000 ∧ tr.length ≤ 1000 ∧ ∀ ks ∈ tss, ks.length ≤ 2000
theorem Ft.set {th : List Int} {tss : List (List Int)} {tr : List Int} (F : Ft th tss tr) : SetOk th tss := ⟨⟨F.m1, F.m40⟩, ⟨F.t1, F.t40⟩, F.hth, F.hti⟩
theorem Ft.trd {th : List Int} {tss : List (List Int)} {tr : List Int} (F : Ft th tss tr) : TrOk tr tss.length := ⟨⟨F.n1, F.n40⟩, F.htr⟩
theorem ft_of {th : List Int} {tss : List (List Int)} {tr : List Int} (h : SetOk th tss) (g : TrOk tr tss.length) : Ft th tss tr := ⟨h.1.1, h.1.2, h.2.1.1, h.2.1.2, g.1.1, g.1.2, h.2.2.1, h.2.2.2, g.2⟩
def sp_xcount (t : Adr) : Sp := fun vs H Q E => ∃ c : Nat, vs = [.int (c : Int)] ∧ (CtOk c → Q .non H) ∧ (¬ CtOk c → E (.ref t.e_NoDraft) none H)
theorem okx_check_count (T : Txt K mg t) : FnOk P w K mg base (CX1 P w) 1 t.f_check_count t.d_check_count ["count"] (sp_xcount t) := by
  refine T.check_count.F.okX sc_check_count (fun vs H Q E h => ?_) (fun cdv A outer s H vs Q E hr h => ?_)
  · obtain ⟨c, rfl, _⟩ := h
    rfl
  · obtain ⟨c, rfl, k1, k2⟩ := h
    refine ⟨_, (pss_one (ps_if (PW.pt (pw_or (pt_cmpR op_lt (pv 0) pe_int (nomark _)) (pw_or1 (pt_cmpR op_gt (pv 0) (pe_glob (v := .int 40) rfl T.c_MOST_STRANDS.choose_spec ⟨_, rfl⟩) (nomark _)))))
        (pss_one (ps_raise body1 rfl (fun _ _ z => z) PySem.F.excBase_ValueError has_ve PySem.F.excBase_ValueError T.x_NoDraft.q rfl T.k_NoDraft (pa_cons pe_str pa_nil)))
        pss_nil)), ?_⟩
    refine ⟨_, rfl, _, _, rfl, rfl, _, rfl, ?_⟩
    refine ite2D (fun h => iteT ⟨by decide, k2 fun z => ?_⟩) (fun g1 => ?_)
    · have := z.1; omega
    refine ⟨_, rfl, _, _, rfl, rfl, _, rfl, ?_⟩
    refine ite2D (fun h => ⟨by decide, k2 fun z => ?_⟩) (fun g2 => k1 ⟨by omega, by omega⟩)
    have := z.2
    omega
def sp_xshaft (t : Adr) : Sp := fun vs H Q E => ∃ v : Int, vs = [.int v] ∧ (0 ≤ v ∧ v < 40 → Q .non H) ∧ (¬ (0 ≤ v ∧ v < 40) → E (.ref t.e_NoDraft) none H)
theorem okx_check_shaft (T : Txt K mg t) : FnOk P w K mg base (CX1 P w) 1 t.f_check_shaft t.d_check_shaft ["shaft"] (sp_xshaft t) := by
  refine T.check_shaft.F.okX sc_check_shaft (fun vs H Q E h => ?_) (fun cdv A outer s H vs Q E hr h => ?_)
  · obtain ⟨v, rfl, _⟩ := h
    rfl
  · obtain ⟨v, rfl, k1, k2⟩ := h
    refine ⟨_, (pss_one (ps_if (PW.pt (pw_or (pt_cmpR op_lt (pv 0) pe_int (nomark _)) (pw_or1 (pt_cmpR op_ge (pv 0) (pe_glob (v := .int 40) rfl T.c_MOST_SHAFTS.choose_spec ⟨_, rfl⟩) (nomark _)))))
        (pss_one (ps_raise body1 rfl (fun _ _ z => z) PySem.F.excBase_ValueError has_ve PySem.F.excBase_ValueError T.x_NoDraft.q rfl T.k_NoDraft (pa_cons pe_str pa_nil)))
        pss_nil)), ?_⟩
    refine ⟨_, rfl, _, _, rfl, rfl, _, rfl, ?_⟩
    refine ite2D (fun h => iteT ⟨by decide, k2 fun z => ?_⟩) (fun g1 => ?_)
    · omega
    refine ⟨_, rfl, _, _, rfl, rfl, _, rfl, ?_⟩
    refine ite2D (fun h => ⟨by decide, k2 fun z => ?_⟩) (fun g2 => k1 ⟨by omega, by omega⟩)
    omega
def RsI (ks : List Int) (i : Nat) : Prop := (∀ (j : Nat) (a : Int), j < i → ks[j]? = some a → 0 ≤ a ∧ a < 40) ∧ ∀ (j : Nat) (a b : Int), j + 1 < i → ks[j]? = some a → ks[j + 1]? = some b → a < b
theorem RsI.all {ks : List Int} (h : RsI ks ks.length) : Rs ks := ⟨fun i a b ha hb => h.2 i a b (List.getElem?_eq_some_iff.mp hb).1 ha hb, fun k hk => by
  obtain ⟨j, hj, e⟩ := List.getElem_of_mem hk
  exact h.1 j k hj (by rw [← e]; exact List.getElem?_eq_getElem hj)⟩
theorem RsI.step {ks : List Int} {i : Nat} (hi : i < ks.length) (h : RsI ks i) (h1 : 0 ≤ ks[i] ∧ ks[i] < 40) (h2 : ∀ j a, j + 1 = i → ks[j]? = some a → a < ks[i]) : RsI ks (i + 1) := by
  refine ⟨fun j a hj ha => ?_, fun j a b hj ha hb => ?_⟩
  · by_cases e : j < i
    · exact h.1 j a e ha
    · have : j = i := by omega
      subst this
      rw [List.getElem?_eq_getElem hi] at ha
      cases ha
      exact h1
  · by_cases e : j + 1 < i
    · exact h.2 j a b e ha hb
    · have : j + 1 = i := by omega
      subst this
      rw [List.getElem?_eq_getElem hi] at hb
      cases hb
      exact h2 j a rfl ha
def sp_xtie (t : Adr) : Sp := fun vs H Q E => ∃ (a : Addr) (ks : List Int), vs = [.ref a] ∧ H a = some (.lst (vI ks)) ∧ ks.length ≤ 2000 ∧ (Rs ks → Q .non H) ∧ (¬ Rs ks → E (.ref t.e_NoDraft) none H)
theorem okx_check_tie (T : Txt K mg t) : FnOk P w K mg base (CX1 P w) 2 t.f_check_tie t.d_check_tie ["tie"] (sp_xtie t) := by
  have G_check_shaft : FnOk P w K mg base (CX1 P w) 1 t.f_check_shaft t.d_check_shaft _ _ := okx_check_shaft T
  refine T.check_tie.F.okX sc_check_tie (fun vs H Q E h => ?_) (fun cdv A outer s H vs Q E hr h => ?_)
  · obtain ⟨a, ks, rfl, _⟩ := h
    rfl
  · obtain ⟨a, ks, rfl, ha, hl, k1, k2⟩ := h
    refine ⟨_, (pss_one (ps_fr fun hfr => (ps_for (ownX body1 hfr) rfl (pi_range1 rfl T.b_range (pa_cons (pe_callB (call_len_seqK (K := K)) rfl T.b_len bt_len (pa_cons (pv 0) pa_nil)) pa_nil)) (pg_name (i := 1) sc_check_tie.nd rfl (Or.inl rfl))
        (pss_cons (ps_expr (pe_call (G_check_shaft.mono (by decide)) hr rfl T.check_shaft.m T.check_shaft.F.kp T.check_shaft.b .nil pass1 (pa_cons (pe_ix (ix_listK (K := K)) (pv 0) (pv 1) (fun _ _ => rfl)) pa_nil)))
        (pss_one (ps_if (PW.pt (pw_and (pt_cmpR op_gt (pv 1) pe_int (nomark _)) (pw_and1 (pt_cmpR op_le (pe_ix (ix_listK (K := K)) (pv 0) (pv 1) (fun _ _ => rfl)) (pe_ix (ix_listK (K := K)) (pv 0) (pe_op op_sub (pv 1) pe_int) (fun _ _ => rfl)) (nomark _)))))
          (pss_one (ps_raise body1 rfl (fun _ _ z => z) PySem.F.excBase_ValueError has_ve PySem.F.excBase_ValueError T.x_NoDraft.q rfl T.k_NoDraft (pa_cons pe_str pa_nil)))
          pss_nil)))))), ?_⟩
    refine ⟨_, rfl, _, _, rfl, .inl (SqL.of ha), _, rfl, (by omega), (by rw [vI_len]; omega), ?_⟩
    rw [Int.toNat_natCast, vI_len]
    refine for_range (lo := 0) (n := ks.length) (fun i σ H2 => ∃ v, σ = [some (.ref a), v] ∧ H2 = H ∧ RsI ks i) ⟨none, rfl, rfl, fun j a h => absurd h (by omega), fun j a b h => absurd h (by omega)⟩ ?_ ?_
    · rintro i σ H2 hi ⟨v, rfl, rfl, R⟩
      have e1 : atI (vI ks) (0 + (i : Int)) = some (.int ks[i]) := atI_of (by omega) (by rw [z0]; exact vI_get (List.getElem?_eq_getElem hi))
      refine ⟨_, rfl, _, rfl, _, _, _, _, rfl, rfl, SqL.of ha, e1, ks[i], rfl, fun hg => ?_, fun hb => k2 fun z => hb (z.2 _ (List.getElem_mem hi))⟩
      refine ⟨_, rfl, _, _, rfl, rfl, _, rfl, ?_⟩
      by_cases h0 : i = 0
      · subst h0
        refine iteDn (by omega) ?_
        exact iteF ⟨_, rfl, rfl, R.step hi hg fun j a hj => absurd hj (by omega)⟩
      · have hi1 : i - 1 < ks.length := by omega
        have e2 : atI (vI ks) (0 + (i : Int) - 1) = some (.int ks[i - 1]) := atI_of (by omega) (by rw [show (0 + (i : Int) - 1).toNat = i - 1 by omega]; exact vI_get (List.getElem?_eq_getElem hi1))
        refine iteDp (by omega) ?_
        refine ⟨_, rfl, _, rfl, _, _, _, _, rfl, rfl, SqL.of ha, e1, _, rfl, _, rfl, _, _, rfl, rfl, _, _, _, _, rfl, rfl, SqL.of ha, e2, _, _, rfl, rfl, _, rfl, ?_⟩
        refine ite2D (fun hle => ?_) (fun hgt => ?_)
        · refine ⟨by decide, k2 fun z => ?_⟩
          have := z.1 (i - 1) ks[i - 1] ks[i] (List.getElem?_eq_getElem hi1) (by rw [show i - 1 + 1 = i by omega]; exact List.getElem?_eq_getElem hi)
          omega
        · refine ⟨_, rfl, rfl, R.step hi hg fun j a hj hja => ?_⟩
          have : j = i - 1 := by omega
          subst this
          rw [List.getElem?_eq_getElem hi1] at hja
          cases hja
          omega
    · rintro σ H2 ⟨v, rfl, rfl, R⟩
      exact k1 R.all
def sp_xsetting (t : Adr) : Sp := fun vs H Q E => ∃ (x y : Addr) (rs : List Addr) (th : List Int) (tss : List (List Int)), vs = [.ref x, .ref y] ∧ H x = some (.lst (vI th)) ∧ NL H y rs tss ∧ th.length ≤ 1000 ∧ tss.length ≤ 1000 ∧ (∀ ks ∈ tss, ks.length ≤ 2000) ∧ (SetOk th tss → Q .non H) ∧ (¬ SetOk th tss → E (.ref t.e_NoDraft) none H)
theorem okx_check_setting (T : Txt K mg t) : FnOk P w K mg base (CX1 P w) 3 t.f_check_setting t.d_check_setting ["threading", "ties"] (sp_xsetting t) := by
  have G_check_count : FnOk P w K mg base (CX1 P w) 1 t.f_check_count t.d_check_count _ _ := okx_check_count T
  have G_check_shaft : FnOk P w K mg base (CX1 P w) 1 t.f_check_shaft t.d_check_shaft _ _ := okx_check_shaft T
  have G_check_tie : FnOk P w K mg base (CX1 P w) 2 t.f_check_tie t.d_check_tie _ _ := okx_check_tie T
  refine T.check_setting.F.okX sc_check_setting (fun vs H Q E h => ?_) (fun cdv A outer s H vs Q E hr h => ?_)
  · obtain ⟨x, y, rs, th, tss, rfl, _⟩ := h
    rfl
  · obtain ⟨x, y, rs, th, tss, rfl, hx, N, bl1, bl2, bl3, k1, k2⟩ := h
    refine ⟨_, (pss_cons (ps_expr (pe_call (G_check_count.mono (by decide)) hr rfl T.check_count.m T.check_count.F.kp T.check_count.b .nil pass1 (pa_cons (pe_callB (call_len_seqK (K := K)) rfl T.b_len bt_len (pa_cons (pv 0) pa_nil)) pa_nil)))
      (pss_cons (ps_expr (pe_call (G_check_count.mono (by decide)) hr rfl T.check_count.m T.check_count.F.kp T.check_count.b .nil pass1 (pa_cons (pe_callB (call_len_seqK (K := K)) rfl T.b_len bt_len (pa_cons (pv 1) pa_nil)) pa_nil)))
      (pss_cons (ps_fr fun hfr => (ps_for (ownX body1 hfr) rfl (pi_listK (K := K) (pv 0)) (pg_name (i := 2) sc_check_setting.nd rfl (Or.inl rfl))
        (pss_one (ps_expr (pe_call (G_check_shaft.mono (by decide)) hr rfl T.check_shaft.m T.check_shaft.F.kp T.check_shaft.b .nil pass1 (pa_cons (pv 2) pa_nil))))))
      (pss_one (ps_fr fun hfr => (ps_for (ownX body1 hfr) rfl (pi_listK (K := K) (pv 1)) (pg_name (i := 3) sc_check_setting.nd rfl (Or.inl rfl))
        (pss_one (ps_expr (pe_call (G_check_tie.mono (by decide)) hr rfl T.check_tie.m T.check_tie.F.kp T.check_tie.b .nil pass1 (pa_cons (pv 3) pa_nil)))))))))), ?_⟩
    refine ⟨_, rfl, _, _, rfl, .inl (SqL.of hx), th.length, (by rw [vI_len] <;> rfl), fun g1 => ?_, fun b => k2 fun z => b z.1⟩
    refine ⟨_, rfl, _, _, rfl, .inl (SqL.of N.h), tss.length, (by rw [List.length_map, N.l] <;> rfl), fun g2 => ?_, fun b => k2 fun z => b z.2.1⟩
    refine ⟨_, rfl, _, rfl, ⟨_, SqL.of hx⟩, for_list (K := K) (a := x) (xs := vI th) (fun i σ H2 => ∃ v1 v2, σ = [some (.ref x), some (.ref y), v1, v2] ∧ H2 = H ∧ ∀ v ∈ th.take i, 0 ≤ v ∧ v < 40) ⟨none, none, rfl, rfl, fun v h => (by simp at h)⟩ (fun i σ H2 _ ⟨_, _, _, e, _⟩ => e ▸ SqL.of hx) ?_ ?_⟩
    · rintro i xv σ H2 hxv ⟨v1, v2, rfl, rfl, hall⟩
      obtain ⟨z, hz, rfl⟩ := vI_got hxv
      refine ⟨_, rfl, z, rfl, fun g => ?_, fun b => k2 fun w => b (w.2.2.1 z (List.mem_of_getElem? hz))⟩
      refine ⟨_, _, rfl, rfl, fun v hv => ?_⟩
      rw [List.take_add_one, hz] at hv
      rcases List.mem_append.mp hv with h | h
      · exact hall v h
      · have e : v = z := by simpa using h
        rw [e]; exact g
    · rintro σ H2 ⟨v1, v2, rfl, rfl, hall⟩
      rw [vI_len, List.take_length] at hall
      refine ⟨_, rfl, _, rfl, ⟨_, SqL.of N.h⟩, for_list (K := K) (a := y) (xs := rs.map V.ref) (fun i σ H3 => ∃ v1 v2, σ = [some (.ref x), some (.ref y), v1, v2] ∧ H3 = H2 ∧ ∀ ks ∈ tss.take i, Rs ks) ⟨v1, v2, rfl, rfl, fun ks h => (by simp at h)⟩ (fun i σ H3 _ ⟨_, _, _, e, _⟩ => e ▸ SqL.of N.h) ?_ ?_⟩
      · rintro i xv σ H3 hxv ⟨v1, v2, rfl, rfl, hall2⟩
        obtain ⟨r, ks, rfl, _, hks, hr'⟩ := N.at hxv
        have hm := List.mem_of_getElem? hks
        refine ⟨_, rfl, r, ks, rfl, hr', bl3 ks hm, fun g => ?_, fun b => k2 fun w => b (w.2.2.2 ks hm)⟩
        refine ⟨_, _, rfl, rfl, fun v hv => ?_⟩
        rw [List.take_add_one, hks] at hv
        rcases List.mem_append.mp hv with h | h
        · exact hall2 v h
        · have e : v = ks := by simpa using h
          rw [e]; exact g
      · rintro σ H3 ⟨v1, v2, rfl, rfl, hall2⟩
        rw [List.length_map, N.l, List.take_length] at hall2
        exact k1 ⟨g1, g2, hall, hall2⟩
def sp_xtreading (t : Adr) : Sp := fun vs H Q E => ∃ (z : Addr) (tr : List Int) (n : Nat), vs = [.ref z, .int (n : Int)] ∧ H z = some (.lst (vI tr)) ∧ tr.length ≤ 1000 ∧ (TrOk tr n → Q .non H) ∧ (¬ TrOk tr n → E (.ref t.e_NoDraft) none H)
theorem okx_check_treading (T : Txt K mg t) : FnOk P w K mg base (CX1 P w) 2 t.f_check_treading t.d_check_treading ["treading", "treadles"] (sp_xtreading t) := by
  have G_check_count : FnOk P w K mg base (CX1 P w) 1 t.f_check_count t.d_check_count _ _ := okx_check_count T
  refine T.check_treading.F.okX sc_check_treading (fun vs H Q E h => ?_) (fun cdv A outer s H vs Q E hr h => ?_)
  · obtain ⟨z, tr, n, rfl, _⟩ := h
    rfl
  · obtain ⟨z, tr, n, rfl, hz, bl, k1, k2⟩ := h
    refine ⟨_, (pss_cons (ps_expr (pe_call (G_check_count.mono (by decide)) hr rfl T.check_count.m T.check_count.F.kp T.check_count.b .nil pass1 (pa_cons (pe_callB (call_len_seqK (K := K)) rfl T.b_len bt_len (pa_cons (pv 0) pa_nil)) pa_nil)))
      (pss_one (ps_fr fun hfr => (ps_for (ownX body1 hfr) rfl (pi_listK (K := K) (pv 0)) (pg_name (i := 2) sc_check_treading.nd rfl (Or.inl rfl))
        (pss_one (ps_if (PW.pt (pw_or (pt_cmpR op_lt (pv 2) pe_int (nomark _)) (pw_or1 (pt_cmpR op_ge (pv 2) (pv 1) (nomark _)))))
          (pss_one (ps_raise body1 rfl (fun _ _ z => z) PySem.F.excBase_ValueError has_ve PySem.F.excBase_ValueError T.x_NoDraft.q rfl T.k_NoDraft (pa_cons pe_str pa_nil)))
          pss_nil)))))), ?_⟩
    refine ⟨_, rfl, _, _, rfl, .inl (SqL.of hz), tr.length, (by rw [vI_len] <;> rfl), fun g1 => ?_, fun b => k2 fun w => b w.1⟩
    refine ⟨_, rfl, _, rfl, ⟨_, SqL.of hz⟩, for_list (K := K) (a := z) (xs := vI tr) (fun i σ H2 => ∃ v1, σ = [some (.ref z), some (.int (n : Int)), v1] ∧ H2 = H ∧ ∀ v ∈ tr.take i, 0 ≤ v ∧ v < (n : Int)) ⟨none, rfl, rfl, fun v h => (by simp at h)⟩ (fun i σ H2 _ ⟨_, _, e, _⟩ => e ▸ SqL.of hz) ?_ ?_⟩
    · rintro i xv σ H2 hxv ⟨v1, rfl, rfl, hall⟩
      obtain ⟨v, hv, rfl⟩ := vI_got hxv
      have hm := List.mem_of_getElem? hv
      refine ⟨_, rfl, _, _, rfl, rfl, _, rfl, ?_⟩
      refine ite2D (fun h => iteT ⟨by decide, k2 fun w => ?_⟩) (fun g3 => ?_)
      · have := w.2 v hm; omega
      refine ⟨_, rfl, _, rfl, _, _, rfl, rfl, _, rfl, ?_⟩
      refine ite2D (fun h => ⟨by decide, k2 fun w => ?_⟩) (fun g4 => ?_)
      · have := w.2 v hm; omega
      refine ⟨_, rfl, rfl, fun y hy => ?_⟩
      rw [List.take_add_one, hv] at hy
      rcases List.mem_append.mp hy with h | h
      · exact hall y h
      · have e : y = v := by simpa using h
        rw [e]; omega
    · rintro σ H2 ⟨v1, rfl, rfl, hall⟩
      rw [vI_len, List.take_length] at hall
      exact k1 ⟨g1, hall⟩
def SameB (r : Addr) (H H' : Hp) : Prop := ∀ b o, b ≠ r → H b = some o → H' b = some o
def df (a b c : Addr) : List (Str × V) := [("threading", .ref a), ("ties", .ref b), ("treading", .ref c)]
theorem df_th (a b c : Addr) : (df a b c).lookup ("threading" : Str) = some (V.ref a) := rfl
theorem df_ti (a b c : Addr) : (df a b c).lookup ("ties" : Str) = some (V.ref b) := rfl
theorem df_tr (a b c : Addr) : (df a b c).lookup ("treading" : Str) = some (V.ref c) := rfl
theorem NL.other {H H' : Hp} {r C dx y : Addr} {fs : List (Str × V)} {rs : List Addr} {tss : List (List Int)} (N : NL H y rs tss) (b : SameB r H H') (hr : H r = some (.ins C dx fs)) : NL H' y rs tss :=
  ⟨b _ _ (fun e => by have := N.h; rw [e, hr] at this; cases this) N.h, N.l, fun i a ks h1 h2 => b _ _ (fun e => by have := N.r i a ks h1 h2; rw [e, hr] at this; cases this) (N.r i a ks h1 h2)⟩
structure IsD (t : Adr) (H : Hp) (d dx a b c : Addr) (qs : List Addr) (th : List Int) (tss : List (List Int)) (tr : List Int) : Prop where
  o : H d = some (.ins t.e_Draft dx (df a b c))
  ha : H a = some (.lst (vI th))
  hb : NL H b qs tss
  hc : H c = some (.lst (vI tr))
theorem IsD.same {H H' : Hp} {d dx a b c : Addr} {qs : List Addr} {th : List Int} {tss : List (List Int)} {tr : List Int} (D : IsD t H d dx a b c qs th tss tr) (s : Same H H') : IsD t H' d dx a b c qs th tss tr := ⟨s _ _ D.o, s _ _ D.ha, D.hb.same s, s _ _ D.hc⟩
def sp_xdinit (t : Adr) : Sp := fun vs H Q E => ∃ (r dx x y z : Addr) (rs : List Addr) (th : List Int) (tss : List (List Int)) (tr : List Int), vs = [.ref r, .ref x, .ref y, .ref z] ∧ H r = some (.ins t.e_Draft dx []) ∧ H x = some (.lst (vI th)) ∧ NL H y rs tss ∧ H z = some (.lst (vI tr)) ∧ Bd3 th tss tr ∧
  (Ft th tss tr → ∀ a b c qs H', SameB r H H' → H a = none → H b = none → H c = none → (∀ q ∈ qs, H q = none) → IsD t H' r dx a b c qs th tss tr → Q .non H') ∧ (¬ Ft th tss tr → E (.ref t.e_NoDraft) none H)
theorem okx_Draft___init__ (T : Txt K mg t) : FnOk P w K mg base (CX1 P w) 4 t.f_Draft___init__ t.d_Draft___init__ ["self", "threading", "ties", "treading"] (sp_xdinit t) := by
  have G_check_setting : FnOk P w K mg base (CX1 P w) 3 t.f_check_setting t.d_check_setting _ _ := okx_check_setting T
  have G_check_treading : FnOk P w K mg base (CX1 P w) 2 t.f_check_treading t.d_check_treading _ _ := okx_check_treading T
  refine T.m_Draft___init__.F.okX sc_Draft___init__ (fun vs H Q E h => ?_) (fun cdv A outer s H vs Q E hr h => ?_)
  · obtain ⟨r, dx, x, y, z, rs, th, tss, tr, rfl, _⟩ := h
    rfl
  · obtain ⟨r, dx, x, y, z, rs, th, tss, tr, rfl, hr1, hx, N, hz, B, kq, kb⟩ := h
    have hsz : sizeLine = 16777216 := sizeLine_eq
    refine ⟨_, (pss_cons (ps_expr (pe_call (G_check_setting.mono (by decide)) hr rfl T.check_setting.m T.check_setting.F.kp T.check_setting.b .nil pass1 (pa_cons (pv 1) (pa_cons (pv 2) pa_nil))))
      (pss_cons (ps_expr (pe_call (G_check_treading.mono (by decide)) hr rfl T.check_treading.m T.check_treading.F.kp T.check_treading.b .nil pass1 (pa_cons (pv 3) (pa_cons (pe_callB (call_len_seqK (K := K)) rfl T.b_len bt_len (pa_cons (pv 2) pa_nil)) pa_nil))))
      (pss_cons (ps_fldK (K := K) (pv 0) (pe_callTy (call_list_ofK (K := K)) rfl T.b_list bt_list (pa_cons (pv 1) pa_nil)))
      (pss_cons (PS.nox (ps_fldK (K := K) (pv 0) (pe_comp (CompOk.mk (caps := []) (Nc := ["tie"]) rfl (by decide +kernel) (by decide +kernel) (comp_fr (sc0 := defScope s_Draft___init__) rfl (by decide +kernel)) rfl rfl rfl (by decide +kernel) (fun _ _ h => by simp at h)) rfl (pi_listK (K := K) (pv 2)) (fun _ _ _ _ _ => .nil) (fun _ _ _ _ _ => (pe_callTy (call_list_ofK (K := K)) rfl T.b_list bt_list (pa_cons (pv 0) pa_nil))))))
      (pss_one (ps_fldK (K := K) (pv 0) (pe_callTy (call_list_ofK (K := K)) rfl T.b_list bt_list (pa_cons (pv 3) pa_nil)))))))), ?_⟩
    refine ⟨_, rfl, _, rfl, x, y, rs, th, tss, rfl, hx, N, B.1, B.2.1, B.2.2.2, fun g1 => ?_, fun b1 => kb fun z => b1 z.set⟩
    refine ⟨_, rfl, _, rfl, _, _, rfl, .inl (SqL.of N.h), z, tr, tss.length, (by rw [List.length_map, N.l] <;> rfl), hz, B.2.2.1, fun g2 => ?_, fun b2 => kb fun z => b2 z.trd⟩
    have F : Ft th tss tr := ft_of g1 g2
    have k := kq F
    refine ⟨_, rfl, _, _, rfl, .inl (SqL.of hx), fun a na => ?_⟩
    have s1 : Same H (upd H a (.lst (vI th))) := .upd na
    have nra : a ≠ r := fun e => by rw [e, hr1] at na; cases na
    refine ⟨_, rfl, _, _, _, _, rfl, s1 _ _ hr1, T.o_Draft.c, T.na_Draft_threading, (by decide), ?_⟩
    generalize hH2 : upd (upd H a (.lst (vI th))) r (.ins t.e_Draft dx (putF "threading" (.ref a) [])) = H2
    have b2 : SameB r H H2 := fun b o nb e => by rw [← hH2, upd_ne nb]; exact s1 _ _ e
    have hr2 : H2 r = some (.ins t.e_Draft dx [("threading", .ref a)]) := by rw [← hH2]; exact upd_same
    have ha2 : H2 a = some (.lst (vI th)) := by rw [← hH2, upd_ne nra]; exact upd_same
    have fre : ∀ q, H2 q = none → H q = none := fun q hq => by
      have nq : q ≠ r := fun e => by rw [e, hr2] at hq; cases hq
      cases e : H q with
      | none => rfl
      | some o => rw [b2 q o nq e] at hq; cases hq
    clear hH2
    have N2 := N.other b2 hr1
    refine ⟨_, rfl, _, rfl, ⟨_, SqL.of N2.h⟩, comp_list (K := K) (a := y) (xs := rs.map V.ref) (fun i ys H3 => Same H2 H3 ∧ ∃ qs : List Addr, ys = qs.map V.ref ∧ qs.length = i ∧ (∀ q ∈ qs, H2 q = none) ∧ ∀ (j : Nat) (q : Addr) (ks : List Int), qs[j]? = some q → tss[j]? = some ks → H3 q = some (.lst (vI ks)))
      ⟨.refl _, [], rfl, rfl, fun q hq => (by cases hq), fun j q ks h => (by simp at h)⟩ ?_ ?_ ?_ ?_⟩
    · rintro i ys H3 hi ⟨s3, qs, rfl, hq, _⟩
      exact ⟨SqL.of (s3 _ _ N2.h), by rw [List.length_map]; omega⟩
    · rw [List.length_map, N.l]; have := F.t40; omega
    · rintro i xv ys H3 hi hxv ⟨s3, qs, rfl, hq, nq, hqs⟩
      obtain ⟨r', ks', rfl, _, hks, hr'⟩ := N2.at hxv
      refine CTurn.no ?_
      refine ⟨_, rfl, _, _, rfl, .inl (SqL.of (s3 _ _ hr')), fun l nl => ?_⟩
      refine CN.of hi ⟨s3.new nl, qs ++ [l], by rw [List.map_append]; rfl, by rw [List.length_append, hq]; rfl, fun q h => ?_, fun j q ks h1 h2 => ?_⟩
      · rcases List.mem_append.mp h with h | h
        · exact nq q h
        · rw [List.mem_singleton.mp h]; exact s3.free nl
      · by_cases hj : j < qs.length
        · rw [List.getElem?_append_left hj] at h1
          exact (Same.upd nl) _ _ (hqs j q ks h1 h2)
        · rw [List.getElem?_append_right (by omega)] at h1
          have e0 : j = i := by
            have := (List.getElem?_eq_some_iff.mp h1).1
            simp at this
            omega
          rw [show j - qs.length = 0 by omega] at h1
          have e1 : l = q := by simpa using h1
          rw [e0, hks] at h2
          cases h2
          rw [← e1]
          exact upd_same
    · rintro ys H3 b ⟨s3, qs, rfl, hq, nq, hqs⟩ nb
      rw [List.length_map, N.l] at hq
      have s4 : Same H2 (upd H3 b (.lst (qs.map V.ref))) := s3.new nb
      have nbr : b ≠ r := fun e => by rw [e, s3 _ _ hr2] at nb; cases nb
      refine ⟨_, rfl, _, _, _, _, rfl, s4 _ _ hr2, T.o_Draft.c, T.na_Draft_ties, (by show 1 < 1000; decide), ?_⟩
      generalize hH5 : upd (upd H3 b (.lst (qs.map V.ref))) r (.ins t.e_Draft dx (putF "ties" (.ref b) [("threading", .ref a)])) = H5
      have b5 : SameB r H2 H5 := fun b' o nb e => by rw [← hH5, upd_ne nb]; exact s4 _ _ e
      have hr5 : H5 r = some (.ins t.e_Draft dx [("threading", .ref a), ("ties", .ref b)]) := by rw [← hH5]; exact upd_same
      have hb5 : H5 b = some (.lst (qs.map V.ref)) := by rw [← hH5, upd_ne nbr]; exact upd_same
      have hq5 : ∀ (j : Nat) (q : Addr) (ks : List Int), qs[j]? = some q → tss[j]? = some ks → H5 q = some (.lst (vI ks)) := fun j q ks h1 h2 => by
        have nqr : q ≠ r := fun e => by have := nq q (List.mem_of_getElem? h1); rw [e, hr2] at this; cases this
        rw [← hH5, upd_ne nqr]
        exact (Same.upd nb) _ _ (hqs j q ks h1 h2)
      clear hH5
      have nzr : z ≠ r := fun e => by rw [e, hr1] at hz; cases hz
      have hz5 : H5 z = some (.lst (vI tr)) := b5 _ _ nzr (b2 _ _ nzr hz)
      refine ⟨_, rfl, _, _, rfl, .inl (SqL.of hz5), fun c nc => ?_⟩
      have s6 : Same H5 (upd H5 c (.lst (vI tr))) := .upd nc
      have ncr : c ≠ r := fun e => by rw [e, hr5] at nc; cases nc
      refine ⟨_, rfl, _, _, _, _, rfl, s6 _ _ hr5, T.o_Draft.c, T.na_Draft_treading, (by show 2 < 1000; decide), ?_⟩
      have f5 : ∀ q, H5 q = none → H q = none := fun q h => fre q (by
        have nqr : q ≠ r := fun e => by rw [e, hr5] at h; cases h
        cases e : H2 q with
        | none => rfl
        | some o => rw [b5 q o nqr e] at h; cases h)
      refine k a b c qs _ (fun b' o nb' e => by rw [upd_ne nb']; exact s6 _ _ (b5 _ _ nb' (b2 _ _ nb' e))) na (fre b (s3.free nb)) (f5 c nc) (fun q h => fre q (nq q h)) ⟨upd_same, ?_, ⟨?_, hq, fun j q ks h1 h2 => ?_⟩, ?_⟩
      · rw [upd_ne nra]; exact s6 _ _ (b5 _ _ nra ha2)
      · rw [upd_ne nbr]; exact s6 _ _ hb5
      · have nqr : q ≠ r := fun e => by have := nq q (List.mem_of_getElem? h1); rw [e, hr2] at this; cases this
        rw [upd_ne nqr]; exact s6 _ _ (hq5 j q ks h1 h2)
      · rw [upd_ne ncr]; exact upd_same
def rf (u : List Nat) (p : Nat) : List (Str × V) := [("text", .str (tx u)), ("place", .int (p : Int))]
def Rd (t : Adr) (H : Hp) (r dx : Addr) (u : List Nat) (p : Nat) : Prop := H r = some (.ins t.e_Reader dx (rf u p)) ∧ p ≤ u.length ∧ u.length ≤ 1000000
theorem rf_text (u : List Nat) (p : Nat) : (rf u p).lookup ("text" : Str) = some (V.str (tx u)) := rfl
theorem rf_place (u : List Nat) (p : Nat) : (rf u p).lookup ("place" : Str) = some (V.int (p : Int)) := rfl
theorem rf_put (u : List Nat) (p q : Nat) : putF "place" (.int (q : Int)) (rf u p) = rf u q := rfl
theorem big {n : Nat} (h : n ≤ 1000000) : n ≤ sizeLine := Nat.le_trans h (by decide)
def sp_ended (t : Adr) : Sp := fun vs H Q _ => ∃ r dx u p, vs = [.ref r] ∧ Rd t H r dx u p ∧ Q (.bl (decide (p = u.length))) H
theorem ok_Reader_ended (T : Txt K mg t) : FnOk P w K mg base CX0 1 t.f_Reader_ended t.d_Reader_ended ["self"] (sp_ended t) := by
  refine T.m_Reader_ended.F.ok sc_Reader_ended (fun vs H Q E h => ?_) (fun cdv A outer s H vs Q E hr h => ?_)
  · obtain ⟨r, dx, u, p, rfl, _⟩ := h
    rfl
  · obtain ⟨r, dx, u, p, rfl, ⟨hr1, hp, hu⟩, k⟩ := h
    refine ⟨_, (pss_one (ps_ret (pe_cmpR op_eq (pe_fldK (K := K) (pv 0) rfl) (pe_callB call_len_str rfl T.b_len bt_len (pa_cons (pe_fldK (K := K) (pv 0) rfl) pa_nil)) (nomark _)))), ?_⟩
    refine ⟨_, rfl, _, _, _, _, _, rfl, hr1, T.o_Reader.c, T.na_Reader_place, rf_place u p, ?_⟩
    refine ⟨_, rfl, _, _, _, _, _, rfl, hr1, T.o_Reader.c, T.na_Reader_text, rf_text u p, ?_⟩
    refine ⟨_, rfl, (by rw [tx_len]; exact big hu), rfl, ?_⟩
    have e : decide (V.int (p : Int) = V.int ((tx u).length : Int)) = decide (p = u.length) := by
      rw [tx_len]
      apply decide_eq_decide.mpr
      constructor
      · intro z; injection z with z; omega
      · intro z; rw [z]
    rw [e]
    exact k
def sp_took (t : Adr) : Sp := fun vs H Q _ => ∃ r dx u p v, vs = [.ref r, .str (tx v)] ∧ Rd t H r dx u p ∧ v.length ≤ 100 ∧
  ((u.drop p).take v.length = v → Q (.bl true) (upd H r (.ins t.e_Reader dx (rf u (p + v.length))))) ∧ ((u.drop p).take v.length ≠ v → Q (.bl false) H)
theorem cut_seg {u : List Nat} {p n : Nat} (h : p ≤ u.length) : cutT u (some (p : Int)) (some ((p : Int) + (n : Int))) = (u.drop p).take n := by
  unfold cutT
  rw [show ((p : Int) + (n : Int)) = ((p + n : Nat) : Int) by omega, HT.sIx_nat, HT.sIx_nat, Nat.min_eq_left h]
  by_cases h2 : p + n ≤ u.length
  · rw [Nat.min_eq_left h2, Nat.add_sub_cancel_left]
  · rw [Nat.min_eq_right (by omega), List.take_of_length_le (by rw [List.length_drop]; omega), List.take_of_length_le (by rw [List.length_drop]; omega)]
theorem ok_Reader_took (T : Txt K mg t) : FnOk P w K mg base CX0 1 t.f_Reader_took t.d_Reader_took ["self", "wanted"] (sp_took t) := by
  refine T.m_Reader_took.F.ok sc_Reader_took (fun vs H Q E h => ?_) (fun cdv A outer s H vs Q E hr h => ?_)
  · obtain ⟨r, dx, u, p, v, rfl, _⟩ := h
    rfl
  · obtain ⟨r, dx, u, p, v, rfl, ⟨hr1, hp, hu⟩, hv, k1, k2⟩ := h
    refine ⟨_, (pss_cons (ps_set (i := 2) sc_Reader_took.nd rfl (Or.inl rfl) (pe_op op_add (pe_fldK (K := K) (pv 0) rfl) (pe_callB call_len_str rfl T.b_len bt_len (pa_cons (pv 1) pa_nil))))
      (pss_cons (ps_if (pt_cmpR op_ne (pe_slice sl_str (pe_fldK (K := K) (pv 0) rfl) (po_some (pe_fldK (K := K) (pv 0) rfl)) (po_some (pv 2))) (pv 1) (nomark _))
        (pss_one (ps_ret pe_bl))
        pss_nil)
      (pss_cons (ps_fldK (K := K) (pv 0) (pv 2))
      (pss_one (ps_ret pe_bl))))), ?_⟩
    refine ⟨_, rfl, _, _, _, _, _, rfl, hr1, T.o_Reader.c, T.na_Reader_place, rf_place u p, _, rfl, _, rfl, (by rw [tx_len]; exact big (by omega)), _, _, rfl, rfl, ?_⟩
    rw [tx_len]
    refine ⟨_, rfl, _, _, _, _, _, rfl, hr1, T.o_Reader.c, T.na_Reader_text, rf_text u p, ?_⟩
    refine ⟨_, rfl, _, _, _, _, _, rfl, hr1, T.o_Reader.c, T.na_Reader_place, rf_place u p, _, rfl, _, rfl, _, rfl, u, rfl, big hu, _, rfl, rfl, _, rfl, ?_⟩
    rw [cut_seg hp]
    by_cases hc : (u.drop p).take v.length = v
    · refine iteNS (by rw [hc]) ?_
      refine ⟨_, rfl, _, rfl, _, _, _, _, rfl, hr1, T.o_Reader.c, T.na_Reader_place, (by show 2 < 1000; decide), ?_⟩
      show Q (.bl true) (upd H r (.ins t.e_Reader dx (putF ("place" : Str) (.int ((p : Int) + (v.length : Int))) (rf u p))))
      rw [show ((p : Int) + (v.length : Int)) = ((p + v.length : Nat) : Int) by omega, rf_put]
      exact k1 hc
    · refine iteNp (fun z => hc (by injection z with z; exact tx_inj z)) ?_
      exact k2 hc
def dg (c : Nat) : Bool := decide (48 ≤ c ∧ c ≤ 57)
def figs (l : List Nat) : List Nat := l.takeWhile dg
def numV (v : List Nat) : V := if (1 ≤ v.length ∧ v.length ≤ 2) ∧ ¬ (v.length = 2 ∧ v[0]? = some 48) then .int ((PySem.NumText.digitsVal v : Nat) : Int) else .non
theorem figs_eq : ∀ (l : List Nat) (n : Nat), n ≤ l.length → (∀ c ∈ l.take n, dg c = true) → (∀ c, l[n]? = some c → dg c = false) → figs l = l.take n
  | [], n, h, _, _ => by simp [figs]
  | c :: l, 0, _, _, h2 => by
    unfold figs
    rw [List.takeWhile_cons, h2 c rfl]
    rfl
  | c :: l, n + 1, h, h1, h2 => by
    have hc : dg c = true := h1 c (by simp)
    have := figs_eq l n (by simpa using h) (fun d hd => h1 d (by rw [List.take_succ_cons]; exact List.mem_cons_of_mem _ hd)) (fun d hd => h2 d (by simpa using hd))
    unfold figs at this ⊢
    rw [List.takeWhile_cons, if_pos hc, this, List.take_succ_cons]
theorem figs_dg {l : List Nat} : ∀ c ∈ figs l, 48 ≤ c ∧ c ≤ 57 := fun c hc => by
  have h : dg c = true := by
    unfold figs at hc
    induction l with
    | nil => simp at hc
    | cons a l ih =>
      rw [List.takeWhile_cons] at hc
      split at hc
      next ha =>
        rcases List.mem_cons.mp hc with e | e
        · rw [e]; exact ha
        · exact ih e
      next => simp at hc
  exact of_decide_eq_true h
theorem upd_self {H : Hp} {r : Addr} {o : HO} (h : H r = some o) : upd H r o = H := by
  funext b
  unfold upd
  split
  next e => rw [e, h]
  next => rfl
theorem z48 (c : Nat) : (V.str ⟨#[c]⟩ : V) = V.str "0" ↔ c = 48 := by
  have e : (("0" : Str)) = tx [48] := by decide +kernel
  rw [e]
  exact ⟨fun z => by injection z with z; exact (List.cons.inj (tx_inj (a := [c]) (b := [48]) z)).1, fun z => by rw [z]; rfl⟩
def sp_numof : Sp := fun vs H Q _ => ∃ v : List Nat, vs = [.str (tx v)] ∧ (∀ c ∈ v, 48 ≤ c ∧ c ≤ 57) ∧ v.length ≤ 1000000 ∧ Q (numV v) H
theorem ok_number_of (T : Txt K mg t) : FnOk P w K mg base CX0 1 t.f_number_of t.d_number_of ["figures"] sp_numof := by
  refine T.number_of.F.ok sc_number_of (fun vs H Q E h => ?_) (fun cdv A outer s H vs Q E hr h => ?_)
  · obtain ⟨v, rfl, _⟩ := h
    rfl
  · obtain ⟨v, rfl, hd, hl, k⟩ := h
    have sz : (tx v).length ≤ sizeLine := by rw [tx_len]; exact big hl
    refine ⟨_, (pss_cons (ps_if (PW.pt (pw_or (pt_cmpR op_lt (pe_callB call_len_str rfl T.b_len bt_len (pa_cons (pv 0) pa_nil)) pe_int (nomark _)) (pw_or1 (pt_cmpR op_gt (pe_callB call_len_str rfl T.b_len bt_len (pa_cons (pv 0) pa_nil)) pe_int (nomark _)))))
        (pss_one (ps_ret pe_non))
        pss_nil)
      (pss_cons (ps_if (PW.pt (pw_and (pt_cmpR op_eq (pe_callB call_len_str rfl T.b_len bt_len (pa_cons (pv 0) pa_nil)) pe_int (nomark _)) (pw_and1 (pt_cmpR op_eq (pe_ix ix_str (pv 0) pe_int (fun _ _ => rfl)) pe_str (nomark _)))))
        (pss_one (ps_ret pe_non))
        pss_nil)
      (pss_one (ps_ret (pe_callTy call_intT rfl T.b_int bt_int (pa_cons (pv 0) pa_nil)))))), ?_⟩
    unfold numV at k
    refine ⟨_, rfl, _, rfl, sz, _, _, rfl, rfl, _, rfl, ?_⟩
    rw [tx_len]
    refine ite2D (fun c1 => ?_) (fun c1 => ?_)
    · refine iteT ?_
      rw [if_neg (by omega)] at k
      exact k
    · refine ⟨_, rfl, _, rfl, sz, _, _, rfl, rfl, _, rfl, ?_⟩
      rw [tx_len]
      refine ite2D (fun c2 => ?_) (fun c2 => ?_)
      · rw [if_neg (by omega)] at k
        exact k
      · refine ⟨_, rfl, _, rfl, sz, rfl, _, rfl, ?_⟩
        rw [tx_len]
        have fin : ¬ (v.length = 2 ∧ v[0]? = some 48) → ∃ z n, [V.str (tx v)] = [V.str z] ∧ PySem.intText? z = some n ∧ z.length ≤ 640 ∧ Q (.int n) H := fun c3 => by
          rw [if_pos ⟨by omega, c3⟩] at k
          refine ⟨tx v, _, rfl, PySem.intText_digits (x := tx v) (by rw [tx_list]; exact hd) (by rw [tx_list]; intro z; rw [z] at c1; simp at c1) (by rw [tx_len]; omega), by rw [tx_len]; omega, ?_⟩
          rw [tx_list]
          exact k
        refine ite2D (fun c3 => ?_) (fun c3 => ?_)
        · have l2 : v.length = 2 := by injection c3 with c3; omega
          have h0 : 0 < v.length := by omega
          refine ⟨_, rfl, _, _, v[0], rfl, rfl, sz, atI_of (by decide) (by rw [tx_list]; exact List.getElem?_eq_getElem h0), rfl, _, rfl, ?_⟩
          refine ite2D (fun c4 => ?_) (fun c4 => ?_)
          · rw [if_neg (fun z => z.2 ⟨l2, by rw [List.getElem?_eq_getElem h0, (z48 _).mp c4]⟩)] at k
            exact k
          · exact ⟨_, rfl, fin fun z => c4 ((z48 _).mpr (by have := z.2; rw [List.getElem?_eq_getElem h0] at this; exact Option.some.inj this))⟩
        · exact iteF ⟨_, rfl, fin fun z => c3 (by rw [z.1]; rfl)⟩
theorem rf_meth (u : List Nat) (p : Nat) : (rf u p).lookup ("ended" : Str) = none ∧ (rf u p).lookup ("took" : Str) = none ∧ (rf u p).lookup ("number" : Str) = none ∧ (rf u p).lookup ("stretch" : Str) = none := ⟨rfl, rfl, rfl, rfl⟩
def sp_init : Sp := fun vs H Q _ => ∃ (C r dx : Addr) (u : List Nat), vs = [.ref r, .str (tx u)] ∧ H r = some (.ins C dx []) ∧ Q .non (upd H r (.ins C dx (rf u 0)))
theorem ok_Reader___init__ (T : Txt K mg t) : FnOk P w K mg base CX0 1 t.f_Reader___init__ t.d_Reader___init__ ["self", "text"] (fun vs H Q E => ∃ (r dx : Addr) (u : List Nat), vs = [.ref r, .str (tx u)] ∧ H r = some (.ins t.e_Reader dx []) ∧ Q .non (upd H r (.ins t.e_Reader dx (rf u 0)))) := by
  refine T.m_Reader___init__.F.ok sc_Reader___init__ (fun vs H Q E h => ?_) (fun cdv A outer s H vs Q E hr h => ?_)
  · obtain ⟨r, dx, u, rfl, _⟩ := h
    rfl
  · obtain ⟨r, dx, u, rfl, h1, k⟩ := h
    refine ⟨_, (pss_cons (ps_fldK (K := K) (pv 0) (pv 1))
      (pss_one (ps_fldK (K := K) (pv 0) pe_int))), ?_⟩
    refine ⟨_, rfl, _, rfl, _, _, _, _, rfl, h1, T.o_Reader.c, T.na_Reader_text, (by decide), ?_⟩
    refine ⟨_, rfl, _, _, _, _, rfl, upd_same, T.o_Reader.c, T.na_Reader_place, (by show 1 < 1000; decide), ?_⟩
    rw [upd_upd]
    exact k
def sp_stretch (t : Adr) : Sp := fun vs H Q _ => ∃ r dx u p, vs = [.ref r, .str "0123456789"] ∧ Rd t H r dx u p ∧ Q (.str (tx (figs (u.drop p)))) (upd H r (.ins t.e_Reader dx (rf u (p + (figs (u.drop p)).length))))
theorem ok_Reader_stretch (T : Txt K mg t) : FnOk P w K mg base CX0 2 t.f_Reader_stretch t.d_Reader_stretch ["self", "signs"] (sp_stretch t) := by
  have G_Reader_ended : FnOk P w K mg base CX0 1 t.f_Reader_ended t.d_Reader_ended _ _ := ok_Reader_ended T
  refine T.m_Reader_stretch.F.ok sc_Reader_stretch (fun vs H Q E h => ?_) (fun cdv A outer s H vs Q E hr h => ?_)
  · obtain ⟨r, dx, u, p, rfl, _⟩ := h
    rfl
  · obtain ⟨r, dx, u, p, rfl, ⟨hr1, hp, hu⟩, k⟩ := h
    refine ⟨_, (pss_cons (ps_set (i := 2) sc_Reader_stretch.nd rfl (Or.inl rfl) (pe_fldK (K := K) (pv 0) rfl))
      (pss_cons (ps_while PassesOwn.never (PW.pt (pw_and (pt_not (pt_val (pe_meth0 (pv 0) T.o_Reader.c T.m_Reader_ended.m (G_Reader_ended.mono (by decide)) hr T.m_Reader_ended.b .nil pass0))) (pw_and1 (pt_cmpR op_in_str (pe_ix ix_str (pe_fldK (K := K) (pv 0) rfl) (pe_fldK (K := K) (pv 0) rfl) (fun _ _ => rfl)) (pv 1) rfl))))
        (pss_one (ps_fldaugK (K := K) (pv 0) pe_int in_add)))
      (pss_one (ps_ret (pe_slice sl_str (pe_fldK (K := K) (pv 0) rfl) (po_some (pv 2)) (po_some (pe_fldK (K := K) (pv 0) rfl))))))), ?_⟩
    refine ⟨_, rfl, _, _, _, _, _, rfl, hr1, T.o_Reader.c, T.na_Reader_place, rf_place u p, ?_⟩
    refine ⟨fun m σ H2 => ∃ n, σ = [some (.ref r), some (.str "0123456789"), some (.int (p : Int))] ∧ H2 = upd H r (.ins t.e_Reader dx (rf u (p + n))) ∧ p + n ≤ u.length ∧ (∀ c ∈ (u.drop p).take n, dg c = true) ∧ m = u.length - (p + n),
      ⟨_, 0, rfl, (upd_self hr1).symm, hp, (fun c hc => by simp at hc), rfl⟩, ?_⟩
    rintro m σ H2 ⟨n, rfl, rfl, hn, ha, rfl⟩
    have hS : (upd H r (.ins t.e_Reader dx (rf u (p + n)))) r = some (.ins t.e_Reader dx (rf u (p + n))) := upd_same
    have done : (∀ c, (u.drop p)[n]? = some c → dg c = false) → (u.drop p).take n = figs (u.drop p) := fun hs => (figs_eq _ n (by rw [List.length_drop]; omega) ha hs).symm
    have ln : ((u.drop p).take n).length = n := by rw [List.length_take, List.length_drop]; omega
    have e3 : cutT u (some (p : Int)) (some ((p + n : Nat) : Int)) = (u.drop p).take n := by rw [Int.natCast_add]; exact cut_seg hp
    have fin : (u.drop p).take n = figs (u.drop p) → Q (.str (tx (cutT u (some (p : Int)) (some ((p + n : Nat) : Int))))) (upd H r (.ins t.e_Reader dx (rf u (p + n)))) := fun e2 => by
      have e1 : (figs (u.drop p)).length = n := by rw [← e2, ln]
      rw [e3, e2]; rw [e1] at k; exact k
    refine ⟨_, rfl, r, dx, rf u (p + n), rfl, hS, (rf_meth u _).1, r, dx, u, p + n, rfl, ⟨hS, hn, hu⟩, _, rfl, ?_⟩
    by_cases c1 : p + n = u.length
    · rw [decide_eq_true c1]
      refine iteF ?_
      refine iteF ?_
      exact ⟨_, rfl, _, _, _, _, _, rfl, hS, T.o_Reader.c, T.na_Reader_text, rf_text u _, _, rfl, _, rfl, _, rfl, _, _, _, _, _, rfl, hS, T.o_Reader.c, T.na_Reader_place, rf_place u _, _, rfl, u, rfl, big hu,
        fin (done fun c hc => by rw [List.getElem?_eq_none (by rw [List.length_drop]; omega)] at hc; cases hc)⟩
    · rw [decide_eq_false c1]
      refine iteT ?_
      have hlt : p + n < u.length := by omega
      refine ⟨_, rfl, _, _, _, _, _, rfl, hS, T.o_Reader.c, T.na_Reader_text, rf_text u _, _, rfl, _, _, _, _, _, rfl, hS, T.o_Reader.c, T.na_Reader_place, rf_place u _, _, _, u[p + n], rfl, rfl, (by rw [tx_len]; exact big hu),
        atI_of (by omega) (by rw [Int.toNat_natCast, tx_list]; exact List.getElem?_eq_getElem hlt), _, rfl, _, _, rfl, rfl, _, rfl, ?_⟩
      rw [in_figs]
      refine ite2D (fun c2 => ?_) (fun c2 => ?_)
      · refine ⟨_, fun σ' H' h => h, ?_⟩
        refine ⟨_, rfl, _, _, _, _, _, rfl, hS, T.o_Reader.c, T.na_Reader_place, rf_place u _, _, _, rfl, rfl, dx, rf u (p + n), hS, (by show 2 < 1000; decide), ?_⟩
        refine ⟨u.length - (p + (n + 1)), by omega, n + 1, rfl, ?_, by omega, fun c hc => ?_, rfl⟩
        · rw [upd_upd]
          rfl
        · rw [List.take_add_one, List.getElem?_drop, List.getElem?_eq_getElem hlt] at hc
          rcases List.mem_append.mp hc with h | h
          · exact ha c h
          · rw [show c = u[p + n] by simpa using h]
            exact decide_eq_true c2
      · exact ⟨_, rfl, _, _, _, _, _, rfl, hS, T.o_Reader.c, T.na_Reader_text, rf_text u _, _, rfl, _, rfl, _, rfl, _, _, _, _, _, rfl, hS, T.o_Reader.c, T.na_Reader_place, rf_place u _, _, rfl, u, rfl, big hu,
          fin (done fun c hc => by rw [List.getElem?_drop, List.getElem?_eq_getElem hlt] at hc; cases hc; exact decide_eq_false c2)⟩
theorem figs_all : ∀ (l : List Nat), (∀ c ∈ figs l, dg c = true) ∧ (figs l).length ≤ l.length
  | [] => ⟨fun c hc => (by cases hc), Nat.le_refl _⟩
  | a :: l => by
    have ih := figs_all l
    unfold figs at ih ⊢
    rw [List.takeWhile_cons]
    by_cases h : dg a = true
    · rw [if_pos h]
      refine ⟨fun c hc => ?_, by simp only [List.length_cons]; omega⟩
      rcases List.mem_cons.mp hc with e | e
      · rw [e]; exact h
      · exact ih.1 c e
    · rw [if_neg h]
      exact ⟨fun c hc => (by cases hc), Nat.zero_le _⟩
def sp_number (t : Adr) : Sp := fun vs H Q _ => ∃ r dx u p, vs = [.ref r] ∧ Rd t H r dx u p ∧ Q (numV (figs (u.drop p))) (upd H r (.ins t.e_Reader dx (rf u (p + (figs (u.drop p)).length))))
theorem ok_Reader_number (T : Txt K mg t) : FnOk P w K mg base CX0 3 t.f_Reader_number t.d_Reader_number ["self"] (sp_number t) := by
  have G_Reader_stretch : FnOk P w K mg base CX0 2 t.f_Reader_stretch t.d_Reader_stretch _ _ := ok_Reader_stretch T
  have G_number_of : FnOk P w K mg base CX0 1 t.f_number_of t.d_number_of _ _ := ok_number_of T
  refine T.m_Reader_number.F.ok sc_Reader_number (fun vs H Q E h => ?_) (fun cdv A outer s H vs Q E hr h => ?_)
  · obtain ⟨r, dx, u, p, rfl, _⟩ := h
    rfl
  · obtain ⟨r, dx, u, p, rfl, hR, k⟩ := h
    refine ⟨_, (pss_one (ps_ret (pe_call (G_number_of.mono (by decide)) hr rfl T.number_of.m T.number_of.F.kp T.number_of.b .nil pass0 (pa_cons (pe_meth (pv 0) T.o_Reader.c T.m_Reader_stretch.m (G_Reader_stretch.mono (by decide)) hr T.m_Reader_stretch.b .nil pass0 (pa_cons (pe_glob (v := .str "0123456789") rfl T.c_FIGURES.choose_spec ⟨_, rfl⟩) pa_nil)) pa_nil)))), ?_⟩
    have hf := figs_all (u.drop p)
    refine ⟨_, rfl, r, dx, rf u p, rfl, hR.1, (rf_meth u p).2.2.2, r, dx, u, p, rfl, hR, ?_⟩
    exact ⟨_, rfl, fun c hc => of_decide_eq_true (hf.1 c hc), by have := hR.2.2; have := hf.2; rw [List.length_drop] at this; omega, k⟩
end
def stps (a b : Int) : List Int := if a < b then rngL (a + 1) 1 (b - a).toNat else rngL (a - 1) (-1) (a - b).toNat
def absI (z : Int) : Int := if z < 0 then -z else z
def go (a : Int) : List Int → List Int
  | [] => []
  | b :: r => stps a b ++ go b r
def pnum : List Int → List Int
  | [] => []
  | s :: r => s :: go s r
def lst (a : Int) : List Int → Int
  | [] => a
  | b :: r => lst b r
theorem go_snoc : ∀ (a : Int) (r : List Int) (b : Int), go a (r ++ [b]) = go a r ++ stps (lst a r) b
  | a, [], b => by simp [go, lst]
  | a, c :: r, b => by rw [List.cons_append, go, go_snoc c r b, go, lst, List.append_assoc]
theorem lst_snoc : ∀ (a : Int) (r : List Int) (b : Int), lst a (r ++ [b]) = b
  | a, [], b => rfl
  | a, c :: r, b => by rw [List.cons_append, lst, lst_snoc c r b]
theorem rngL_len (a c : Int) (n : Nat) : (rngL a c n).length = n := by unfold rngL; rw [List.length_map, List.length_range]
theorem stps_len (a b : Int) : ((stps a b).length : Int) = absI (b - a) := by
  unfold stps absI
  split
  · rw [rngL_len, if_neg (by omega)]; omega
  · rw [rngL_len]
    split <;> omega
theorem rngL_get {a c : Int} {n i : Nat} (h : i < n) : (rngL a c n)[i]? = some (a + (i : Int) * c) := by
  unfold rngL
  rw [List.getElem?_map, List.getElem?_range h]
  rfl
theorem stps_get {a b : Int} {q : Nat} (h1 : 1 ≤ q) (h2 : (q : Int) ≤ absI (b - a)) : (stps a b)[q - 1]? = some (a + (if b - a < 0 then -1 else 1) * (q : Int)) := by
  unfold stps
  unfold absI at h2
  by_cases c : a < b
  · rw [if_pos c, rngL_get (by rw [if_neg (by omega)] at h2; omega), if_neg (by omega)]
    congr 1
    omega
  · rw [if_neg c]
    by_cases d : b - a < 0
    · rw [if_pos d] at h2 ⊢
      rw [rngL_get (by omega)]
      congr 1
      omega
    · rw [if_neg d] at h2
      omega
theorem getLast_app_ne {l r : List Int} (h : r ≠ []) : (l ++ r).getLast? = r.getLast? := by
  rw [List.getLast?_append]
  cases e : r.getLast? with
  | none => exact absurd (List.getLast?_eq_none_iff.mp e) h
  | some z => rfl
theorem stps_last {a b : Int} (h : a ≠ b) : (stps a b).getLast? = some b := by
  have hl := stps_len a b
  have pos : 0 < (stps a b).length := by unfold absI at hl; split at hl <;> omega
  rw [List.getLast?_eq_getElem?]
  have e := stps_get (a := a) (b := b) (q := (stps a b).length) pos (by omega)
  rw [e]
  congr 1
  rw [hl]
  unfold absI
  split <;> omega
theorem stps_nil (a : Int) : stps a a = [] := by
  have := stps_len a a
  unfold absI at this
  have h : (stps a a).length = 0 := by split at this <;> omega
  exact List.eq_nil_of_length_eq_zero h
theorem go_last : ∀ (l : List Int) (a : Int) (r : List Int), l.getLast? = some a → (l ++ go a r).getLast? = some (lst a r)
  | l, a, [], h => by simpa [go, lst] using h
  | l, a, b :: r, h => by
    rw [go, lst, ← List.append_assoc]
    refine go_last _ b r ?_
    by_cases e : a = b
    · rw [e, stps_nil, List.append_nil, ← e]; exact h
    · rw [getLast_app_ne (fun z => by have := stps_last e; rw [z] at this; cases this)]
      exact stps_last e
theorem pnum_last (s : Int) (r : List Int) : (s :: go s r).getLast? = some (lst s r) := go_last [s] s r rfl
section
variable {P : Program} {w : World} {K : PySem.W.Frag} {mg : Str → Option Value} {base : Heap} {t : Adr}
theorem fits {z : Int} (h : z.natAbs ≤ 1000000) : Builtin.Range.rangeFitsLong z = true := by
  unfold Builtin.Range.rangeFitsLong
  simp only [Bool.and_eq_true, decide_eq_true_eq]
  omega
def sp_steps : Sp := fun vs H Q _ => ∃ (a b : Int), vs = [.int a, .int b] ∧ a.natAbs ≤ 400 ∧ b.natAbs ≤ 400 ∧ ∀ l H', Same H H' → H l = none → H' l = some (.lst (vI (stps a b))) → Q (.ref l) H'
theorem ok_steps_between (T : Txt K mg t) : FnOk P w K mg base CX0 1 t.f_steps_between t.d_steps_between ["start", "stop"] sp_steps := by
  refine T.steps_between.F.ok sc_steps_between (fun vs H Q E h => ?_) (fun cdv A outer s H vs Q E hr h => ?_)
  · obtain ⟨a, b, rfl, _⟩ := h
    rfl
  · obtain ⟨a, b, rfl, ha, hb, k⟩ := h
    refine ⟨_, (pss_cons (ps_if (pt_cmpR op_lt (pv 0) (pv 1) (nomark _))
        (pss_one (ps_ret (pe_callTy call_listR rfl T.b_list bt_list (pa_cons (pe_callTy call_rng2 rfl T.b_range bt_range (pa_cons (pe_op op_add (pv 0) pe_int) (pa_cons (pe_op op_add (pv 1) pe_int) pa_nil))) pa_nil))))
        pss_nil)
      (pss_one (ps_ret (pe_callTy call_listR rfl T.b_list bt_list (pa_cons (pe_callTy call_rng3 rfl T.b_range bt_range (pa_cons (pe_op op_sub (pv 0) pe_int) (pa_cons (pe_op op_sub (pv 1) pe_int) (pa_cons (pe_un un_neg pe_int) pa_nil)))) pa_nil))))), ?_⟩
    refine ⟨_, rfl, _, rfl, _, _, rfl, rfl, _, rfl, ?_⟩
    refine ite2D (fun c1 => ?_) (fun c1 => ?_)
    · refine ⟨_, rfl, _, _, rfl, rfl, _, rfl, _, _, rfl, rfl, _, _, rfl, fun p hp => ?_⟩
      have rs : Builtin.Range.rangeSize (a + 1) (b + 1) 1 = ((b - a).toNat : Int) := by
        unfold Builtin.Range.rangeSize
        rw [if_pos (by decide), if_pos (by omega), Int.ediv_one]
        omega
      refine ⟨p, a + 1, b + 1, 1, (b - a).toNat, rfl, upd_same, ?_, rs, by omega, fun l hl => ?_⟩
      · unfold Builtin.Range.small
        rw [rs, fits (by omega), fits (by omega), fits (by omega), fits (by omega)]
        simp only [show (1 : Int) > 0 by decide, if_true, Bool.true_and, Bool.or_eq_true]
        exact .inr (fits (by omega))
      · have : stps a b = rngL (a + 1) 1 (b - a).toNat := if_pos c1
        rw [← this]
        exact k l _ ((Same.upd hp).new hl) ((Same.upd hp).free hl) upd_same
    · refine ⟨_, rfl, _, _, rfl, rfl, _, rfl, _, _, rfl, rfl, _, rfl, _, _, _, rfl, (by decide), (by decide), fun p hp => ?_⟩
      have rs : Builtin.Range.rangeSize (a - 1) (b - 1) (-1) = ((a - b).toNat : Int) := by
        unfold Builtin.Range.rangeSize
        rw [if_neg (by decide)]
        by_cases c2 : a - 1 > b - 1
        · rw [if_pos c2, show -(-1 : Int) = 1 by decide, Int.ediv_one]
          omega
        · rw [if_neg c2]
          omega
      refine ⟨p, a - 1, b - 1, -1, (a - b).toNat, rfl, upd_same, ?_, rs, by omega, fun l hl => ?_⟩
      · unfold Builtin.Range.small
        rw [rs, fits (by omega), fits (by omega), fits (by decide), fits (by omega)]
        simp only [show ¬ ((-1 : Int) > 0) by decide, if_false, Bool.true_and, Bool.or_eq_true]
        exact .inr (fits (by omega))
      · have : stps a b = rngL (a - 1) (-1) (a - b).toNat := if_neg c1
        rw [← this]
        exact k l _ ((Same.upd hp).new hl) ((Same.upd hp).free hl) upd_same
def pf (l : Addr) : List (Str × V) := [("stops", .ref l)]
theorem pf_at (l : Addr) : (pf l).lookup ("stops" : Str) = some (V.ref l) := rfl
theorem ok_Path___init__ (T : Txt K mg t) : FnOk P w K mg base CX0 1 t.f_Path___init__ t.d_Path___init__ ["self", "stops"] (fun vs H Q E => ∃ (r dx l : Addr), vs = [.ref r, .ref l] ∧ H r = some (.ins t.e_Path dx []) ∧ Q .non (upd H r (.ins t.e_Path dx (pf l)))) := by
  refine T.m_Path___init__.F.ok sc_Path___init__ (fun vs H Q E h => ?_) (fun cdv A outer s H vs Q E hr h => ?_)
  · obtain ⟨r, dx, l, rfl, _⟩ := h
    rfl
  · obtain ⟨r, dx, l, rfl, h1, k⟩ := h
    refine ⟨_, (pss_one (ps_fldK (K := K) (pv 0) (pv 1))), ?_⟩
    exact ⟨_, rfl, _, rfl, _, _, _, _, rfl, h1, T.o_Path.c, T.na_Path_stops, (by decide), k⟩
def dst (ss : List Int) (k : Nat) : Int := absI (ss.getD (k + 1) 0 - ss.getD k 0)
def szTo (ss : List Int) (k : Nat) : Int := 1 + ((List.range k).map (dst ss)).sum
theorem szTo_succ (ss : List Int) (k : Nat) : szTo ss (k + 1) = szTo ss k + dst ss k := by
  unfold szTo
  rw [List.range_succ, List.map_append, List.sum_append]
  simp
  omega
theorem vI_at {ks : List Int} {i : Int} (h0 : 0 ≤ i) (h : i.toNat < ks.length) : atI (vI ks) i = some (.int (ks.getD i.toNat 0)) := atI_of h0 (by
  rw [vI_get (List.getElem?_eq_getElem h)]
  simp [List.getD, h])
structure IsP (t : Adr) (H : Hp) (a dx l : Addr) (ss : List Int) : Prop where
  o : H a = some (.ins t.e_Path dx (pf l))
  l : H l = some (.lst (vI ss))
  ne : 1 ≤ ss.length
  le : ss.length ≤ 6000
def sp_psize (t : Adr) : Sp := fun vs H Q _ => ∃ (a dx l : Addr) (ss : List Int), vs = [.ref a] ∧ IsP t H a dx l ss ∧ Q (.int (szTo ss (ss.length - 1))) H
theorem ok_Path_size (T : Txt K mg t) : FnOk P w K mg base CX0 1 t.f_Path_size t.d_Path_size ["self"] (sp_psize t) := by
  refine T.m_Path_size.F.ok sc_Path_size (fun vs H Q E h => ?_) (fun cdv A outer s H vs Q E hr h => ?_)
  · obtain ⟨a, dx, l, ss, rfl, _⟩ := h
    rfl
  · obtain ⟨a, dx, l, ss, rfl, hP, k⟩ := h
    have ne := hP.ne
    have le := hP.le
    refine ⟨_, (pss_cons (ps_set (i := 1) sc_Path_size.nd rfl (Or.inl rfl) pe_int)
      (pss_cons (ps_for PassesOwn.never rfl (pi_range2 rfl T.b_range (pa_cons pe_int (pa_cons (pe_callB (call_len_seqK (K := K)) rfl T.b_len bt_len (pa_cons (pe_fldK (K := K) (pv 0) rfl) pa_nil)) pa_nil))) (pg_name (i := 2) sc_Path_size.nd rfl (Or.inl rfl))
        (pss_one (ps_aug (i := 1) sc_Path_size.nd rfl (Or.inl rfl) (pe_callB call_abs rfl T.b_abs bt_abs (pa_cons (pe_op op_sub (pe_ix (ix_listK (K := K)) (pe_fldK (K := K) (pv 0) rfl) (pv 2) (fun _ _ => rfl)) (pe_ix (ix_listK (K := K)) (pe_fldK (K := K) (pv 0) rfl) (pe_op op_sub (pv 2) pe_int) (fun _ _ => rfl))) pa_nil)) ip_add)))
      (pss_one (ps_ret (pv 1))))), ?_⟩
    refine ⟨_, rfl, _, _, _, _, _, rfl, hP.o, T.o_Path.c, T.na_Path_stops, pf_at l, _, _, rfl, .inl (SqL.of hP.l), _, _, rfl, ⟨by decide, by decide, by rw [vI_len]; omega, by rw [vI_len]; omega⟩, ?_⟩
    rw [vI_len]
    refine for_range (lo := 1) (n := ((ss.length : Int) - 1).toNat) (fun i σ H2 => ∃ v, σ = [some (.ref a), some (.int (szTo ss i)), v] ∧ H2 = H) ⟨none, rfl, rfl⟩ ?_ ?_
    · rintro i σ H2 hi ⟨v, rfl, rfl⟩
      have e1 := vI_at (ks := ss) (i := 1 + (i : Int)) (by omega) (by omega)
      have e2 := vI_at (ks := ss) (i := 1 + (i : Int) - 1) (by omega) (by omega)
      rw [show (1 + (i : Int)).toNat = i + 1 by omega] at e1
      rw [show (1 + (i : Int) - 1).toNat = i by omega] at e2
      refine ⟨_, rfl, _, rfl, _, _, _, _, _, rfl, hP.o, T.o_Path.c, T.na_Path_stops, pf_at l, _, rfl, _, _, _, _, rfl, rfl, SqL.of hP.l, e1, ?_⟩
      refine ⟨_, rfl, _, _, _, _, _, rfl, hP.o, T.o_Path.c, T.na_Path_stops, pf_at l, _, rfl, _, _, rfl, rfl, _, _, _, _, rfl, rfl, SqL.of hP.l, e2, _, _, rfl, rfl, _, rfl, _, _, rfl, rfl, ?_⟩
      exact ⟨some (.int (1 + (i : Int))), by rw [szTo_succ]; rfl, rfl⟩
    · rintro σ H2 ⟨v, rfl, rfl⟩
      refine ⟨_, rfl, ?_⟩
      rw [show ((ss.length : Int) - 1).toNat = ss.length - 1 by omega]
      exact k
theorem atI_last {ks : List Int} {z : Int} (h : ks.getLast? = some z) : atI (vI ks) (-1) = some (.int z) := by
  have hne : 0 < ks.length := by
    cases ks with
    | nil => cases h
    | cons a l => exact Nat.succ_pos _
  rw [List.getLast?_eq_getElem?] at h
  unfold atI ixN
  rw [if_neg (by decide), vI_len]
  rw [if_pos (by omega)]
  have : ((ks.length : Int) + -1).toNat = ks.length - 1 := by omega
  show (some _).bind _ = _
  rw [Option.bind_some]
  first
    | (rw [this]; exact vI_get h)
    | (rw [show (-1 + (ks.length : Int)).toNat = ks.length - 1 by omega]; exact vI_get h)
theorem len_go : ∀ (ss : List Int) (i : Nat), i + 1 ≤ ss.length → ((pnum (ss.take (i + 1))).length : Int) = szTo ss i := by
  intro ss i
  induction i with
  | zero =>
    intro h
    cases ss with
    | nil => simp at h
    | cons s r => simp [pnum, go, szTo]
  | succ i ih =>
    intro h
    have hlt : i + 1 < ss.length := by omega
    have e := ih (by omega)
    rw [szTo_succ, ← e]
    cases ss with
    | nil => simp at h
    | cons s r =>
      have hr : i < r.length := by simpa using hlt
      rw [List.take_succ_cons, List.take_succ_cons, List.take_add_one, List.getElem?_eq_getElem hr]
      show ((pnum (s :: (r.take i ++ [r[i]]))).length : Int) = _
      rw [pnum, go_snoc, pnum, List.length_cons, List.length_append, List.length_cons]
      have d : ((stps (lst s (r.take i)) r[i]).length : Int) = dst (s :: r) i := by
        rw [stps_len]
        unfold dst
        have e1 : (s :: r).getD (i + 1) 0 = r[i] := by simp [List.getD, hr]
        have e2 : (s :: r).getD i 0 = lst s (r.take i) := by
          cases i with
          | zero => simp [lst]
          | succ j =>
            have hj : j < r.length := by omega
            rw [List.take_add_one, List.getElem?_eq_getElem hj]
            show _ = lst s (r.take j ++ [r[j]])
            rw [lst_snoc]
            simp [List.getD, hj]
        rw [e1, e2]
      omega
theorem szTo_mono (ss : List Int) : ∀ {i j : Nat}, i ≤ j → szTo ss i ≤ szTo ss j := by
  intro i j h
  induction h with
  | refl => exact Int.le_refl _
  | @step m _ ih =>
    have : 0 ≤ dst ss m := by unfold dst absI; split <;> omega
    have e := szTo_succ ss m
    show szTo ss i ≤ szTo ss (m + 1)
    omega
def sp_pnum (t : Adr) : Sp := fun vs H Q _ => ∃ (a dx l : Addr) (ss : List Int), vs = [.ref a] ∧ IsP t H a dx l ss ∧ szTo ss (ss.length - 1) ≤ 400 ∧ (∀ s ∈ ss, s.natAbs ≤ 400) ∧ ∀ q H', Same H H' → H q = none → H' q = some (.lst (vI (pnum ss))) → Q (.ref q) H'
theorem ok_Path_numbers (T : Txt K mg t) : FnOk P w K mg base CX0 2 t.f_Path_numbers t.d_Path_numbers ["self"] (sp_pnum t) := by
  have G_steps_between : FnOk P w K mg base CX0 1 t.f_steps_between t.d_steps_between _ _ := ok_steps_between T
  refine T.m_Path_numbers.F.ok sc_Path_numbers (fun vs H Q E h => ?_) (fun cdv A outer s H vs Q E hr h => ?_)
  · obtain ⟨a, dx, l, ss, rfl, _⟩ := h
    rfl
  · obtain ⟨a, dx, l, ss, rfl, hP, h400, hb, k⟩ := h
    have ne := hP.ne
    have le := hP.le
    have hsz : sizeLine = 16777216 := sizeLine_eq
    refine ⟨_, (pss_cons (ps_set (i := 1) sc_Path_numbers.nd rfl (Or.inl rfl) (pe_lst (pa_cons (pe_ix (ix_listK (K := K)) (pe_fldK (K := K) (pv 0) rfl) pe_int (fun _ _ => rfl)) pa_nil)))
      (pss_cons (ps_for PassesOwn.never rfl (pi_listK (K := K) (pe_slice (sl_listK (K := K)) (pe_fldK (K := K) (pv 0) rfl) (po_some pe_int) po_none)) (pg_name (i := 2) sc_Path_numbers.nd rfl (Or.inl rfl))
        (pss_one (ps_expr (pe_bmK (K := K) PySem.F.plainAttrs_list PySem.F.slot_list_extend PySem.F.type_list_extend mt_extend (pv 1) (pa_cons (pe_call (G_steps_between.mono (by decide)) hr rfl T.steps_between.m T.steps_between.F.kp T.steps_between.b .nil pass0 (pa_cons (pe_ix (ix_listK (K := K)) (pv 1) (pe_un un_neg pe_int) (fun _ _ => rfl)) (pa_cons (pv 2) pa_nil))) pa_nil)))))
      (pss_one (ps_ret (pv 1))))), ?_⟩
    obtain ⟨s0, r, rfl⟩ : ∃ s0 r, ss = s0 :: r := by
      cases ss with
      | nil => simp at ne
      | cons s0 r => exact ⟨s0, r, rfl⟩
    refine ⟨_, rfl, _, _, _, _, _, rfl, hP.o, T.o_Path.c, T.na_Path_stops, pf_at l, _, _, _, _, rfl, rfl, SqL.of hP.l, atI_of (by decide) rfl, (by show 1 ≤ sizeLine; decide), fun q hq => ?_⟩
    have s1 : Same H (upd H q (.lst [.int s0])) := .upd hq
    refine ⟨_, rfl, _, _, _, _, _, rfl, s1 _ _ hP.o, T.o_Path.c, T.na_Path_stops, pf_at l, _, rfl, _, _, rfl, SqL.of (s1 _ _ hP.l), fun p hp => ?_⟩
    have e1 : cutV (vI (s0 :: r)) (some 1) none = vI r := by
      unfold cutV
      have e0 : HT.sIx (vI (s0 :: r)).length 0 (some 1) = 1 := by
        show HT.sIx (vI (s0 :: r)).length 0 (some ((1 : Nat) : Int)) = 1
        rw [HT.sIx_nat, vI_len, List.length_cons]
        omega
      rw [e0, HT.sIx_none, vI_len, List.length_cons]
      show (vI r).take _ = vI r
      rw [List.take_of_length_le (by rw [vI_len]; omega)]
    rw [e1]
    have s2 : Same H (upd (upd H q (.lst [.int s0])) p (.lst (vI r))) := s1.new hp
    have nqp : q ≠ p := ne_of_none (upd_same (H := H)) hp
    refine ⟨_, rfl, ⟨_, SqL.of upd_same⟩, ?_⟩
    refine for_list (K := K) (a := p) (xs := vI r) (fun i σ H2 => ∃ v, σ = [some (.ref a), some (.ref q), v] ∧ Same H H2 ∧ H2 p = some (.lst (vI r)) ∧ H2 q = some (.lst (vI (s0 :: go s0 (r.take i)))))
      ⟨none, rfl, s2, upd_same, by rw [upd_ne nqp, upd_same]; rfl⟩ (fun i σ H2 _ ⟨_, _, _, e, _⟩ => SqL.of e) ?_ ?_
    · rintro i xv σ H2 hx ⟨v, rfl, s3, hp3, hq3⟩
      obtain ⟨z, hz, rfl⟩ := vI_got hx
      have hir : i < r.length := (List.getElem?_eq_some_iff.mp hz).1
      have bz : z.natAbs ≤ 400 := hb z (List.mem_cons_of_mem _ (List.mem_of_getElem? hz))
      have bl : (lst s0 (r.take i)).natAbs ≤ 400 := by
        cases i with
        | zero => exact hb s0 List.mem_cons_self
        | succ j =>
          have hj : j < r.length := by omega
          rw [List.take_add_one, List.getElem?_eq_getElem hj]
          show (lst s0 (r.take j ++ [r[j]])).natAbs ≤ 400
          rw [lst_snoc]
          exact hb _ (List.mem_cons_of_mem _ (List.getElem_mem hj))
      have hlen := len_go (s0 :: r) (i + 1) (by rw [List.length_cons]; omega)
      have hmono := szTo_mono (s0 :: r) (i := i + 1) (j := (s0 :: r).length - 1) (by simp; omega)
      have e5 : (s0 :: r).take (i + 1 + 1) = s0 :: (r.take i ++ [z]) := by rw [List.take_succ_cons, List.take_add_one, hz]; rfl
      rw [e5, pnum, go_snoc, List.length_cons, List.length_append] at hlen
      refine ⟨_, rfl, .inl ⟨rfl, _, SqL.of hq3⟩, _, rfl, _, rfl, _, _, _, _, rfl, rfl, SqL.of hq3, atI_last (pnum_last s0 (r.take i)), _, rfl, lst s0 (r.take i), z, rfl, bl, bz, fun l2 H3 s4 nl2 hl2 => ?_⟩
      refine ⟨q, l2, _, _, rfl, rfl, s4 _ _ hq3, hl2, (by rw [vI_len, vI_len, List.length_cons]; omega), ?_⟩
      have n2 : l2 ≠ q := (ne_of_none hq3 nl2).symm
      have np : p ≠ q := nqp.symm
      refine ⟨_, rfl, (s3.trans s4).over hq, by rw [upd_ne np]; exact s4 _ _ hp3, ?_⟩
      rw [upd_same, List.take_add_one, hz]
      show some (HO.lst (vI (s0 :: go s0 (r.take i)) ++ vI (stps (lst s0 (r.take i)) z))) = some (HO.lst (vI (s0 :: go s0 (r.take i ++ [z]))))
      rw [go_snoc]
      unfold vI
      rw [← List.map_append]
      rfl
    · rintro σ H2 ⟨v, rfl, s3, hp3, hq3⟩
      refine ⟨_, rfl, k q H2 s3 hq ?_⟩
      rw [hq3, vI_len, List.take_length]
      rfl
end
inductive It where
  | pth (ss : List Int)
  | tms (n : Nat) (xs : List It)
def psz (ss : List Int) : Int := szTo ss (ss.length - 1)
mutual
def It.sz : It → Int
  | .pth ss => psz ss
  | .tms n xs => (n : Int) * szs xs
def szs : List It → Int
  | [] => 0
  | x :: xs => x.sz + szs xs
end
theorem szs_map : ∀ xs : List It, szs xs = (xs.map It.sz).sum
  | [] => by simp [szs]
  | x :: xs => by simp only [szs, List.map_cons, List.sum_cons]; rw [szs_map xs]
mutual
def It.nu : It → List Int
  | .pth ss => pnum ss
  | .tms n xs => (List.replicate n (nus xs)).flatten
def nus : List It → List Int
  | [] => []
  | x :: xs => x.nu ++ nus xs
end
theorem nus_map : ∀ xs : List It, nus xs = (xs.map It.nu).flatten
  | [] => by simp [nus]
  | x :: xs => by simp only [nus, List.map_cons, List.flatten_cons]; rw [nus_map xs]
section
variable {P : Program} {w : World} {K : PySem.W.Frag} {mg : Str → Option Value} {base : Heap} {t : Adr}
def AtP (t : Adr) (H : Hp) (a : Addr) (ss : List Int) : Prop := ∃ dx l, IsP t H a dx l ss
theorem AtP.same {H H' : Hp} {a : Addr} {ss : List Int} (h : AtP t H a ss) (s : Same H H') : AtP t H' a ss :=
  let ⟨dx, l, p⟩ := h
  ⟨dx, l, s _ _ p.o, s _ _ p.l, p.ne, p.le⟩
def tf (n : Nat) (l : Addr) : List (Str × V) := [("count", .int (n : Int)), ("inner", .ref l)]
theorem tf_count (n : Nat) (l : Addr) : (tf n l).lookup ("count" : Str) = some (V.int (n : Int)) := rfl
theorem tf_inner (n : Nat) (l : Addr) : (tf n l).lookup ("inner" : Str) = some (V.ref l) := rfl
def AtI (t : Adr) (H : Hp) : Nat → Addr → It → Prop
  | _, a, .pth ss => AtP t H a ss
  | 0, _, .tms _ _ => False
  | d + 1, a, .tms n xs => ∃ (dx li : Addr) (rs : List Addr), H a = some (.ins t.e_Times dx (tf n li)) ∧ H li = some (.lst (rs.map V.ref)) ∧ n ≤ 99 ∧ rs.length = xs.length ∧ rs.length ≤ 6000 ∧
      ∀ (i : Nat) r x, rs[i]? = some r → xs[i]? = some x → AtI t H d r x
theorem AtI.same {H H' : Hp} (s : Same H H') : ∀ (d : Nat) (a : Addr) (x : It), AtI t H d a x → AtI t H' d a x
  | 0, _, .pth _, h => AtP.same h s
  | 0, _, .tms _ _, h => h.elim
  | d + 1, _, .pth _, h => AtP.same h s
  | d + 1, _, .tms n xs, h => by
    obtain ⟨dx, li, rs, h1, h2, h0, h3, h4, h5⟩ := h
    exact ⟨dx, li, rs, s _ _ h1, s _ _ h2, h0, h3, h4, fun i r x e1 e2 => AtI.same s d r x (h5 i r x e1 e2)⟩
structure AtIs (t : Adr) (H : Hp) (d : Nat) (rs : List Addr) (xs : List It) : Prop where
  len : rs.length = xs.length
  le : rs.length ≤ 6000
  at_ : ∀ (i : Nat) r x, rs[i]? = some r → xs[i]? = some x → AtI t H d r x
theorem AtIs.same {H H' : Hp} {d : Nat} {rs : List Addr} {xs : List It} (h : AtIs t H d rs xs) (s : Same H H') : AtIs t H' d rs xs := ⟨h.len, h.le, fun i r x e1 e2 => AtI.same s d r x (h.at_ i r x e1 e2)⟩
def sp_wsz (t : Adr) (d : Nat) : Sp := fun vs H Q _ => ∃ (li : Addr) (rs : List Addr) (xs : List It), vs = [.ref li] ∧ H li = some (.lst (rs.map V.ref)) ∧ AtIs t H d rs xs ∧ ∀ H', Same H H' → Q (.int (szs xs)) H'
def sp_tsz (t : Adr) : Nat → Sp
  | 0 => fun _ _ _ _ => False
  | d + 1 => fun vs H Q _ => ∃ (a dx li : Addr) (n : Nat) (rs : List Addr) (xs : List It), vs = [.ref a] ∧ H a = some (.ins t.e_Times dx (tf n li)) ∧ H li = some (.lst (rs.map V.ref)) ∧ n ≤ 99 ∧ AtIs t H d rs xs ∧ ∀ H', Same H H' → Q (.int ((n : Int) * szs xs)) H'
theorem ok_Times_size0 (T : Txt K mg t) : FnOk P w K mg base CX0 1 t.f_Times_size t.d_Times_size ["self"] (sp_tsz t 0) :=
  T.m_Times_size.F.ok sc_Times_size (fun vs H Q E h => h.elim) (fun cdv A outer s H vs Q E hr h => h.elim)
theorem ok_Times_size {k d : Nat} (T : Txt K mg t) (G_whole_size : FnOk P w K mg base CX0 k t.f_whole_size t.d_whole_size ["row_items"] (sp_wsz t d)) :
    FnOk P w K mg base CX0 (k + 1) t.f_Times_size t.d_Times_size ["self"] (sp_tsz t (d + 1)) := by
  refine T.m_Times_size.F.ok sc_Times_size (fun vs H Q E h => ?_) (fun cdv A outer s H vs Q E hr h => ?_)
  · obtain ⟨a, dx, li, n, rs, xs, rfl, _⟩ := h
    rfl
  · obtain ⟨a, dx, li, n, rs, xs, rfl, ho, hl, hn, hA, k⟩ := h
    refine ⟨_, (pss_one (ps_ret (pe_op op_mul (pe_fldK (K := K) (pv 0) rfl) (pe_call (G_whole_size.mono (by omega)) hr rfl T.whole_size.m T.whole_size.F.kp T.whole_size.b .nil pass0 (pa_cons (pe_fldK (K := K) (pv 0) rfl) pa_nil))))), ?_⟩
    refine ⟨_, rfl, _, _, _, _, _, rfl, ho, T.o_Times.c, T.na_Times_count, tf_count n li, ?_⟩
    refine ⟨_, rfl, _, _, _, _, _, rfl, ho, T.o_Times.c, T.na_Times_inner, tf_inner n li, ?_⟩
    refine ⟨li, rs, xs, rfl, hl, hA, fun H1 s1 => ?_⟩
    exact ⟨_, _, rfl, rfl, .inl ⟨by omega, by omega⟩, k H1 s1⟩
theorem ok_whole_size {k d : Nat} (hk : 1 ≤ k) (T : Txt K mg t) (G_Times_size : FnOk P w K mg base CX0 k t.f_Times_size t.d_Times_size ["self"] (sp_tsz t d)) :
    FnOk P w K mg base CX0 (k + 1) t.f_whole_size t.d_whole_size ["row_items"] (sp_wsz t d) := by
  have G_Path_size : FnOk P w K mg base CX0 1 t.f_Path_size t.d_Path_size _ _ := ok_Path_size T
  refine T.whole_size.F.ok sc_whole_size (fun vs H Q E h => ?_) (fun cdv A outer s H vs Q E hr h => ?_)
  · obtain ⟨li, rs, xs, rfl, _⟩ := h
    rfl
  · obtain ⟨li, rs, xs, rfl, hl, hA, kk⟩ := h
    have ln := hA.len
    have le := hA.le
    have hsz : sizeLine = 16777216 := sizeLine_eq
    refine ⟨_, (pss_one (ps_ret (pe_callB (call_sumI (K := K)) rfl T.b_sum bt_sum (pa_cons (pe_comp (CompOk.mk (caps := []) (Nc := ["item"]) rfl (by decide +kernel) (by decide +kernel) (comp_fr (sc0 := defScope s_whole_size) rfl (by decide +kernel)) rfl rfl rfl (by decide +kernel) (fun _ _ h => by simp at h)) rfl (pi_listK (K := K) (pv 0)) (fun _ _ _ _ _ => .nil) (fun _ _ _ _ _ => (pe_methD (pv 0) T.o_Path.c T.m_Path_size.m (G_Path_size.mono (by omega)) hr T.m_Path_size.b pass0 T.o_Times.c T.m_Times_size.m (G_Times_size.mono (by omega)) hr T.m_Times_size.b pass0))) pa_nil)))), ?_⟩
    refine ⟨_, rfl, _, rfl, ⟨_, SqL.of hl⟩, comp_list (K := K) (a := li) (xs := rs.map V.ref) (fun i ys H2 => Same H H2 ∧ ys = vI ((xs.take i).map It.sz)) ⟨.refl _, rfl⟩ ?_ ?_ ?_ ?_⟩
    · rintro i ys H2 hi ⟨s2, rfl⟩
      refine ⟨SqL.of (s2 _ _ hl), ?_⟩
      rw [vI_len, List.length_map, List.length_take]
      omega
    · rw [List.length_map]; omega
    · rintro i x ys H2 hi hx ⟨s2, rfl⟩
      rw [List.length_map] at hi
      have hi' : i < xs.length := by omega
      rw [List.getElem?_map, List.getElem?_eq_getElem hi] at hx
      cases hx
      have hI := AtI.same s2 d _ _ (hA.at_ i _ _ (List.getElem?_eq_getElem hi) (List.getElem?_eq_getElem hi'))
      refine CTurn.no ?_
      have fin : ∀ H3, Same H2 H3 → ∀ z : Int, z = (xs[i]).sz → CN (rs.map V.ref).length (fun i ys H2 => Same H H2 ∧ ys = vI ((xs.take i).map It.sz)) i (vI ((xs.take i).map It.sz) ++ [.int z]) H3 := fun H3 s3 z hz => by
        refine CN.of (by rw [List.length_map]; exact hi) ⟨s2.trans s3, ?_⟩
        rw [hz, vI_app, List.take_add_one, List.getElem?_eq_getElem hi', List.map_append]
        rfl
      generalize hx' : xs[i] = x at hI
      cases x with
      | pth ss =>
        have hP0 : AtP t H2 rs[i] ss := by cases d <;> exact hI
        obtain ⟨dx, l, hP⟩ := hP0
        refine ⟨_, rfl, _, dx, pf l, rfl, rfl, .inl ⟨hP.o, _, dx, l, _, rfl, hP, ?_⟩⟩
        exact fin H2 (.refl _) _ (by rw [hx']; simp only [It.sz]; rfl)
      | tms n ys =>
        cases d with
        | zero => exact hI.elim
        | succ d =>
          obtain ⟨dx, l2, rs2, h1, h2, h0, h3, h4, h5⟩ := hI
          refine ⟨_, rfl, _, dx, tf n l2, rfl, rfl, .inr ⟨h1, _, dx, l2, n, rs2, ys, rfl, h1, h2, h0, ⟨h3, h4, h5⟩, fun H3 s3 => ?_⟩⟩
          exact fin H3 s3 _ (by rw [hx']; simp only [It.sz])
    · rintro ys H2 p ⟨s2, rfl⟩ hp
      rw [List.length_map, ln, List.take_length]
      refine ⟨_, _, rfl, SqL.of upd_same, ?_⟩
      rw [← szs_map]
      exact kk _ (s2.new hp)
theorem ok_wsz (T : Txt K mg t) : ∀ d : Nat, FnOk P w K mg base CX0 (2 * d + 2) t.f_whole_size t.d_whole_size ["row_items"] (sp_wsz t d)
  | 0 => ok_whole_size (Nat.le_refl 1) T (ok_Times_size0 T)
  | d + 1 => ok_whole_size (k := 2 * d + 3) (by omega) T (ok_Times_size T (ok_wsz T d))
end
mutual
def It.Sm : It → Prop
  | .pth ss => 1 ≤ ss.length ∧ ∀ s ∈ ss, s.natAbs ≤ 400
  | .tms n xs => 1 ≤ n ∧ Sms xs
def Sms : List It → Prop
  | [] => True
  | x :: xs => x.Sm ∧ Sms xs
end
theorem Sms.of_get : ∀ {xs : List It} {i : Nat} {x : It}, Sms xs → xs[i]? = some x → x.Sm
  | [], i, x, _, e => by simp at e
  | y :: xs, 0, x, h, e => by
    simp only [Sms] at h
    simp at e
    rw [← e]; exact h.1
  | y :: xs, i + 1, x, h, e => by
    simp only [Sms] at h
    exact Sms.of_get h.2 (by simpa using e)
mutual
theorem It.len_nu : ∀ x : It, x.Sm → (x.nu.length : Int) = x.sz
  | .pth ss, h => by
    simp only [It.Sm] at h
    simp only [It.nu, It.sz]
    have := len_go ss (ss.length - 1) (by omega)
    rw [show ss.length - 1 + 1 = ss.length by omega, List.take_length] at this
    exact this
  | .tms n xs, h => by
    simp only [It.Sm] at h
    simp only [It.nu, It.sz]
    rw [len_rep, Int.natCast_mul, len_nus xs h.2]
theorem len_nus : ∀ xs : List It, Sms xs → ((nus xs).length : Int) = szs xs
  | [], _ => by simp [nus, szs]
  | x :: xs, h => by
    simp only [Sms] at h
    simp only [nus, szs]
    rw [List.length_append, Int.natCast_add, It.len_nu x h.1, len_nus xs h.2]
end
theorem Sms.nn {xs : List It} (h : Sms xs) : 0 ≤ szs xs := by rw [← len_nus xs h]; omega
theorem It.Sm.nn {x : It} (h : x.Sm) : 0 ≤ x.sz := by rw [← x.len_nu h]; omega
theorem nus_snoc (xs : List It) (x : It) : nus (xs ++ [x]) = nus xs ++ x.nu := by
  rw [nus_map, nus_map, List.map_append, List.flatten_append]
  simp
theorem szs_snoc (xs : List It) (x : It) : szs (xs ++ [x]) = szs xs + x.sz := by
  rw [szs_map, szs_map, List.map_append, List.sum_append]
  simp
theorem szs_app (xs ys : List It) : szs (xs ++ ys) = szs xs + szs ys := by
  rw [szs_map, szs_map, szs_map, List.map_append, List.sum_append]
theorem Sms.app : ∀ {xs ys : List It}, Sms (xs ++ ys) → Sms xs ∧ Sms ys
  | [], ys, h => ⟨by simp only [Sms], h⟩
  | x :: xs, ys, h => by
    rw [List.cons_append] at h
    simp only [Sms] at h
    have := Sms.app h.2
    exact ⟨by simp only [Sms]; exact ⟨h.1, this.1⟩, this.2⟩
theorem take_le {xs : List It} (h : Sms xs) (i : Nat) : szs (xs.take i) ≤ szs xs ∧ 0 ≤ szs (xs.take i) := by
  have e : xs = xs.take i ++ xs.drop i := (List.take_append_drop i xs).symm
  have h' := h
  rw [e] at h'
  have a := Sms.app h'
  have e2 : szs xs = szs (xs.take i) + szs (xs.drop i) := by rw [← szs_app, List.take_append_drop]
  have n1 := a.1.nn
  have n2 := a.2.nn
  omega
section
variable {P : Program} {w : World} {K : PySem.W.Frag} {mg : Str → Option Value} {base : Heap} {t : Adr}
def sp_wnu (t : Adr) (d : Nat) : Sp := fun vs H Q _ => ∃ (li : Addr) (rs : List Addr) (xs : List It), vs = [.ref li] ∧ H li = some (.lst (rs.map V.ref)) ∧ AtIs t H d rs xs ∧ Sms xs ∧ szs xs ≤ 400 ∧
  ∀ q H', Same H H' → H q = none → H' q = some (.lst (vI (nus xs))) → Q (.ref q) H'
def sp_tnu (t : Adr) : Nat → Sp
  | 0 => fun _ _ _ _ => False
  | d + 1 => fun vs H Q _ => ∃ (a dx li : Addr) (n : Nat) (rs : List Addr) (xs : List It), vs = [.ref a] ∧ H a = some (.ins t.e_Times dx (tf n li)) ∧ H li = some (.lst (rs.map V.ref)) ∧ n ≤ 99 ∧ AtIs t H d rs xs ∧ (It.tms n xs).Sm ∧ (It.tms n xs).sz ≤ 400 ∧
      ∀ q H', Same H H' → H q = none → H' q = some (.lst (vI (It.tms n xs).nu)) → Q (.ref q) H'
theorem vI_rep (n : Nat) (l : List Int) : (List.replicate n (vI l)).flatten = vI (List.replicate n l).flatten := by
  induction n with
  | zero => rfl
  | succ n ih =>
    rw [List.replicate_succ, List.replicate_succ, List.flatten_cons, List.flatten_cons, ih]
    unfold vI
    rw [List.map_append]
theorem ok_Times_numbers0 (T : Txt K mg t) : FnOk P w K mg base CX0 1 t.f_Times_numbers t.d_Times_numbers ["self"] (sp_tnu t 0) :=
  T.m_Times_numbers.F.ok sc_Times_numbers (fun vs H Q E h => h.elim) (fun cdv A outer s H vs Q E hr h => h.elim)
theorem ok_Times_numbers {k d : Nat} (T : Txt K mg t) (G_all_numbers : FnOk P w K mg base CX0 k t.f_all_numbers t.d_all_numbers ["row_items"] (sp_wnu t d)) :
    FnOk P w K mg base CX0 (k + 1) t.f_Times_numbers t.d_Times_numbers ["self"] (sp_tnu t (d + 1)) := by
  refine T.m_Times_numbers.F.ok sc_Times_numbers (fun vs H Q E h => ?_) (fun cdv A outer s H vs Q E hr h => ?_)
  · obtain ⟨a, dx, li, n, rs, xs, rfl, _⟩ := h
    rfl
  · obtain ⟨a, dx, li, n, rs, xs, rfl, ho, hl, hn, hA, hS, h4, k⟩ := h
    have hsz : sizeLine = 16777216 := sizeLine_eq
    simp only [It.Sm] at hS
    simp only [It.sz] at h4
    have nn := hS.2.nn
    have z4 : szs xs ≤ 400 := by
      have : szs xs ≤ (n : Int) * szs xs := by
        have h1 := Int.mul_le_mul_of_nonneg_right (show (1 : Int) ≤ (n : Int) by omega) nn
        omega
      omega
    have len := len_nus xs hS.2
    refine ⟨_, (pss_one (ps_ret (pe_op op_rep (pe_call (G_all_numbers.mono (by omega)) hr rfl T.all_numbers.m T.all_numbers.F.kp T.all_numbers.b .nil pass0 (pa_cons (pe_fldK (K := K) (pv 0) rfl) pa_nil)) (pe_fldK (K := K) (pv 0) rfl)))), ?_⟩
    refine ⟨_, rfl, _, _, _, _, _, rfl, ho, T.o_Times.c, T.na_Times_inner, tf_inner n li, ?_⟩
    refine ⟨li, rs, xs, rfl, hl, hA, hS.2, z4, fun q H1 s1 nq hq => ?_⟩
    refine ⟨_, rfl, _, _, _, _, _, rfl, s1 _ _ ho, T.o_Times.c, T.na_Times_count, tf_count n li, ?_⟩
    refine ⟨q, (n : Int), vI (nus xs), rfl, rfl, hq, by omega, by omega, ?_, fun p hp => ?_⟩
    · rw [vI_len, Int.toNat_natCast]
      have : (nus xs).length ≤ 400 := by omega
      have : (nus xs).length * n ≤ 400 * 99 := Nat.mul_le_mul this hn
      omega
    · refine k p _ (s1.new hp) (s1.free hp) ?_
      rw [upd_same, Int.toNat_natCast, vI_rep]
      simp only [It.nu]
theorem ok_all_numbers {k d : Nat} (hk : 2 ≤ k) (T : Txt K mg t) (G_Times_numbers : FnOk P w K mg base CX0 k t.f_Times_numbers t.d_Times_numbers ["self"] (sp_tnu t d)) :
    FnOk P w K mg base CX0 (k + 1) t.f_all_numbers t.d_all_numbers ["row_items"] (sp_wnu t d) := by
  have G_Path_numbers : FnOk P w K mg base CX0 2 t.f_Path_numbers t.d_Path_numbers _ _ := ok_Path_numbers T
  refine T.all_numbers.F.ok sc_all_numbers (fun vs H Q E h => ?_) (fun cdv A outer s H vs Q E hr h => ?_)
  · obtain ⟨li, rs, xs, rfl, _⟩ := h
    rfl
  · obtain ⟨li, rs, xs, rfl, hl, hA, hS, h4, kk⟩ := h
    have ln := hA.len
    have hsz : sizeLine = 16777216 := sizeLine_eq
    refine ⟨_, (pss_cons (ps_set (i := 1) sc_all_numbers.nd rfl (Or.inl rfl) (pe_lst pa_nil))
      (pss_cons (ps_for PassesOwn.never rfl (pi_listK (K := K) (pv 0)) (pg_name (i := 2) sc_all_numbers.nd rfl (Or.inl rfl))
        (pss_one (ps_expr (pe_bmK (K := K) PySem.F.plainAttrs_list PySem.F.slot_list_extend PySem.F.type_list_extend mt_extend (pv 1) (pa_cons (pe_methD (pv 2) T.o_Path.c T.m_Path_numbers.m (G_Path_numbers.mono (by omega)) hr T.m_Path_numbers.b pass0 T.o_Times.c T.m_Times_numbers.m (G_Times_numbers.mono (by omega)) hr T.m_Times_numbers.b pass0) pa_nil)))))
      (pss_one (ps_ret (pv 1))))), ?_⟩
    refine ⟨Nat.zero_le _, fun q hq => ?_⟩
    have s1 : Same H (upd H q (.lst [])) := .upd hq
    refine ⟨_, rfl, _, rfl, ⟨_, SqL.of (s1 _ _ hl)⟩, ?_⟩
    refine for_list (K := K) (a := li) (xs := rs.map V.ref) (fun i σ H2 => ∃ v, σ = [some (.ref li), some (.ref q), v] ∧ Same H H2 ∧ H2 q = some (.lst (vI (nus (xs.take i)))))
      ⟨none, rfl, s1, by rw [upd_same]; simp [nus, vI]⟩ (fun i σ H2 _ ⟨_, _, s2, _⟩ => SqL.of (s2 _ _ hl)) ?_ ?_
    · rintro i x σ H2 hx ⟨v, rfl, s2, hq2⟩
      have hi : i < rs.length := by
        have := (List.getElem?_eq_some_iff.mp hx).1
        rwa [List.length_map] at this
      have hi' : i < xs.length := by omega
      rw [List.getElem?_map, List.getElem?_eq_getElem hi] at hx
      cases hx
      have hm : (xs[i]).Sm := hS.of_get (List.getElem?_eq_getElem hi')
      have hI := AtI.same s2 d _ _ (hA.at_ i _ _ (List.getElem?_eq_getElem hi) (List.getElem?_eq_getElem hi'))
      have e6 : (xs.take (i + 1)) = xs.take i ++ [xs[i]] := by rw [List.take_add_one, List.getElem?_eq_getElem hi']; rfl
      have p1 := take_le hS (i + 1)
      have p0 := take_le hS i
      have e7 : szs (xs.take (i + 1)) = szs (xs.take i) + (xs[i]).sz := by rw [e6, szs_snoc]
      have m0 := hm.nn
      have x4 : (xs[i]).sz ≤ 400 := by omega
      have l1 := (xs[i]).len_nu hm
      have sm : Sms (xs.take i) := by
        have h' := hS
        rw [← List.take_append_drop i xs] at h'
        exact h'.app.1
      have l0 := len_nus _ sm
      have fin : ∀ l2 H3, Same H2 H3 → H2 l2 = none → H3 l2 = some (.lst (vI (xs[i]).nu)) → ∀ (nz : (vI (nus (xs.take i))).length + (vI (xs[i]).nu).length ≤ sizeLine),
          ∃ v, [some (V.ref li), some (.ref q), some (.ref rs[i])] = [some (.ref li), some (.ref q), v] ∧ Same H (upd H3 q (.lst (vI (nus (xs.take i)) ++ vI (xs[i]).nu))) ∧ (upd H3 q (.lst (vI (nus (xs.take i)) ++ vI (xs[i]).nu))) q = some (.lst (vI (nus (xs.take (i + 1))))) := fun l2 H3 s3 n3 h3 _ => by
        refine ⟨_, rfl, (s2.trans s3).over hq, ?_⟩
        rw [upd_same, e6, nus_snoc]
        unfold vI
        rw [List.map_append]
      have nz : (vI (nus (xs.take i))).length + (vI (xs[i]).nu).length ≤ sizeLine := by rw [vI_len, vI_len]; omega
      generalize hx' : xs[i] = x at hI hm x4 fin nz
      refine ⟨_, rfl, .inl ⟨rfl, _, SqL.of hq2⟩, _, rfl, ?_⟩
      cases x with
      | pth ss =>
        have hP0 : AtP t H2 rs[i] ss := by cases d <;> exact hI
        obtain ⟨dx, l, hP⟩ := hP0
        simp only [It.Sm] at hm
        simp only [It.sz] at x4
        refine ⟨_, dx, pf l, rfl, rfl, .inl ⟨hP.o, _, dx, l, _, rfl, hP, x4, hm.2, fun l2 H3 s3 nl2 hl2 => ?_⟩⟩
        exact ⟨q, l2, _, _, rfl, rfl, s3 _ _ hq2, by rw [hl2]; simp only [It.nu], nz, fin l2 H3 s3 nl2 (by rw [hl2]; simp only [It.nu]) nz⟩
      | tms n ys =>
        cases d with
        | zero => exact hI.elim
        | succ d =>
          obtain ⟨dx, l2, rs2, h1, h2, h0, h3, h4', h5⟩ := hI
          refine ⟨_, dx, tf n l2, rfl, rfl, .inr ⟨h1, _, dx, l2, n, rs2, ys, rfl, h1, h2, h0, ⟨h3, h4', h5⟩, hm, x4, fun l3 H3 s3 nl3 hl3 => ?_⟩⟩
          exact ⟨q, l3, _, _, rfl, rfl, s3 _ _ hq2, hl3, nz, fin l3 H3 s3 nl3 hl3 nz⟩
    · rintro σ H2 ⟨v, rfl, s2, hq2⟩
      refine ⟨_, rfl, kk q H2 s2 hq ?_⟩
      rw [hq2, List.length_map, ln, List.take_length]
theorem ok_wnu (T : Txt K mg t) : ∀ d : Nat, FnOk P w K mg base CX0 (2 * d + 3) t.f_all_numbers t.d_all_numbers ["row_items"] (sp_wnu t d)
  | 0 => ok_all_numbers (Nat.le_refl 2) T ((ok_Times_numbers0 T).mono (by decide))
  | d + 1 => ok_all_numbers (k := 2 * d + 4) (by omega) T (ok_Times_numbers T (ok_wnu T d))
end
def dec (n : Nat) : List Nat := (Str.ofString (toString (n : Int))).cps.toList
theorem dec_tx (n : Nat) : Str.ofString (toString (n : Int)) = tx (dec n) := (tx_of _).symm
def decOk (n : Nat) : Bool := (dec n).all (fun c => decide (48 ≤ c ∧ c ≤ 57)) && decide (1 ≤ (dec n).length ∧ (dec n).length ≤ 2) && decide (¬ ((dec n).length = 2 ∧ (dec n)[0]? = some 48)) && decide (PySem.NumText.digitsVal (dec n) = n)
theorem dec_ok : ∀ n, n < 100 → decOk n = true := by decide +kernel
structure Dec (n : Nat) : Prop where
  dg : ∀ c ∈ dec n, 48 ≤ c ∧ c ≤ 57
  l1 : 1 ≤ (dec n).length
  l2 : (dec n).length ≤ 2
  z : ¬ ((dec n).length = 2 ∧ (dec n)[0]? = some 48)
  v : PySem.NumText.digitsVal (dec n) = n
theorem dec_is {n : Nat} (h : n < 100) : Dec n := by
  have := dec_ok n h
  unfold decOk at this
  simp only [Bool.and_eq_true, decide_eq_true_eq, List.all_eq_true] at this
  obtain ⟨⟨⟨h1, h2⟩, h3⟩, h4⟩ := this
  exact ⟨h1, h2.1, h2.2, h3, h4⟩
def tails : List Nat → List Nat
  | [] => []
  | n :: r => 45 :: (dec n ++ tails r)
def pathT : List Nat → List Nat
  | [] => []
  | n :: r => dec n ++ tails r
def Stop (rest : List Nat) : Prop := ∀ c, rest[0]? = some c → ¬ (48 ≤ c ∧ c ≤ 57) ∧ c ≠ 45
inductive Wk where
  | start | nought | figure | point | more | done | full | bad | star | closed
deriving DecidableEq
def Wk.cl : Wk → Bool
  | .nought => true
  | .figure => true
  | .full => true
  | .more => true
  | .done => true
  | .closed => true
  | _ => false
def fgr (s : Wk) (c : Nat) : Wk :=
  if s = .start ∧ c = 48 then .nought else if s = .start then .figure else if s = .point ∧ c ≠ 48 then .more else if s = .point ∨ s = .more then .done else if s = .figure then .full else .bad
def wst (s : Wk) (d c : Nat) : Wk × Nat :=
  if 48 ≤ c ∧ c ≤ 57 then (fgr s c, d)
  else if c = 42 ∧ (s = .figure ∨ s = .full) then (.star, d)
  else if c = 40 ∧ s = .star ∧ d < 8 then (.start, d + 1)
  else if c = 45 ∧ s.cl = true ∧ s ≠ .closed then (.point, d)
  else if c = 32 ∧ s.cl = true then (.start, d)
  else if c = 41 ∧ s.cl = true ∧ 0 < d then (.closed, d - 1)
  else (.bad, d)
def wrun : Wk → Nat → List Nat → Wk × Nat
  | s, d, [] => (s, d)
  | s, d, c :: u => wrun (wst s d c).1 (wst s d c).2 u
def acc (s : Wk) (d : Nat) (u : List Nat) : Bool := decide ((wrun s d u).2 = 0) && (wrun s d u).1.cl
theorem wrun_snoc : ∀ (u : List Nat) (s : Wk) (d c : Nat), wrun s d (u ++ [c]) = wst (wrun s d u).1 (wrun s d u).2 c
  | [], s, d, c => rfl
  | a :: u, s, d, c => by rw [List.cons_append]; exact wrun_snoc u _ _ c
theorem acc_cons (s : Wk) (d c : Nat) (u : List Nat) : acc s d (c :: u) = acc (wst s d c).1 (wst s d c).2 u := rfl
theorem wst_bad (d c : Nat) : (wst .bad d c).1 = .bad := by
  unfold wst
  split
  · simp [fgr]
  all_goals simp [Wk.cl]
theorem acc_bad : ∀ (u : List Nat) (d : Nat), acc .bad d u = false
  | [], d => by simp [acc, wrun, Wk.cl]
  | c :: u, d => by rw [acc_cons, wst_bad]; exact acc_bad u _
theorem acc_nil (s : Wk) (d : Nat) : acc s d [] = (decide (d = 0) && s.cl) := rfl
def isD (c : Nat) : Prop := 48 ≤ c ∧ c ≤ 57
def NoF (u : List Nat) : Prop := ∀ c, u[0]? = some c → ¬ (48 ≤ c ∧ c ≤ 57)
theorem wst_fig {s : Wk} {d c : Nat} (h : 48 ≤ c ∧ c ≤ 57) : wst s d c = (fgr s c, d) := by unfold wst; rw [if_pos h]
theorem acc_fig {s : Wk} {d c : Nat} {u : List Nat} (h : 48 ≤ c ∧ c ≤ 57) : acc s d (c :: u) = acc (fgr s c) d u := by rw [acc_cons, wst_fig h]
def qS (v : List Nat) : Wk := if v = [48] then .nought else if v.length = 1 then .figure else .full
def qP (v : List Nat) : Wk := if v.length = 1 ∧ v ≠ [48] then .more else .done
def okN (v : List Nat) : Prop := (1 ≤ v.length ∧ v.length ≤ 2) ∧ ¬ (v.length = 2 ∧ v[0]? = some 48)
theorem num_bad0 {s : Wk} (hs : s = .start ∨ s = .point) {d : Nat} {u : List Nat} (h : NoF u) : acc s d u = false := by
  cases u with
  | nil => rcases hs with rfl | rfl <;> simp [acc_nil, Wk.cl]
  | cons c u =>
    have hc := h c rfl
    have : (wst s d c).1 = .bad := by
      unfold wst
      rw [if_neg hc]
      rcases hs with rfl | rfl <;> simp [Wk.cl]
    rw [acc_cons, this]
    exact acc_bad _ _
theorem num_start {v rest : List Nat} {d : Nat} (hv : ∀ c ∈ v, 48 ≤ c ∧ c ≤ 57) (hr : NoF rest) : (okN v → acc .start d (v ++ rest) = acc (qS v) d rest) ∧ (¬ okN v → acc .start d (v ++ rest) = false) := by
  match v, hv with
  | [], _ => exact ⟨fun h => absurd h.1.1 (by simp), fun _ => num_bad0 (.inl rfl) hr⟩
  | [a], hv =>
    have ha := hv a (by simp)
    refine ⟨fun _ => ?_, fun h => absurd ⟨⟨by simp, by simp⟩, by simp⟩ h⟩
    rw [List.singleton_append, acc_fig ha]
    unfold qS fgr
    by_cases c : a = 48 <;> simp [c]
  | [a, b], hv =>
    have ha := hv a (by simp)
    have hb := hv b (by simp)
    have e : acc .start d ([a, b] ++ rest) = acc (fgr (fgr .start a) b) d rest := by
      show acc .start d (a :: b :: rest) = _
      rw [acc_fig ha, acc_fig hb]
    rw [e]
    by_cases c : a = 48
    · refine ⟨fun h => absurd ⟨rfl, by rw [c]; rfl⟩ h.2, fun _ => ?_⟩
      have : fgr (fgr .start a) b = .bad := by simp [fgr, c]
      rw [this]; exact acc_bad _ _
    · refine ⟨fun _ => ?_, fun h => absurd ⟨⟨by simp, by simp⟩, fun z => c (by simpa using z.2)⟩ h⟩
      have : fgr (fgr .start a) b = .full := by simp [fgr, c]
      rw [this]
      simp [qS]
  | a :: b :: e :: v, hv =>
    have ha := hv a (by simp)
    have hb := hv b (by simp)
    have he := hv e (by simp)
    refine ⟨fun h => absurd h.1.2 (by simp), fun _ => ?_⟩
    show acc .start d (a :: b :: e :: (v ++ rest)) = _
    rw [acc_fig ha, acc_fig hb, acc_fig he]
    have : fgr (fgr (fgr .start a) b) e = .bad := by
      by_cases c : a = 48 <;> simp [fgr, c]
    rw [this]; exact acc_bad _ _
theorem num_point {v rest : List Nat} {d : Nat} (hv : ∀ c ∈ v, 48 ≤ c ∧ c ≤ 57) (hr : NoF rest) : (okN v → acc .point d (v ++ rest) = acc (qP v) d rest) ∧ (¬ okN v → acc .point d (v ++ rest) = false) := by
  match v, hv with
  | [], _ => exact ⟨fun h => absurd h.1.1 (by simp), fun _ => num_bad0 (.inr rfl) hr⟩
  | [a], hv =>
    have ha := hv a (by simp)
    refine ⟨fun _ => ?_, fun h => absurd ⟨⟨by simp, by simp⟩, by simp⟩ h⟩
    rw [List.singleton_append, acc_fig ha]
    unfold qP fgr
    by_cases c : a = 48 <;> simp [c]
  | [a, b], hv =>
    have ha := hv a (by simp)
    have hb := hv b (by simp)
    have e : acc .point d ([a, b] ++ rest) = acc (fgr (fgr .point a) b) d rest := by
      show acc .point d (a :: b :: rest) = _
      rw [acc_fig ha, acc_fig hb]
    rw [e]
    by_cases c : a = 48
    · refine ⟨fun h => absurd ⟨rfl, by rw [c]; rfl⟩ h.2, fun _ => ?_⟩
      have : fgr (fgr .point a) b = .bad := by simp [fgr, c]
      rw [this]; exact acc_bad _ _
    · refine ⟨fun _ => ?_, fun h => absurd ⟨⟨by simp, by simp⟩, fun z => c (by simpa using z.2)⟩ h⟩
      have : fgr (fgr .point a) b = .done := by simp [fgr, c]
      rw [this]
      simp [qP]
  | a :: b :: e :: v, hv =>
    have ha := hv a (by simp)
    have hb := hv b (by simp)
    have he := hv e (by simp)
    refine ⟨fun h => absurd h.1.2 (by simp), fun _ => ?_⟩
    show acc .point d (a :: b :: e :: (v ++ rest)) = _
    rw [acc_fig ha, acc_fig hb, acc_fig he]
    have : fgr (fgr (fgr .point a) b) e = .bad := by
      by_cases c : a = 48 <;> simp [fgr, c]
    rw [this]; exact acc_bad _ _
def ai (d : Nat) : List Nat → Bool
  | [] => decide (d = 0)
  | c :: v => if c = 32 then acc .start d v else if c = 41 then (if 0 < d then acc .closed (d - 1) v else false) else false
theorem ai_of {s : Wk} {d : Nat} {u : List Nat} (hs : s.cl = true) (h1 : s ≠ .closed → NoF u ∧ u[0]? ≠ some 45) (h2 : s = .figure ∨ s = .full → u.take 2 ≠ [42, 40]) : acc s d u = ai d u := by
  cases u with
  | nil => simp [acc_nil, ai, hs]
  | cons c u =>
    rw [acc_cons]
    show _ = if c = 32 then acc .start d u else if c = 41 then (if 0 < d then acc .closed (d - 1) u else false) else false
    by_cases hD : 48 ≤ c ∧ c ≤ 57
    · rw [wst_fig hD, if_neg (by omega), if_neg (by omega)]
      by_cases hc : s = .closed
      · subst hc
        simp [fgr, acc_bad]
      · exact absurd hD ((h1 hc).1 c rfl)
    unfold wst
    rw [if_neg hD]
    by_cases c42 : c = 42 ∧ (s = .figure ∨ s = .full)
    · rw [if_pos c42, if_neg (by omega), if_neg (by omega)]
      have h3 := h2 c42.2
      cases u with
      | nil => simp [acc_nil, Wk.cl]
      | cons b u =>
        have hb : b ≠ 40 := fun z => h3 (by rw [c42.1, z]; rfl)
        rw [acc_cons]
        have : (wst .star d b).1 = .bad := by
          unfold wst
          split
          · simp [fgr]
          · simp [hb, Wk.cl]
        rw [this]
        exact acc_bad _ _
    rw [if_neg c42]
    have n40 : ¬ (c = 40 ∧ s = .star ∧ d < 8) := fun z => by rw [z.2.1] at hs; simp [Wk.cl] at hs
    rw [if_neg n40]
    have n45 : ¬ (c = 45 ∧ s.cl = true ∧ s ≠ .closed) := fun z => (h1 z.2.2).2 (by rw [z.1]; rfl)
    rw [if_neg n45]
    by_cases c32 : c = 32
    · rw [if_pos ⟨c32, hs⟩, if_pos c32]
    · rw [if_neg (fun z => c32 z.1), if_neg c32]
      by_cases c41 : c = 41
      · rw [if_pos c41]
        by_cases hd : 0 < d
        · rw [if_pos ⟨c41, hs, hd⟩, if_pos hd]
        · rw [if_neg (fun z => hd z.2.2), if_neg hd]
          exact acc_bad _ _
      · rw [if_neg (fun z => c41 z.1), if_neg c41]
        exact acc_bad _ _
theorem acc_dash {s : Wk} {d : Nat} {u : List Nat} (hs : s.cl = true) (hc : s ≠ .closed) : acc s d (45 :: u) = acc .point d u := by
  rw [acc_cons]
  have : wst s d 45 = (.point, d) := by
    unfold wst
    simp [hs, hc]
  rw [this]
theorem acc_times {s : Wk} {d : Nat} {u : List Nat} : acc s d (42 :: 40 :: u) = if (s = .figure ∨ s = .full) ∧ d < 8 then acc .start (d + 1) u else false := by
  rw [acc_cons]
  by_cases h : s = .figure ∨ s = .full
  · have : wst s d 42 = (.star, d) := by
      unfold wst
      simp [h]
    rw [this, acc_cons]
    by_cases hd : d < 8
    · rw [if_pos ⟨h, hd⟩]
      have : wst .star d 40 = (.start, d + 1) := by
        unfold wst
        simp [hd]
      rw [this]
    · rw [if_neg (fun z => hd z.2)]
      have : (wst .star d 40).1 = .bad := by
        unfold wst
        simp [hd, Wk.cl]
      rw [this]
      exact acc_bad _ _
  · rw [if_neg (fun z => h z.1)]
    have : (wst s d 42).1 = .bad := by
      unfold wst
      simp [h]
    rw [this]
    exact acc_bad _ _
theorem qS_cl {v : List Nat} : (qS v).cl = true ∧ qS v ≠ .closed := by
  unfold qS
  split
  · exact ⟨rfl, by decide⟩
  · split <;> exact ⟨rfl, by decide⟩
theorem qP_cl {v : List Nat} : (qP v).cl = true ∧ qP v ≠ .closed ∧ qP v ≠ .figure ∧ qP v ≠ .full := by
  unfold qP
  split <;> exact ⟨rfl, by decide, by decide, by decide⟩
theorem qS_fig {v : List Nat} : (qS v = .figure ∨ qS v = .full) ↔ v ≠ [48] := by
  unfold qS
  split
  next h => simp [h]
  next h =>
    split
    · simp [h]
    · simp [h]
section
variable {P : Program} {w : World} {K : PySem.W.Frag} {mg : Str → Option Value} {base : Heap} {t : Adr}
theorem SameB.trans {r : Addr} {H H1 H2 : Hp} (a : SameB r H H1) (b : SameB r H1 H2) : SameB r H H2 := fun c o n e => b c o n (a c o n e)
theorem SameB.upd {r : Addr} {H : Hp} {o : HO} : SameB r H (L2.upd H r o) := fun b o' n e => by rw [upd_ne n]; exact e
theorem sameB {r : Addr} {H H' : Hp} (s : Same H H') : SameB r H H' := fun b o _ e => s b o e
theorem figs_rest (l : List Nat) : l = figs l ++ l.drop (figs l).length ∧ NoF (l.drop (figs l).length) := by
  induction l with
  | nil => exact ⟨rfl, fun c hc => by simp at hc⟩
  | cons a l ih =>
    unfold figs at ih ⊢
    rw [List.takeWhile_cons]
    by_cases h : dg a = true
    · rw [if_pos h]
      refine ⟨by rw [List.length_cons, List.drop_succ_cons, List.cons_append]; exact congrArg _ ih.1, ?_⟩
      rw [List.length_cons, List.drop_succ_cons]
      exact ih.2
    · rw [if_neg h]
      refine ⟨rfl, fun c hc => ?_⟩
      have : c = a := by simpa using hc.symm
      rw [this]
      exact fun z => h (decide_eq_true z)
theorem numV_ok {v : List Nat} (hv : ∀ c ∈ v, 48 ≤ c ∧ c ≤ 57) (h : okN v) : ∃ n : Nat, numV v = .int (n : Int) ∧ n = PySem.NumText.digitsVal v ∧ n < 100 ∧ (n = 0 ↔ v = [48]) := by
  refine ⟨PySem.NumText.digitsVal v, by unfold numV; exact if_pos h, rfl, ?_⟩
  match v, hv, h with
  | [], _, h => exact absurd h.1.1 (by simp)
  | [a], hv, _ =>
    have ha := hv a (by simp)
    have e : PySem.NumText.digitsVal [a] = a - 48 := by show 0 * 10 + (a - 48) = _; omega
    rw [e]
    refine ⟨by omega, ⟨fun z => ?_, fun z => ?_⟩⟩
    · rw [show a = 48 by omega]
    · injection z with z; omega
  | [a, b], hv, h =>
    have ha := hv a (by simp)
    have hb := hv b (by simp)
    have e : PySem.NumText.digitsVal [a, b] = (a - 48) * 10 + (b - 48) := by show (0 * 10 + (a - 48)) * 10 + (b - 48) = _; omega
    have a0 : a ≠ 48 := fun z => h.2 ⟨rfl, by rw [z]; rfl⟩
    rw [e]
    refine ⟨by omega, ⟨fun z => by omega, fun z => by simp at z⟩⟩
  | a :: b :: c :: v, _, h => exact absurd h.1.2 (by simp)
theorem numV_no {v : List Nat} (h : ¬ okN v) : numV v = .non := by unfold numV; exact if_neg h
def fg (u : List Nat) (p : Nat) : List Nat := figs (u.drop p)
theorem fg_dg {u : List Nat} {p : Nat} : ∀ c ∈ fg u p, 48 ≤ c ∧ c ≤ 57 := figs_dg
theorem fg_rest (u : List Nat) (p : Nat) : u.drop p = fg u p ++ u.drop (p + (fg u p).length) ∧ NoF (u.drop (p + (fg u p).length)) := by
  have := figs_rest (u.drop p)
  rw [List.drop_drop] at this
  exact this
theorem fg_le {u : List Nat} {p : Nat} (h : p ≤ u.length) : p + (fg u p).length ≤ u.length := by
  have := congrArg List.length (fg_rest u p).1
  rw [List.length_drop, List.length_append, List.length_drop] at this
  have h2 := (figs_all (u.drop p)).2
  rw [List.length_drop] at h2
  unfold fg at *
  omega
def vlN (v : List Nat) : Nat := PySem.NumText.digitsVal v
inductive PT : List Nat → List Nat → List Nat → Prop where
  | stop {u : List Nat} : u[0]? ≠ some 45 → PT u [] u
  | step {v ns r : List Nat} : PT (v.drop (figs v).length) ns r → PT (45 :: v) (vlN (figs v) :: ns) r
theorem PT.det : ∀ {u ns r ns' r' : List Nat}, PT u ns r → PT u ns' r' → ns = ns' ∧ r = r' := by
  intro u ns r ns' r' h
  induction h generalizing ns' r' with
  | stop h =>
    intro g
    cases g with
    | stop _ => exact ⟨rfl, rfl⟩
    | step _ => exact absurd rfl h
  | step _ ih =>
    intro g
    cases g with
    | stop g => exact absurd rfl g
    | step g => exact ⟨by rw [(ih g).1], (ih g).2⟩
def sp_xnum (t : Adr) : Sp := fun vs H Q E => ∃ r dx u p, vs = [.ref r] ∧ Rd t H r dx u p ∧
  (∀ n : Nat, okN (fg u p) → n < 100 → (n = 0 ↔ fg u p = [48]) → n = vlN (fg u p) → Q (.int (n : Int)) (upd H r (.ins t.e_Reader dx (rf u (p + (fg u p).length))))) ∧ (¬ okN (fg u p) → ∀ H', SameB r H H' → E (.ref t.e_NoRow) none H')
theorem okx_read_number (T : Txt K mg t) : FnOk P w K mg base (CX1 P w) 4 t.f_read_number t.d_read_number ["reader"] (sp_xnum t) := by
  have G_Reader_number : FnOk P w K mg base CX0 3 t.f_Reader_number t.d_Reader_number _ _ := ok_Reader_number T
  refine T.read_number.F.okX sc_read_number (fun vs H Q E h => ?_) (fun cdv A outer s H vs Q E hr h => ?_)
  · obtain ⟨r, dx, u, p, rfl, _⟩ := h
    rfl
  · obtain ⟨r, dx, u, p, rfl, hR, k1, k2⟩ := h
    refine ⟨_, (pss_cons (ps_set (i := 1) sc_read_number.nd rfl (Or.inl rfl) (pe_meth0 (pv 0) T.o_Reader.c T.m_Reader_number.m (G_Reader_number.mono (by decide)) hr T.m_Reader_number.b .nil pass0))
      (pss_cons (ps_if (pt_cmpR op_isN (pv 1) pe_non (nomark _))
        (pss_one (ps_raise body1 rfl (fun _ _ z => z) PySem.F.excBase_ValueError has_ve PySem.F.excBase_ValueError T.x_NoRow.q rfl T.k_NoRow (pa_cons pe_str pa_nil)))
        pss_nil)
      (pss_one (ps_ret (pv 1))))), ?_⟩
    refine ⟨_, rfl, r, dx, rf u p, rfl, hR.1, (rf_meth u p).2.2.1, r, dx, u, p, rfl, hR, ?_⟩
    show ∃ _, _
    by_cases c : okN (fg u p)
    · obtain ⟨n, e, hv, hn, hz⟩ := numV_ok fg_dg c
      unfold fg at e
      rw [e]
      refine ⟨_, rfl, rfl, _, rfl, ?_⟩
      refine iteDn (fun z => nomatch z) ?_
      exact ⟨_, rfl, k1 n c hn hz hv⟩
    · have e := numV_no c
      unfold fg at e
      rw [e]
      refine ⟨_, rfl, rfl, _, rfl, ?_⟩
      refine iteDp rfl ?_
      exact ⟨by decide, k2 c _ SameB.upd⟩
theorem one_dash : (("-" : Str)) = tx [45] := by decide +kernel
theorem drop0 {u : List Nat} {p c : Nat} (h : (u.drop p).take [c].length = [c]) : u.drop p = c :: u.drop (p + 1) := by
  cases e : u.drop p with
  | nil => rw [e] at h; simp at h
  | cons a v =>
    rw [e] at h
    have : a = c := by simpa using h
    rw [← List.drop_drop, e, this]
    rfl
theorem drop0n {u : List Nat} {p c : Nat} (h : (u.drop p).take [c].length ≠ [c]) : (u.drop p)[0]? ≠ some c := fun z => by
  cases e : u.drop p with
  | nil => rw [e] at z; simp at z
  | cons a v =>
    rw [e] at z h
    have : a = c := by simpa using z
    exact h (by rw [this]; rfl)
theorem drop_lt {u v : List Nat} {p c : Nat} (e : u.drop p = c :: v) : p + 1 ≤ u.length := by
  have := congrArg List.length e
  rw [List.length_drop, List.length_cons] at this
  omega
def sp_xpath (t : Adr) : Sp := fun vs H Q E => ∃ r dx u p n0 s d, vs = [.ref r, .int ((n0 : Nat) : Int)] ∧ Rd t H r dx u p ∧ u.length ≤ 5000 ∧ n0 < 100 ∧ Wk.cl s = true ∧ s ≠ .closed ∧ NoF (u.drop p) ∧ (s = .figure ∨ s = .full → (u.drop p).take 2 ≠ [42, 40]) ∧
  (∀ a ns p' H', SameB r H H' → Rd t H' r dx u p' → p ≤ p' → H a = none → AtP t H' a ((n0 :: ns).map Int.ofNat) → (∀ n ∈ ns, n < 100) → ns.length ≤ 5000 → PT (u.drop p) ns (u.drop p') → acc s d (u.drop p) = ai d (u.drop p') → Q (.ref a) H') ∧
  (∀ H', SameB r H H' → acc s d (u.drop p) = false → E (.ref t.e_NoRow) none H')
theorem okx_read_path (T : Txt K mg t) : FnOk P w K mg base (CX1 P w) 5 t.f_read_path t.d_read_path ["reader", "first"] (sp_xpath t) := by
  have G_Reader_took : FnOk P w K mg base CX0 1 t.f_Reader_took t.d_Reader_took _ _ := ok_Reader_took T
  have G_read_number : FnOk P w K mg base (CX1 P w) 4 t.f_read_number t.d_read_number _ _ := okx_read_number T
  have G_Path___init__ : FnOk P w K mg base CX0 1 t.f_Path___init__ t.d_Path___init__ _ _ := ok_Path___init__ T
  refine T.read_path.F.okX sc_read_path (fun vs H Q E h => ?_) (fun cdv A outer s H vs Q E hr h => ?_)
  · obtain ⟨r, dx, u, p, n0, s, d, rfl, _⟩ := h
    rfl
  · obtain ⟨r, dx, u, p, n0, s, d, rfl, hR, u9, hn0, hs, hsc, hF, hst, k1, k2⟩ := h
    refine ⟨_, (pss_cons (ps_set (i := 2) sc_read_path.nd rfl (Or.inl rfl) (pe_lst (pa_cons (pv 1) pa_nil)))
      (pss_cons (ps_fr fun hfr => (ps_while (ownX body1 hfr) (pt_val (pe_meth (pv 0) T.o_Reader.c T.m_Reader_took.m (G_Reader_took.mono (by decide)) hr T.m_Reader_took.b .nil pass0 (pa_cons pe_str pa_nil)))
        (pss_one (ps_expr (pe_bmK (K := K) PySem.F.plainAttrs_list PySem.F.slot_list_append PySem.F.type_list_append mt_append (pv 2) (pa_cons (pe_call (G_read_number.mono (by decide)) hr rfl T.read_number.m T.read_number.F.kp T.read_number.b .nil pass1 (pa_cons (pv 0) pa_nil)) pa_nil))))))
      (pss_one (ps_ret (pe_make T.o_Path.m (G_Path___init__.mono (by decide)) hr rfl T.k_Path T.m_Path___init__.b .nil pass0 (pa_cons (pv 2) pa_nil)))))), ?_⟩
    refine ⟨_, rfl, (by show 1 ≤ sizeLine; decide), fun q hq => ?_⟩
    have nqr : q ≠ r := fun z => by rw [z, hR.1] at hq; cases hq
    refine ⟨fun m σ H2 => ∃ done p2 s2, σ = [some (.ref r), some (.int (n0 : Int)), some (.ref q)] ∧ SameB r H H2 ∧ H2 q = some (.lst (vI ((n0 :: done).map Int.ofNat))) ∧ Rd t H2 r dx u p2 ∧ p + done.length ≤ p2 ∧ (∀ n ∈ done, n < 100) ∧
        Wk.cl s2 = true ∧ s2 ≠ .closed ∧ NoF (u.drop p2) ∧ (s2 = .figure ∨ s2 = .full → (u.drop p2).take 2 ≠ [42, 40]) ∧ acc s d (u.drop p) = acc s2 d (u.drop p2) ∧ (∀ ns r, PT (u.drop p2) ns r → PT (u.drop p) (done ++ ns) r) ∧ m = u.length - p2,
      ⟨_, [], p, s, rfl, sameB (Same.upd hq), upd_same, ⟨by rw [upd_ne nqr.symm]; exact hR.1, hR.2⟩, Nat.le_refl _, (fun n hn => by simp at hn), hs, hsc, hF, hst, rfl, (fun ns r h => h), rfl⟩, ?_⟩
    rintro m σ H2 ⟨done, p2, s2, rfl, b2, hq2, hR2, hp2, hd2, hs2, hsc2, hF2, hst2, ha2, hPT, rfl⟩
    have p2l := hR2.2.1
    refine ⟨_, rfl, r, dx, rf u p2, rfl, hR2.1, (rf_meth u _).2.1, r, dx, u, p2, [45], (by rw [one_dash]; rfl), hR2, (by decide), fun hyes => ?_, fun hno => ?_⟩
    · refine ⟨_, rfl, ?_⟩
      refine iteT ?_
      have hdr := drop0 hyes
      have hlt := drop_lt hdr
      rw [hdr, acc_dash hs2 hsc2] at ha2
      have hq3 : (upd H2 r (.ins t.e_Reader dx (rf u (p2 + [45].length)))) q = some (.lst (vI ((n0 :: done).map Int.ofNat))) := by rw [upd_ne nqr]; exact hq2
      have fr := fg_rest u (p2 + 1)
      have fl := fg_le hlt
      have np := num_point (d := d) (fg_dg (u := u) (p := p2 + 1)) fr.2
      rw [← fr.1] at np
      refine ⟨_, fun σ' H' h => h, ?_⟩
      refine ⟨_, rfl, .inl ⟨rfl, _, SqL.of hq3⟩, _, rfl, r, dx, u, p2 + 1, rfl, ⟨upd_same, hlt, hR2.2.2⟩, fun n hok hn _ hv => ?_, fun hnok H' sb => ?_⟩
      · rw [upd_upd]
        have hq4 : (upd H2 r (.ins t.e_Reader dx (rf u (p2 + 1 + (fg u (p2 + 1)).length)))) q = some (.lst (vI ((n0 :: done).map Int.ofNat))) := by rw [upd_ne nqr]; exact hq2
        refine ⟨_, _, _, rfl, rfl, hq4, (by rw [vI_len, List.length_map, List.length_cons]; exact small6000 (by omega)), ?_⟩
        have ql := @qP_cl (fg u (p2 + 1))
        refine ⟨u.length - (p2 + 1 + (fg u (p2 + 1)).length), by omega, done ++ [n], p2 + 1 + (fg u (p2 + 1)).length, qP (fg u (p2 + 1)), rfl, ?_, ?_, ?_, by rw [List.length_append, List.length_singleton]; omega, ?_, ql.1, ql.2.1, fr.2, fun z => by rcases z with z | z; exact absurd z ql.2.2.1; exact absurd z ql.2.2.2, by rw [ha2, np.1 hok], (fun ns r h => ?_), rfl⟩
        · intro b o hb e
          rw [upd_ne (ne_of_none e hq), upd_ne hb]
          exact b2 b o hb e
        · rw [upd_same]
          show some (HO.lst (vI ((n0 :: done).map Int.ofNat) ++ [V.int (Int.ofNat n)])) = _
          rw [vI_app, ← List.cons_append, List.map_append]
          rfl
        · refine ⟨?_, fl, hR2.2.2⟩
          rw [upd_ne nqr.symm, upd_same]
        · intro x hx
          rcases List.mem_append.mp hx with hx | hx
          · exact hd2 x hx
          · rw [List.mem_singleton.mp hx]; exact hn
        · rw [List.append_assoc]
          refine hPT _ _ ?_
          rw [hdr, hv]
          refine PT.step ?_
          rw [List.drop_drop]
          exact h
      · refine k2 H' (fun b o hb e => sb b o hb ?_) (by rw [ha2, np.2 hnok])
        rw [upd_ne hb]
        exact b2 b o hb e
    · refine ⟨_, rfl, ?_⟩
      refine iteF ?_
      have h45 := drop0n hno
      refine ⟨_, rfl, fun x dx' hx hdx hne => ⟨x, dx', q, rfl, upd_same, rfl, ?_⟩⟩
      rw [upd_upd]
      have nx : ∀ b o, H2 b = some o → b ≠ x ∧ b ≠ dx' := fun b o e => ⟨ne_of_none e hx, ne_of_none e hdx⟩
      have keep : ∀ b o, H2 b = some o → (upd (upd H2 dx' (.own x)) x (.ins t.e_Path dx' (pf q))) b = some o := fun b o e => by rw [upd_ne (nx b o e).1, upd_ne (nx b o e).2]; exact e
      refine k1 x done p2 _ (fun b o hb e => keep b o (b2 b o hb e)) ⟨keep _ _ hR2.1, hR2.2⟩ (by omega) ?_ ⟨dx', q, upd_same, keep _ _ hq2, by simp, by rw [List.length_map, List.length_cons]; omega⟩ hd2 (by omega) ?_ ?_
      · cases e : H x with
        | none => rfl
        | some o =>
          by_cases hxr : x = r
          · rw [hxr, hR2.1] at hx; cases hx
          · rw [b2 x o hxr e] at hx; cases hx
      · have := hPT [] _ (PT.stop h45)
        rw [List.append_nil] at this
        exact this
      · rw [ha2]
        exact ai_of hs2 (fun _ => ⟨hF2, h45⟩) hst2
end
def ofN (ns : List Nat) : List Int := ns.map Int.ofNat
mutual
def It.tx : It → List Nat
  | .pth ss => pathT (ss.map Int.toNat)
  | .tms n xs => dec n ++ 42 :: 40 :: (rowX xs ++ [41])
def rowX : List It → List Nat
  | [] => []
  | x :: xs => x.tx ++ morX xs
def morX : List It → List Nat
  | [] => []
  | x :: xs => 32 :: (x.tx ++ morX xs)
end
def Gd : Nat → It → Prop
  | _, .pth ss => ∃ n0 ns, ss = ofN (n0 :: ns) ∧ (∀ n ∈ n0 :: ns, n < 100) ∧ ns.length ≤ 5000
  | 0, .tms _ _ => False
  | d + 1, .tms n xs => 1 ≤ n ∧ n ≤ 99 ∧ xs ≠ [] ∧ xs.length ≤ 5000 ∧ ∀ x ∈ xs, Gd d x
def Aft (rest : List Nat) : Prop := ∀ c, rest[0]? = some c → c = 32 ∨ c = 41
section
variable {P : Program} {w : World} {K : PySem.W.Frag} {mg : Str → Option Value} {base : Heap} {t : Adr}
def AtJ (t : Adr) (H : Hp) (F : Addr → Prop) : Nat → Addr → It → Prop
  | _, a, .pth ss => AtP t H a ss
  | 0, _, .tms _ _ => False
  | d + 1, a, .tms n xs => ∃ (dx li : Addr) (rs : List Addr), H a = some (.ins t.e_Times dx (tf n li)) ∧ H li = some (.lst (rs.map V.ref)) ∧ F li ∧ n ≤ 99 ∧ rs.length = xs.length ∧ rs.length ≤ 6000 ∧
      ∀ (i : Nat) r x, rs[i]? = some r → xs[i]? = some x → AtJ t H F d r x
structure Kp (t : Adr) (H H' : Hp) (F : Addr → Prop) : Prop where
  kp : ∀ (b dx l : Addr), H b = some (.ins t.e_Path dx (pf l)) → H' b = some (.ins t.e_Path dx (pf l))
  ks : ∀ (b : Addr) (ss : List Int), 1 ≤ ss.length → H b = some (.lst (vI ss)) → H' b = some (.lst (vI ss))
  kt : ∀ (b dx : Addr) (n : Nat) (l : Addr), H b = some (.ins t.e_Times dx (tf n l)) → H' b = some (.ins t.e_Times dx (tf n l))
  kl : ∀ (b : Addr) (rs : List Addr), F b → H b = some (.lst (rs.map V.ref)) → H' b = some (.lst (rs.map V.ref))
theorem AtJ.keep {H H' : Hp} {F : Addr → Prop} (k : Kp t H H' F) : ∀ (d : Nat) (a : Addr) (x : It), AtJ t H F d a x → AtJ t H' F d a x
  | 0, _, .pth _, ⟨dx, l, h⟩ => ⟨dx, l, k.kp _ _ _ h.o, k.ks _ _ h.ne h.l, h.ne, h.le⟩
  | 0, _, .tms _ _, h => h.elim
  | d + 1, _, .pth _, ⟨dx, l, h⟩ => ⟨dx, l, k.kp _ _ _ h.o, k.ks _ _ h.ne h.l, h.ne, h.le⟩
  | d + 1, _, .tms n xs, ⟨dx, li, rs, h1, h2, h0, h3, h4, h5, h6⟩ => ⟨dx, li, rs, k.kt _ _ _ _ h1, k.kl _ _ h0 h2, h0, h3, h4, h5, fun i r x e1 e2 => AtJ.keep k d r x (h6 i r x e1 e2)⟩
theorem AtJ.imp {H : Hp} {F F' : Addr → Prop} (k : ∀ b, F b → (∃ o, H b = some o) → F' b) : ∀ (d : Nat) (a : Addr) (x : It), AtJ t H F d a x → AtJ t H F' d a x
  | 0, _, .pth _, h => h
  | 0, _, .tms _ _, h => h.elim
  | d + 1, _, .pth _, h => h
  | d + 1, _, .tms n xs, ⟨dx, li, rs, h1, h2, h0, h3, h4, h5, h6⟩ => ⟨dx, li, rs, h1, h2, k _ h0 ⟨_, h2⟩, h3, h4, h5, fun i r x e1 e2 => AtJ.imp k d r x (h6 i r x e1 e2)⟩
theorem AtJ.to {H : Hp} {F : Addr → Prop} : ∀ (d : Nat) (a : Addr) (x : It), AtJ t H F d a x → AtI t H d a x
  | 0, _, .pth _, h => h
  | 0, _, .tms _ _, h => h.elim
  | d + 1, _, .pth _, h => h
  | d + 1, _, .tms n xs, ⟨dx, li, rs, h1, h2, h0, h3, h4, h5, h6⟩ => ⟨dx, li, rs, h1, h2, h3, h4, h5, fun i r x e1 e2 => AtJ.to d r x (h6 i r x e1 e2)⟩
structure AtJs (t : Adr) (H : Hp) (F : Addr → Prop) (d : Nat) (rs : List Addr) (xs : List It) : Prop where
  len : rs.length = xs.length
  le : rs.length ≤ 6000
  at_ : ∀ (i : Nat) r x, rs[i]? = some r → xs[i]? = some x → AtJ t H F d r x
theorem AtJs.snoc {H : Hp} {F : Addr → Prop} {d : Nat} {rs : List Addr} {xs : List It} {a : Addr} {x : It} (h : AtJs t H F d rs xs) (hx : AtJ t H F d a x) (hl : rs.length < 6000) : AtJs t H F d (rs ++ [a]) (xs ++ [x]) := by
  have ln := h.len
  refine ⟨by rw [List.length_append, List.length_append, ln]; rfl, by rw [List.length_append, List.length_singleton]; omega, fun i r y e1 e2 => ?_⟩
  by_cases hi : i < rs.length
  · rw [List.getElem?_append_left hi] at e1
    rw [List.getElem?_append_left (by omega)] at e2
    exact h.at_ i r y e1 e2
  · rw [List.getElem?_append_right (by omega)] at e1
    rw [List.getElem?_append_right (by omega)] at e2
    rw [ln] at e1
    cases hj : i - xs.length with
    | zero =>
      rw [hj] at e1 e2
      cases e1; cases e2
      exact hx
    | succ j => rw [hj] at e1; simp at e1
theorem AtJs.keep {H H' : Hp} {F : Addr → Prop} {d : Nat} {rs : List Addr} {xs : List It} (h : AtJs t H F d rs xs) (k : Kp t H H' F) : AtJs t H' F d rs xs := ⟨h.len, h.le, fun i r x e1 e2 => AtJ.keep k d r x (h.at_ i r x e1 e2)⟩
theorem Kp.same {H H' : Hp} {F : Addr → Prop} (s : Same H H') : Kp t H H' F := ⟨fun b dx l e => s _ _ e, fun b ss _ e => s _ _ e, fun b dx n l e => s _ _ e, fun b rs _ e => s _ _ e⟩
theorem Kp.but {H H' : Hp} {F : Addr → Prop} {r dr : Addr} {fs : List (Str × V)} (s : SameB r H H') (er : H r = some (.ins t.e_Reader dr fs)) (nc : t.e_Reader ≠ t.e_Path) (nt : t.e_Reader ≠ t.e_Times) : Kp t H H' F := by
  refine ⟨fun b dx l e => s _ _ (fun z => ?_) e, fun b ss _ e => s _ _ (fun z => ?_) e, fun b dx n l e => s _ _ (fun z => ?_) e, fun b rs _ e => s _ _ (fun z => ?_) e⟩
  · rw [z, er] at e
    injection e with e
    injection e with e
    exact nc e
  · rw [z, er] at e; cases e
  · rw [z, er] at e
    injection e with e
    injection e with e
    exact nt e
  · rw [z, er] at e; cases e
theorem Kp.app {H : Hp} {F : Addr → Prop} {li : Addr} {rs : List Addr} {o : HO} (hl : H li = some (.lst (rs.map V.ref))) (nF : ¬ F li) : Kp t H (upd H li o) F := by
  refine ⟨fun b dx l e => ?_, fun b ss n e => ?_, fun b dx n l e => ?_, fun b rs' f e => ?_⟩
  · rw [upd_ne (fun z => by rw [z, hl] at e; cases e)]; exact e
  · rw [upd_ne (fun z => by
      rw [z, hl] at e
      injection e with e
      injection e with e
      cases ss with
      | nil => simp at n
      | cons x y =>
        cases rs with
        | nil => simp [vI] at e
        | cons c d =>
          unfold vI at e
          rw [List.map_cons, List.map_cons] at e
          injection e with e
          cases e)]
    exact e
  · rw [upd_ne (fun z => by rw [z, hl] at e; cases e)]; exact e
  · rw [upd_ne (fun z => by rw [z] at f; exact nF f)]; exact e
theorem nc_of (T : Txt K mg t) : t.e_Reader ≠ t.e_Path := fun e => by
  have h1 := T.m_Reader___init__.m.at_
  have h2 := T.m_Path___init__.m.at_
  rw [e, h2] at h1
  injection h1 with h1
  injection h1 with h1
  injection h1 with h1
  obtain ⟨_, _, _, _, _, _, _, _, _, e1, l1, _⟩ := T.m_Reader___init__.F.ex
  obtain ⟨_, _, _, _, _, _, _, _, _, e2, l2, _⟩ := T.m_Path___init__.F.ex
  rw [h1, l1, e1, e2] at l2
  injection l2 with l2
  injection l2 with _ _ l2 _
  injection l2 with l2
  have q : (("Reader.__init__" : Str)) = ("Path.__init__" : Str) := congrArg FuncData.qualname l2
  exact absurd q (by decide +kernel)
theorem nt_of (T : Txt K mg t) : t.e_Reader ≠ t.e_Times := fun e => by
  have h1 := T.m_Reader___init__.m.at_
  have h2 := T.m_Times___init__.m.at_
  rw [e, h2] at h1
  injection h1 with h1
  injection h1 with h1
  injection h1 with h1
  obtain ⟨_, _, _, _, _, _, _, _, _, e1, l1, _⟩ := T.m_Reader___init__.F.ex
  obtain ⟨_, _, _, _, _, _, _, _, _, e2, l2, _⟩ := T.m_Times___init__.F.ex
  rw [h1, l1, e1, e2] at l2
  injection l2 with l2
  injection l2 with _ _ l2 _
  injection l2 with l2
  have q : (("Reader.__init__" : Str)) = ("Times.__init__" : Str) := congrArg FuncData.qualname l2
  exact absurd q (by decide +kernel)
theorem ok_Times___init__ (T : Txt K mg t) : FnOk P w K mg base CX0 1 t.f_Times___init__ t.d_Times___init__ ["self", "count", "inner"] (fun vs H Q E => ∃ (r dx l : Addr) (n : Nat), vs = [.ref r, .int (n : Int), .ref l] ∧ H r = some (.ins t.e_Times dx []) ∧ Q .non (upd H r (.ins t.e_Times dx (tf n l)))) := by
  refine T.m_Times___init__.F.ok sc_Times___init__ (fun vs H Q E h => ?_) (fun cdv A outer s H vs Q E hr h => ?_)
  · obtain ⟨r, dx, l, n, rfl, _⟩ := h
    rfl
  · obtain ⟨r, dx, l, n, rfl, h1, k⟩ := h
    refine ⟨_, (pss_cons (ps_fldK (K := K) (pv 0) (pv 1))
      (pss_one (ps_fldK (K := K) (pv 0) (pv 2)))), ?_⟩
    refine ⟨_, rfl, _, rfl, _, _, _, _, rfl, h1, T.o_Times.c, T.na_Times_count, (by decide), ?_⟩
    refine ⟨_, rfl, _, rfl, _, _, _, _, rfl, upd_same, T.o_Times.c, T.na_Times_inner, (by show 1 < 1000; decide), ?_⟩
    rw [upd_upd]
    exact k
theorem star_open : (("*(" : Str)) = tx [42, 40] := by decide +kernel
theorem close1 : ((")" : Str)) = tx [41] := by decide +kernel
theorem blank1 : ((" " : Str)) = tx [32] := by decide +kernel
theorem SameB.none {r b : Addr} {H H' : Hp} (s : SameB r H H') (n : H' b = none) (h : b ≠ r) : H b = none := by
  cases e : H b with
  | none => rfl
  | some o => rw [s b o h e] at n; cases n
theorem ai_close {e : Nat} {v : List Nat} (h : 1 ≤ e) : ai e (41 :: v) = acc .closed (e - 1) v := by
  show (if (41 : Nat) = 32 then acc .start e v else if (41 : Nat) = 41 then (if 0 < e then acc .closed (e - 1) v else false) else false) = acc .closed (e - 1) v
  rw [if_neg (by decide), if_pos rfl, if_pos (by omega)]
theorem ai_no {e c : Nat} {v : List Nat} (h1 : c ≠ 32) (h2 : c ≠ 41) : ai e (c :: v) = false := by
  show (if c = 32 then acc .start e v else if c = 41 then (if 0 < e then acc .closed (e - 1) v else false) else false) = false
  rw [if_neg h1, if_neg h2]
inductive RIm (R : List Nat → It → List Nat → Prop) : List Nat → List It → List Nat → Prop where
  | nil {u : List Nat} : u[0]? ≠ some 32 → RIm R u [] u
  | cons {v r' r : List Nat} {x : It} {xs : List It} : R v x r' → RIm R r' xs r → RIm R (32 :: v) (x :: xs) r
theorem RIm.det {R : List Nat → It → List Nat → Prop} (hR : ∀ u x r x' r', R u x r → R u x' r' → x = x' ∧ r = r') : ∀ {u r r' : List Nat} {xs xs' : List It}, RIm R u xs r → RIm R u xs' r' → xs = xs' ∧ r = r' := by
  intro u r r' xs xs' h
  induction h generalizing xs' r' with
  | nil h =>
    intro g
    cases g with
    | nil _ => exact ⟨rfl, rfl⟩
    | cons _ _ => exact absurd rfl h
  | cons a _ ih =>
    intro g
    cases g with
    | nil g => exact absurd rfl g
    | cons b g =>
      obtain ⟨rfl, rfl⟩ := hR _ _ _ _ _ a b
      exact ⟨by rw [(ih g).1], (ih g).2⟩
def RI : Nat → List Nat → It → List Nat → Prop
  | _, u, .pth ss, r => (u.drop (figs u).length).take 2 ≠ [42, 40] ∧ ∃ ns, ss = ofN (vlN (figs u) :: ns) ∧ PT (u.drop (figs u).length) ns r
  | 0, _, .tms _ _, _ => False
  | d + 1, u, .tms n xs, r => n = vlN (figs u) ∧ ∃ v x ys r', u.drop (figs u).length = 42 :: 40 :: v ∧ xs = x :: ys ∧ RI d v x r' ∧ RIm (RI d) r' ys (41 :: r)
theorem RI.det : ∀ (d : Nat) (u : List Nat) (x : It) (r : List Nat) (x' : It) (r' : List Nat), RI d u x r → RI d u x' r' → x = x' ∧ r = r' := by
  intro d
  induction d with
  | zero =>
    intro u x r x' r' h g
    cases x with
    | tms _ _ => exact h.elim
    | pth ss =>
      cases x' with
      | tms _ _ => exact g.elim
      | pth ss' =>
        obtain ⟨_, ns, rfl, h⟩ := h
        obtain ⟨_, ns', rfl, g⟩ := g
        have := h.det g
        exact ⟨by rw [this.1], this.2⟩
  | succ d ih =>
    intro u x r x' r' h g
    cases x with
    | pth ss =>
      cases x' with
      | pth ss' =>
        obtain ⟨_, ns, rfl, h⟩ := h
        obtain ⟨_, ns', rfl, g⟩ := g
        have := h.det g
        exact ⟨by rw [this.1], this.2⟩
      | tms _ _ =>
        obtain ⟨_, v, x, ys, r1, e, _⟩ := g
        exact absurd (by rw [e]; rfl) h.1
    | tms n xs =>
      cases x' with
      | pth ss' =>
        obtain ⟨_, v, x, ys, r1, e, _⟩ := h
        exact absurd (by rw [e]; rfl) g.1
      | tms n' xs' =>
        obtain ⟨rfl, v, x, ys, r1, e, rfl, h1, h2⟩ := h
        obtain ⟨rfl, v', x', ys', r1', e', rfl, g1, g2⟩ := g
        rw [e] at e'
        injection e' with _ e'
        injection e' with _ e'
        subst e'
        obtain ⟨rfl, rfl⟩ := ih _ _ _ _ _ h1 g1
        obtain ⟨rfl, e2⟩ := RIm.det ih h2 g2
        injection e2 with _ e2
        exact ⟨rfl, e2⟩
def RIs (d : Nat) (u : List Nat) (xs : List It) (r : List Nat) : Prop := ∃ x ys r', xs = x :: ys ∧ RI d u x r' ∧ RIm (RI d) r' ys r
theorem RIs.det {d : Nat} {u r r' : List Nat} {xs xs' : List It} (h : RIs d u xs r) (g : RIs d u xs' r') : xs = xs' ∧ r = r' := by
  obtain ⟨x, ys, r1, rfl, h1, h2⟩ := h
  obtain ⟨x', ys', r1', rfl, g1, g2⟩ := g
  obtain ⟨rfl, rfl⟩ := RI.det d _ _ _ _ _ h1 g1
  obtain ⟨rfl, e2⟩ := RIm.det (RI.det d) h2 g2
  exact ⟨rfl, e2⟩
def sp_xitems (t : Adr) (d : Nat) : Sp := fun vs H Q E => ∃ (r dx : Addr) (u : List Nat) (p e : Nat), vs = [.ref r, .int (e : Int)] ∧ e + d = 8 ∧ Rd t H r dx u p ∧ u.length ≤ 5000 ∧
  (∀ (li : Addr) (rs : List Addr) (xs : List It) (p' : Nat) (H' : Hp), SameB r H H' → Rd t H' r dx u p' → H li = none → H' li = some (.lst (rs.map V.ref)) → AtJs t H' (fun b => H b = none) d rs xs → (∀ x ∈ xs, Gd d x) → xs ≠ [] → xs.length ≤ 5000 → p < p' → (u.drop p')[0]? ≠ some 32 → RIs d (u.drop p) xs (u.drop p') → acc .start e (u.drop p) = ai e (u.drop p') → Q (.ref li) H') ∧
  (∀ H', SameB r H H' → acc .start e (u.drop p) = false → E (.ref t.e_NoRow) none H')
def sp_xitem (t : Adr) (d : Nat) : Sp := fun vs H Q E => ∃ (r dx : Addr) (u : List Nat) (p e : Nat), vs = [.ref r, .int (e : Int)] ∧ e + d = 8 ∧ Rd t H r dx u p ∧ u.length ≤ 5000 ∧
  (∀ (a : Addr) (x : It) (p' : Nat) (H' : Hp), SameB r H H' → Rd t H' r dx u p' → p < p' → H a = none → AtJ t H' (fun b => H b = none) d a x → Gd d x → RI d (u.drop p) x (u.drop p') → acc .start e (u.drop p) = ai e (u.drop p') → Q (.ref a) H') ∧
  (∀ H', SameB r H H' → acc .start e (u.drop p) = false → E (.ref t.e_NoRow) none H')
def sp_xtimes (t : Adr) : Nat → Sp
  | 0 => fun vs H Q E => ∃ (r dx : Addr) (u : List Nat) (p n : Nat), vs = [.ref r, .int (n : Int), .int ((9 : Nat) : Int)] ∧ Rd t H r dx u p ∧ ∀ H', SameB r H H' → E (.ref t.e_NoRow) none H'
  | d + 1 => fun vs H Q E => ∃ (r dx : Addr) (u : List Nat) (p n e : Nat), vs = [.ref r, .int (n : Int), .int (e : Int)] ∧ e + d = 8 ∧ 1 ≤ e ∧ Rd t H r dx u p ∧ u.length ≤ 5000 ∧ n < 100 ∧
      (∀ (a : Addr) (xs : List It) (p' : Nat) (H' : Hp), SameB r H H' → Rd t H' r dx u p' → p ≤ p' → H a = none → 1 ≤ n → AtJ t H' (fun b => H b = none) (d + 1) a (.tms n xs) → Gd (d + 1) (.tms n xs) → RIs d (u.drop p) xs (41 :: u.drop p') → acc .start e (u.drop p) = acc .closed (e - 1) (u.drop p') → Q (.ref a) H') ∧
      (∀ H', SameB r H H' → n = 0 ∨ acc .start e (u.drop p) = false → E (.ref t.e_NoRow) none H')
theorem okx_read_times0 (T : Txt K mg t) (G_read_items : FnOk P w K mg base (CX1 P w) 1 t.f_read_items t.d_read_items ["reader", "depth"] (fun _ _ _ _ => False)) : FnOk P w K mg base (CX1 P w) 3 t.f_read_times t.d_read_times ["reader", "count", "depth"] (sp_xtimes t 0) := by
  have G_Reader_took : FnOk P w K mg base CX0 1 t.f_Reader_took t.d_Reader_took _ _ := ok_Reader_took T
  have G_Times___init__ : FnOk P w K mg base CX0 1 t.f_Times___init__ t.d_Times___init__ _ _ := ok_Times___init__ T
  refine T.read_times.F.okX sc_read_times (fun vs H Q E h => ?_) (fun cdv A outer s H vs Q E hr h => ?_)
  · obtain ⟨r, dx, u, p, n, rfl, _⟩ := h
    rfl
  · obtain ⟨r, dx, u, p, n, rfl, hR, k⟩ := h
    refine ⟨_, (pss_cons (ps_if (pt_cmpR op_eq (pv 1) pe_int (nomark _))
        (pss_one (ps_raise body1 rfl (fun _ _ z => z) PySem.F.excBase_ValueError has_ve PySem.F.excBase_ValueError T.x_NoRow.q rfl T.k_NoRow (pa_cons pe_str pa_nil)))
        pss_nil)
      (pss_cons (ps_if (pt_cmpR op_gt (pv 2) (pe_glob (v := .int 8) rfl T.c_MOST_DEEP.choose_spec ⟨_, rfl⟩) (nomark _))
        (pss_one (ps_raise body1 rfl (fun _ _ z => z) PySem.F.excBase_ValueError has_ve PySem.F.excBase_ValueError T.x_NoRow.q rfl T.k_NoRow (pa_cons pe_str pa_nil)))
        pss_nil)
      (pss_cons (ps_set (i := 3) sc_read_times.nd rfl (Or.inl rfl) (pe_call (G_read_items.mono (by omega)) hr rfl T.read_items.m T.read_items.F.kp T.read_items.b .nil pass1 (pa_cons (pv 0) (pa_cons (pv 2) pa_nil))))
      (pss_cons (ps_if (pt_not (pt_val (pe_meth (pv 0) T.o_Reader.c T.m_Reader_took.m (G_Reader_took.mono (by omega)) hr T.m_Reader_took.b .nil pass0 (pa_cons pe_str pa_nil))))
        (pss_one (ps_raise body1 rfl (fun _ _ z => z) PySem.F.excBase_ValueError has_ve PySem.F.excBase_ValueError T.x_NoRow.q rfl T.k_NoRow (pa_cons pe_str pa_nil)))
        pss_nil)
      (pss_one (ps_ret (pe_make T.o_Times.m (G_Times___init__.mono (by omega)) hr rfl T.k_Times T.m_Times___init__.b .nil pass0 (pa_cons (pv 1) (pa_cons (pv 3) pa_nil))))))))), ?_⟩
    refine ⟨_, rfl, rfl, _, rfl, ?_⟩
    refine ite2D (fun _ => ⟨by decide, k H (sameB (.refl _))⟩) (fun _ => ?_)
    refine ⟨_, rfl, _, _, rfl, rfl, _, rfl, ?_⟩
    exact iteDp (by decide) ⟨by decide, k H (sameB (.refl _))⟩
theorem okx_read_times {k d : Nat} (hk : 1 ≤ k) (T : Txt K mg t) (G_read_items : FnOk P w K mg base (CX1 P w) k t.f_read_items t.d_read_items ["reader", "depth"] (sp_xitems t d)) :
    FnOk P w K mg base (CX1 P w) (k + 2) t.f_read_times t.d_read_times ["reader", "count", "depth"] (sp_xtimes t (d + 1)) := by
  have G_Reader_took : FnOk P w K mg base CX0 1 t.f_Reader_took t.d_Reader_took _ _ := ok_Reader_took T
  have G_Times___init__ : FnOk P w K mg base CX0 1 t.f_Times___init__ t.d_Times___init__ _ _ := ok_Times___init__ T
  refine T.read_times.F.okX sc_read_times (fun vs H Q E h => ?_) (fun cdv A outer s H vs Q E hr h => ?_)
  · obtain ⟨r, dx, u, p, n, e, rfl, _⟩ := h
    rfl
  · obtain ⟨r, dx, u, p, n, e, rfl, he, e1, hR, u9, n9, k1, k2⟩ := h
    refine ⟨_, (pss_cons (ps_if (pt_cmpR op_eq (pv 1) pe_int (nomark _))
        (pss_one (ps_raise body1 rfl (fun _ _ z => z) PySem.F.excBase_ValueError has_ve PySem.F.excBase_ValueError T.x_NoRow.q rfl T.k_NoRow (pa_cons pe_str pa_nil)))
        pss_nil)
      (pss_cons (ps_if (pt_cmpR op_gt (pv 2) (pe_glob (v := .int 8) rfl T.c_MOST_DEEP.choose_spec ⟨_, rfl⟩) (nomark _))
        (pss_one (ps_raise body1 rfl (fun _ _ z => z) PySem.F.excBase_ValueError has_ve PySem.F.excBase_ValueError T.x_NoRow.q rfl T.k_NoRow (pa_cons pe_str pa_nil)))
        pss_nil)
      (pss_cons (ps_set (i := 3) sc_read_times.nd rfl (Or.inl rfl) (pe_call (G_read_items.mono (by omega)) hr rfl T.read_items.m T.read_items.F.kp T.read_items.b .nil pass1 (pa_cons (pv 0) (pa_cons (pv 2) pa_nil))))
      (pss_cons (ps_if (pt_not (pt_val (pe_meth (pv 0) T.o_Reader.c T.m_Reader_took.m (G_Reader_took.mono (by omega)) hr T.m_Reader_took.b .nil pass0 (pa_cons pe_str pa_nil))))
        (pss_one (ps_raise body1 rfl (fun _ _ z => z) PySem.F.excBase_ValueError has_ve PySem.F.excBase_ValueError T.x_NoRow.q rfl T.k_NoRow (pa_cons pe_str pa_nil)))
        pss_nil)
      (pss_one (ps_ret (pe_make T.o_Times.m (G_Times___init__.mono (by omega)) hr rfl T.k_Times T.m_Times___init__.b .nil pass0 (pa_cons (pv 1) (pa_cons (pv 3) pa_nil))))))))), ?_⟩
    refine ⟨_, rfl, rfl, _, rfl, ?_⟩
    refine ite2D (fun z => ⟨by decide, k2 H (sameB (.refl _)) (.inl (by injection z with z; omega))⟩) (fun n0 => ?_)
    have n1 : 1 ≤ n := by
      rcases Nat.eq_zero_or_pos n with z | z
      · exact absurd (by rw [z]; rfl) n0
      · exact z
    refine ⟨_, rfl, _, _, rfl, rfl, _, rfl, ?_⟩
    refine iteDn (fun z => by omega) ?_
    refine ⟨_, rfl, _, rfl, r, dx, u, p, e, rfl, he, hR, u9, fun li rs xs p' H1 s1 hR1 nli hli hA hG hne hxl hpp h32 hRI hac => ?_, fun H1 s1 hac => k2 H1 s1 (.inr hac)⟩
    refine ⟨_, rfl, r, dx, rf u _, rfl, hR1.1, (rf_meth u _).2.1, r, dx, u, p', [41], (by rw [close1]; rfl), hR1, (by decide), fun hyes => ?_, fun hno => ?_⟩
    · refine ⟨_, rfl, ?_⟩
      refine iteF ?_
      have hdr := drop0 hyes
      have hlt := drop_lt hdr
      have hS : (upd H1 r (.ins t.e_Reader dx (rf u (p' + [41].length)))) r = some (.ins t.e_Reader dx (rf u (p' + [41].length))) := upd_same
      have sB : SameB r H1 (upd H1 r (.ins t.e_Reader dx (rf u (p' + [41].length)))) := SameB.upd
      generalize upd H1 r (.ins t.e_Reader dx (rf u (p' + [41].length))) = H2 at hS sB ⊢
      have nlr : li ≠ r := fun z => by rw [z, hR.1] at nli; cases nli
      have hli2 := sB _ _ nlr hli
      have hA2 := hA.keep (Kp.but sB hR1.1 (nc_of T) (nt_of T))
      refine ⟨_, rfl, _, rfl, fun x dx' hx hdx hnx => ⟨x, dx', li, n, rfl, upd_same, rfl, ?_⟩⟩
      rw [upd_upd]
      have s3 : Same H2 (upd (upd H2 dx' (.own x)) x (.ins t.e_Times dx' (tf n li))) := (Same.upd hdx).over hx
      have hx2 : (upd (upd H2 dx' (.own x)) x (.ins t.e_Times dx' (tf n li))) x = some (.ins t.e_Times dx' (tf n li)) := upd_same
      generalize upd (upd H2 dx' (.own x)) x (.ins t.e_Times dx' (tf n li)) = H3 at s3 hx2 ⊢
      have nxr : x ≠ r := fun z => by rw [z, hS] at hx; cases hx
      have sH : SameB r H H2 := s1.trans sB
      have l9 := hA2.len
      refine k1 x xs (p' + 1) H3 (sH.trans (sameB s3)) ⟨s3 _ _ hS, hlt, hR.2.2⟩ ?_ (sH.none hx nxr) n1 ⟨dx', li, rs, hx2, s3 _ _ hli2, nli, by omega, l9, hA2.le, (hA2.keep (Kp.same s3)).at_⟩ ⟨n1, by omega, hne, hxl, hG⟩ (by rw [hdr] at hRI; exact hRI) ?_
      · omega
      · rw [hac, hdr]
        exact ai_close e1
    · refine ⟨_, rfl, ?_⟩
      refine iteT ?_
      have h41 := drop0n hno
      refine ⟨by decide, k2 H1 s1 (.inr ?_)⟩
      rw [hac]
      cases e9 : u.drop p' with
      | nil => exact decide_eq_false (by omega)
      | cons c v =>
        rw [e9] at h32 h41
        exact ai_no (fun z => h32 (by rw [z]; rfl)) (fun z => h41 (by rw [z]; rfl))
theorem ai_blank {e : Nat} {v : List Nat} : ai e (32 :: v) = acc .start e v := by
  show (if (32 : Nat) = 32 then acc .start e v else if (32 : Nat) = 41 then (if 0 < e then acc .closed (e - 1) v else false) else false) = acc .start e v
  rw [if_pos rfl]
theorem drop2 {u : List Nat} {p : Nat} (h : (u.drop p).take [42, 40].length = [42, 40]) : u.drop p = 42 :: 40 :: u.drop (p + 2) := by
  cases e : u.drop p with
  | nil => rw [e] at h; simp at h
  | cons a v =>
    cases v with
    | nil => rw [e] at h; simp at h
    | cons b v =>
      rw [e] at h
      have : a = 42 ∧ b = 40 := by simpa using h
      rw [← List.drop_drop, e, this.1, this.2]
      rfl
theorem drop2_lt {u v : List Nat} {p a b : Nat} (e : u.drop p = a :: b :: v) : p + 2 ≤ u.length := by
  have := congrArg List.length e
  rw [List.length_drop, List.length_cons, List.length_cons] at this
  omega
theorem okx_read_item {k d : Nat} (hk : 5 ≤ k) (T : Txt K mg t) (G_read_times : FnOk P w K mg base (CX1 P w) k t.f_read_times t.d_read_times ["reader", "count", "depth"] (sp_xtimes t d)) :
    FnOk P w K mg base (CX1 P w) (k + 1) t.f_read_item t.d_read_item ["reader", "depth"] (sp_xitem t d) := by
  have G_Reader_took : FnOk P w K mg base CX0 1 t.f_Reader_took t.d_Reader_took _ _ := ok_Reader_took T
  have G_read_number : FnOk P w K mg base (CX1 P w) 4 t.f_read_number t.d_read_number _ _ := okx_read_number T
  have G_read_path : FnOk P w K mg base (CX1 P w) 5 t.f_read_path t.d_read_path _ _ := okx_read_path T
  refine T.read_item.F.okX sc_read_item (fun vs H Q E h => ?_) (fun cdv A outer s H vs Q E hr h => ?_)
  · obtain ⟨r, dx, u, p, e, rfl, _⟩ := h
    rfl
  · obtain ⟨r, dx, u, p, e, rfl, he, hR, u9, k1, k2⟩ := h
    have fr := fg_rest u p
    have fl := fg_le hR.2.1
    have np := num_start (d := e) (fg_dg (u := u) (p := p)) fr.2
    rw [← fr.1] at np
    refine ⟨_, (pss_cons (ps_set (i := 2) sc_read_item.nd rfl (Or.inl rfl) (pe_call (G_read_number.mono (by omega)) hr rfl T.read_number.m T.read_number.F.kp T.read_number.b .nil pass1 (pa_cons (pv 0) pa_nil)))
      (pss_cons (ps_if (pt_val (pe_meth (pv 0) T.o_Reader.c T.m_Reader_took.m (G_Reader_took.mono (by omega)) hr T.m_Reader_took.b .nil pass0 (pa_cons pe_str pa_nil)))
        (pss_one (ps_ret (pe_call (G_read_times.mono (by omega)) hr rfl T.read_times.m T.read_times.F.kp T.read_times.b .nil pass1 (pa_cons (pv 0) (pa_cons (pv 2) (pa_cons (pe_op op_add (pv 1) pe_int) pa_nil))))))
        pss_nil)
      (pss_one (ps_ret (pe_call (G_read_path.mono (by omega)) hr rfl T.read_path.m T.read_path.F.kp T.read_path.b .nil pass1 (pa_cons (pv 0) (pa_cons (pv 2) pa_nil))))))), ?_⟩
    refine ⟨_, rfl, r, dx, u, p, rfl, hR, fun n hok hn hz hv => ?_, fun hnok H' sb => k2 H' sb (np.2 hnok)⟩
    have hac := np.1 hok
    have hdrop : (u.drop p).drop (figs (u.drop p)).length = u.drop (p + (fg u p).length) := by rw [List.drop_drop]; rfl
    have hpos : p < p + (fg u p).length := by have := hok.1.1; omega
    have hqf := @qS_fig (fg u p)
    have hS : (upd H r (.ins t.e_Reader dx (rf u (p + (fg u p).length)))) r = some (.ins t.e_Reader dx (rf u (p + (fg u p).length))) := upd_same
    have sB : SameB r H (upd H r (.ins t.e_Reader dx (rf u (p + (fg u p).length)))) := SameB.upd
    generalize hp1 : p + (fg u p).length = p1 at hac hS sB fl hpos fr np hdrop ⊢
    generalize hq : qS (fg u p) = q at hac hqf
    have qcl : q.cl = true ∧ q ≠ .closed := by rw [← hq]; exact qS_cl
    have back : ∀ b, (upd H r (.ins t.e_Reader dx (rf u p1))) b = none → H b = none := fun b hb => by
      by_cases hbr : b = r
      · rw [hbr, hS] at hb; cases hb
      · exact sB.none hb hbr
    generalize upd H r (.ins t.e_Reader dx (rf u p1)) = H1 at hS sB back ⊢
    refine ⟨_, rfl, r, dx, rf u p1, rfl, hS, (rf_meth u _).2.1, r, dx, u, p1, [42, 40], (by rw [star_open]; rfl), ⟨hS, fl, hR.2.2⟩, (by decide), fun hyes => ?_, fun hno => ?_⟩
    · refine ⟨_, rfl, ?_⟩
      refine iteT ?_
      have hdr := drop2 hyes
      have hlt := drop2_lt hdr
      have hdrF := hdrop.trans hdr
      rw [hdr, acc_times] at hac
      have hS2 : (upd H1 r (.ins t.e_Reader dx (rf u (p1 + [42, 40].length)))) r = some (.ins t.e_Reader dx (rf u (p1 + [42, 40].length))) := upd_same
      have sB2 : SameB r H1 (upd H1 r (.ins t.e_Reader dx (rf u (p1 + [42, 40].length)))) := SameB.upd
      have back2 : ∀ b, (upd H1 r (.ins t.e_Reader dx (rf u (p1 + [42, 40].length)))) b = none → H b = none := fun b hb => by
        by_cases hbr : b = r
        · rw [hbr, hS2] at hb; cases hb
        · exact back b (sB2.none hb hbr)
      generalize upd H1 r (.ins t.e_Reader dx (rf u (p1 + [42, 40].length))) = H2 at hS2 sB2 back2 ⊢
      refine ⟨_, rfl, _, rfl, _, rfl, _, _, rfl, rfl, ?_⟩
      cases d with
      | zero =>
        refine ⟨r, dx, u, p1 + 2, n, ?_, ⟨hS2, hlt, hR.2.2⟩, fun H' sb => k2 H' ((sB.trans sB2).trans sb) ?_⟩
        · rw [show e = 8 by omega]; rfl
        · rw [hac, if_neg (by omega)]
      | succ d =>
        refine ⟨r, dx, u, p1 + 2, n, e + 1, rfl, by omega, by omega, ⟨hS2, hlt, hR.2.2⟩, u9, hn, fun a xs p' H' s1 hR1 hpp na n1 hA hG hRI hac2 => ?_, fun H' sb hb => k2 H' ((sB.trans sB2).trans sb) ?_⟩
        · refine k1 a _ p' H' ((sB.trans sB2).trans s1) hR1 (by omega) (back2 a na) (AtJ.imp (fun b hb _ => back2 b hb) _ _ _ hA) hG ?_ ?_
          · obtain ⟨x, ys, r', rfl, q1, q2⟩ := hRI
            exact ⟨hv, _, x, ys, r', hdrF, rfl, q1, q2⟩
          rw [hac, if_pos ⟨hqf.mpr (fun z => by have := hz.mpr z; omega), by omega⟩, hac2]
          exact ai_of rfl (fun z => absurd rfl z) (fun z => by rcases z with z | z <;> cases z)
        · rw [hac]
          rcases hb with hb | hb
          · exact if_neg fun z => hqf.mp z.1 (hz.mp hb)
          · rw [hb]
            split <;> rfl
    · refine ⟨_, rfl, ?_⟩
      refine iteF ?_
      refine ⟨_, rfl, _, rfl, r, dx, u, p1, n, q, e, rfl, ⟨hS, fl, hR.2.2⟩, u9, hn, qcl.1, qcl.2, fr.2, fun _ => hno, fun a ns p' H' s1 hR1 hpp na hA hns hl hPT hac2 => ?_, fun H' sb hb => k2 H' (sB.trans sb) (by rw [hac, hb])⟩
      refine k1 a (.pth (ofN (n :: ns))) p' H' (sB.trans s1) hR1 (by omega) (back a na) (by cases d <;> exact hA) ?_ ?_ (by rw [hac, hac2])
      case refine_2 =>
        have q : ((u.drop p).drop (figs (u.drop p)).length).take 2 ≠ [42, 40] ∧ ∃ ns', ofN (n :: ns) = ofN (vlN (figs (u.drop p)) :: ns') ∧ PT ((u.drop p).drop (figs (u.drop p)).length) ns' (u.drop p') := ⟨by rw [hdrop]; exact hno, ns, by rw [hv]; rfl, by rw [hdrop]; exact hPT⟩
        cases d <;> exact q
      have g : ∃ n0 ns', ofN (n :: ns) = ofN (n0 :: ns') ∧ (∀ m ∈ n0 :: ns', m < 100) ∧ ns'.length ≤ 5000 := ⟨n, ns, rfl, fun m hm => by
        rcases List.mem_cons.mp hm with z | z
        · rw [z]; exact hn
        · exact hns m z, hl⟩
      cases d <;> exact g
theorem okx_read_items {k d : Nat} (hk : 1 ≤ k) (T : Txt K mg t) (G_read_item : FnOk P w K mg base (CX1 P w) k t.f_read_item t.d_read_item ["reader", "depth"] (sp_xitem t d)) :
    FnOk P w K mg base (CX1 P w) (k + 1) t.f_read_items t.d_read_items ["reader", "depth"] (sp_xitems t d) := by
  have G_Reader_took : FnOk P w K mg base CX0 1 t.f_Reader_took t.d_Reader_took _ _ := ok_Reader_took T
  refine T.read_items.F.okX sc_read_items (fun vs H Q E h => ?_) (fun cdv A outer s H vs Q E hr h => ?_)
  · obtain ⟨r, dx, u, p, e, rfl, _⟩ := h
    rfl
  · obtain ⟨r, dx, u, p, e, rfl, he, hR, u9, k1, k2⟩ := h
    refine ⟨_, (pss_cons (ps_set (i := 2) sc_read_items.nd rfl (Or.inl rfl) (pe_lst (pa_cons (pe_call (G_read_item.mono (by omega)) hr rfl T.read_item.m T.read_item.F.kp T.read_item.b .nil pass1 (pa_cons (pv 0) (pa_cons (pv 1) pa_nil))) pa_nil)))
      (pss_cons (ps_fr fun hfr => (ps_while (ownX body1 hfr) (pt_val (pe_meth (pv 0) T.o_Reader.c T.m_Reader_took.m (G_Reader_took.mono (by omega)) hr T.m_Reader_took.b .nil pass0 (pa_cons pe_str pa_nil)))
        (pss_one (ps_expr (pe_bmK (K := K) PySem.F.plainAttrs_list PySem.F.slot_list_append PySem.F.type_list_append mt_append (pv 2) (pa_cons (pe_call (G_read_item.mono (by omega)) hr rfl T.read_item.m T.read_item.F.kp T.read_item.b .nil pass1 (pa_cons (pv 0) (pa_cons (pv 1) pa_nil))) pa_nil))))))
      (pss_one (ps_ret (pv 2))))), ?_⟩
    refine ⟨_, rfl, _, rfl, r, dx, u, p, e, rfl, he, hR, u9, fun a x0 p1 H1 s1 hR1 hp1 na hA hG0 hRI1 hac1 => ?_, fun H1 s1 hb => k2 H1 s1 hb⟩
    refine ⟨(by show 1 ≤ sizeLine; decide), fun li hli => ?_⟩
    have s2 : Same H1 (upd H1 li (.lst [.ref a])) := .upd hli
    have hl2 : (upd H1 li (.lst [.ref a])) li = some (.lst ([a].map V.ref)) := upd_same
    have nlr : li ≠ r := fun z => by rw [z, hR1.1] at hli; cases hli
    have nli : H li = none := s1.none hli nlr
    have a1 : AtJs t (upd H1 li (.lst [.ref a])) (fun b => H b = none ∧ b ≠ li) d [a] [x0] := ⟨rfl, by simp, fun i b x e1 e2 => by
      cases i with
      | zero =>
        cases e1; cases e2
        exact AtJ.keep (Kp.same s2) d _ _ (AtJ.imp (fun b hb ⟨o, ho⟩ => ⟨hb, fun z => by rw [z, hli] at ho; cases ho⟩) d _ _ hA)
      | succ i => simp at e1⟩
    generalize upd H1 li (.lst [.ref a]) = H1' at s2 hl2 a1 ⊢
    refine ⟨fun m σ H2 => ∃ (q : Nat) (rs : List Addr) (xs : List It), σ = [some (.ref r), some (.int (e : Int)), some (.ref li)] ∧ SameB r H H2 ∧ Rd t H2 r dx u q ∧ p + xs.length ≤ q ∧ xs ≠ [] ∧ (∀ x ∈ xs, Gd d x) ∧ acc .start e (u.drop p) = ai e (u.drop q) ∧ H2 li = some (.lst (rs.map V.ref)) ∧ AtJs t H2 (fun b => H b = none ∧ b ≠ li) d rs xs ∧ (∀ ys r, RIm (RI d) (u.drop q) ys r → RIs d (u.drop p) (xs ++ ys) r) ∧ m = u.length - q,
      ⟨_, p1, [a], [x0], rfl, s1.trans (sameB s2), ⟨s2 _ _ hR1.1, hR1.2⟩, hp1, by simp, (fun x hx => by rw [List.mem_singleton.mp hx]; exact hG0), hac1, hl2, a1, (fun ys r h => ⟨x0, ys, _, rfl, hRI1, h⟩), rfl⟩, ?_⟩
    rintro m σ H2 ⟨q, rs, xs, rfl, s3, hR3, hq3, hne3, hG3, hac3, hl3, hA3, hRI3, rfl⟩
    have q9 := hR3.2.1
    refine ⟨_, rfl, r, dx, rf u q, rfl, hR3.1, (rf_meth u _).2.1, r, dx, u, q, [32], (by rw [blank1]; rfl), hR3, (by decide), fun hyes => ?_, fun hno => ?_⟩
    · refine ⟨_, rfl, ?_⟩
      refine iteT ?_
      have hdr := drop0 hyes
      have hlt := drop_lt hdr
      rw [hdr, ai_blank] at hac3
      have hS4 : (upd H2 r (.ins t.e_Reader dx (rf u (q + [32].length)))) r = some (.ins t.e_Reader dx (rf u (q + [32].length))) := upd_same
      have hl4 : (upd H2 r (.ins t.e_Reader dx (rf u (q + [32].length)))) li = some (.lst (rs.map V.ref)) := by rw [upd_ne nlr]; exact hl3
      have s4 : SameB r H2 (upd H2 r (.ins t.e_Reader dx (rf u (q + [32].length)))) := SameB.upd
      generalize upd H2 r (.ins t.e_Reader dx (rf u (q + [32].length))) = H4 at hS4 hl4 s4 ⊢
      refine ⟨_, fun σ' H' h => h, ?_⟩
      refine ⟨_, rfl, .inl ⟨rfl, _, SqL.of hl4⟩, _, rfl, _, rfl, r, dx, u, q + 1, e, rfl, he, ⟨hS4, hlt, hR3.2.2⟩, u9, fun b y p5 H5 s5 hR5 hp5 nb hB hGy hRI5 hac5 => ?_, fun H5 s5 hb => k2 H5 ((s3.trans s4).trans s5) (by rw [hac3, hb])⟩
      have hl5 := s5 _ _ nlr hl4
      have p5l := hR5.2.1
      have lrs : rs.length ≤ 5000 := by
        have := hA3.len
        omega
      refine ⟨_, _, _, rfl, rfl, hl5, (by rw [List.length_map]; exact small6000 (by omega)), ?_⟩
      have sB : SameB r H2 H5 := s4.trans s5
      have hA5 := hA3.keep (Kp.but sB hR3.1 (nc_of T) (nt_of T))
      have hB5 : AtJ t H5 (fun b => H b = none ∧ b ≠ li) d b y := AtJ.imp (fun c hc _ => ⟨(s3.trans s4).none hc (fun z => by rw [z, hS4] at hc; cases hc), fun z => by rw [z, hl4] at hc; cases hc⟩) d _ _ hB
      have nF : ¬ (H li = none ∧ li ≠ li) := fun z => z.2 rfl
      have hA6 := (hA5.snoc hB5 (by omega)).keep (Kp.app (o := .lst (rs.map V.ref ++ [V.ref b])) hl5 nF)
      refine ⟨u.length - p5, by omega, p5, rs ++ [b], xs ++ [y], rfl, ?_, ⟨?_, hR5.2⟩, by rw [List.length_append, List.length_singleton]; omega, by simp, ?_, by rw [hac3, hac5], ?_, hA6, (fun ys r h => ?_), rfl⟩
      · intro c o hc ec
        rw [upd_ne (ne_of_none ec nli)]
        exact sB c o hc (s3 c o hc ec)
      · rw [upd_ne nlr.symm]; exact hR5.1
      · intro x hx
        rcases List.mem_append.mp hx with hx | hx
        · exact hG3 x hx
        · rw [List.mem_singleton.mp hx]; exact hGy
      · rw [upd_same, List.map_append]; rfl
      · rw [List.append_assoc]
        refine hRI3 _ _ ?_
        rw [hdr]
        exact RIm.cons hRI5 h
    · refine ⟨_, rfl, ?_⟩
      refine iteF ?_
      have l0 : 1 ≤ xs.length := by
        cases xs with
        | nil => exact absurd rfl hne3
        | cons _ _ => simp
      exact ⟨_, rfl, k1 li rs xs q H2 s3 hR3 nli hl3 ⟨hA3.len, hA3.le, fun i r x e1 e2 => AtJ.imp (fun b hb _ => hb.1) d _ _ (hA3.at_ i r x e1 e2)⟩ hG3 hne3 (by omega) (by omega) (drop0n hno) (by have := hRI3 [] _ (RIm.nil (drop0n hno)); rw [List.append_nil] at this; exact this) hac3⟩
theorem fn_no {k : Nat} {CX : CXT} {f : Addr} {fd : FuncData} {ps : List Str} : FnOk P w K mg base CX k f fd ps (fun _ _ _ _ => False) := ⟨fun _ _ _ _ h => h.elim, fun _ _ _ _ _ _ _ _ _ _ _ _ _ h => h.elim⟩
theorem okx_items (T : Txt K mg t) : ∀ d : Nat, FnOk P w K mg base (CX1 P w) (4 * d + 7) t.f_read_items t.d_read_items ["reader", "depth"] (sp_xitems t d)
  | 0 => okx_read_items (k := 6) (by decide) T (okx_read_item (k := 5) (by decide) T ((okx_read_times0 T fn_no).mono (by decide)))
  | d + 1 => okx_read_items (k := 4 * d + 10) (by omega) T (okx_read_item (k := 4 * d + 9) (by omega) T (okx_read_times (k := 4 * d + 7) (by omega) T (okx_items T d)))
def Wri (u : List Nat) : Prop := u = [] ∨ acc .start 0 u = true
def Prs (u : List Nat) (xs : List It) : Prop := (u = [] ∧ xs = []) ∨ (u ≠ [] ∧ RIs 8 u xs [])
theorem Prs.det {u : List Nat} {xs ys : List It} (h : Prs u xs) (g : Prs u ys) : xs = ys := by
  rcases h with h | h
  · rcases g with g | g
    · rw [h.2, g.2]
    · exact absurd h.1 g.1
  · rcases g with g | g
    · exact absurd g.1 h.1
    · exact (h.2.det g.2).1
def sp_xrow (t : Adr) : Sp := fun vs H Q E => ∃ u : List Nat, vs = [.str (tx u)] ∧ u.length ≤ 5000 ∧
  (∀ (li : Addr) (rs : List Addr) (xs : List It) (H' : Hp), Wri u → Same H H' → H li = none → H' li = some (.lst (rs.map V.ref)) → AtIs t H' 8 rs xs → (∀ x ∈ xs, Gd 8 x) → Prs u xs → Q (.ref li) H') ∧ (∀ H', ¬ Wri u → Same H H' → E (.ref t.e_NoRow) none H')
theorem okx_read_row (T : Txt K mg t) : FnOk P w K mg base (CX1 P w) 40 t.f_read_row t.d_read_row ["text"] (sp_xrow t) := by
  have G_Reader_ended : FnOk P w K mg base CX0 1 t.f_Reader_ended t.d_Reader_ended _ _ := ok_Reader_ended T
  have G_Reader___init__ : FnOk P w K mg base CX0 1 t.f_Reader___init__ t.d_Reader___init__ _ _ := ok_Reader___init__ T
  have G_read_items : FnOk P w K mg base (CX1 P w) 39 t.f_read_items t.d_read_items _ _ := okx_items T 8
  refine T.read_row.F.okX sc_read_row (fun vs H Q E h => ?_) (fun cdv A outer s H vs Q E hr h => ?_)
  · obtain ⟨u, rfl, _⟩ := h
    rfl
  · obtain ⟨u, rfl, u9, k1, k2⟩ := h
    refine ⟨_, (pss_cons (ps_if (pt_cmpR op_eq (pv 0) pe_str (nomark _))
        (pss_one (ps_ret (pe_lst pa_nil)))
        pss_nil)
      (pss_cons (ps_set (i := 1) sc_read_row.nd rfl (Or.inl rfl) (pe_make T.o_Reader.m (G_Reader___init__.mono (by decide)) hr rfl T.k_Reader T.m_Reader___init__.b .nil pass0 (pa_cons (pv 0) pa_nil)))
      (pss_cons (ps_set (i := 2) sc_read_row.nd rfl (Or.inl rfl) (pe_call (G_read_items.mono (by decide)) hr rfl T.read_items.m T.read_items.F.kp T.read_items.b .nil pass1 (pa_cons (pv 1) (pa_cons pe_int pa_nil))))
      (pss_cons (ps_if (pt_not (pt_val (pe_meth0 (pv 1) T.o_Reader.c T.m_Reader_ended.m (G_Reader_ended.mono (by decide)) hr T.m_Reader_ended.b .nil pass0)))
        (pss_one (ps_raise body1 rfl (fun _ _ z => z) PySem.F.excBase_ValueError has_ve PySem.F.excBase_ValueError T.x_NoRow.q rfl T.k_NoRow (pa_cons pe_str pa_nil)))
        pss_nil)
      (pss_one (ps_ret (pv 2))))))), ?_⟩
    refine ⟨_, rfl, rfl, _, rfl, ?_⟩
    by_cases eu : u = []
    · refine iteDp (by rw [eu]; exact congrArg V.str (by decide +kernel)) ?_
      refine ⟨Nat.zero_le _, fun li hli => ?_⟩
      exact k1 li [] [] _ (.inl eu) (.upd hli) hli upd_same ⟨rfl, by simp, fun i r x e1 _ => by simp at e1⟩ (fun x hx => by simp at hx) (.inl ⟨eu, rfl⟩)
    refine iteDn (fun z => ?_) ?_
    · injection z with z
      exact eu (tx_inj (z.trans (by decide +kernel)))
    refine ⟨_, rfl, fun r dx hr1 hdx hne => ⟨r, dx, u, rfl, upd_same, rfl, ?_⟩⟩
    rw [upd_upd]
    have hR : Rd t (upd (upd H dx (.own r)) r (.ins t.e_Reader dx (rf u 0))) r dx u 0 := ⟨upd_same, Nat.zero_le _, by omega⟩
    have s1 : Same H (upd (upd H dx (.own r)) r (.ins t.e_Reader dx (rf u 0))) := (Same.upd hdx).over hr1
    generalize upd (upd H dx (.own r)) r (.ins t.e_Reader dx (rf u 0)) = H1 at hR s1 ⊢
    have s3 : ∀ {H'}, SameB r H1 H' → Same H H' := fun s2 b o e => s2 b o (ne_of_none e hr1) (s1 b o e)
    refine ⟨_, rfl, r, dx, u, 0, 0, rfl, by decide, hR, u9, fun li rs xs p' H' s2 hR' nli hli hA hG hxn hxl hpp h32 hRI hac => ?_, fun H' s2 hb => k2 H' (fun z => ?_) (s3 s2)⟩
    · rw [List.drop_zero] at hac
      refine ⟨_, rfl, r, dx, rf u p', rfl, hR'.1, (rf_meth u _).1, r, dx, u, p', rfl, hR', _, rfl, ?_⟩
      by_cases ce : p' = u.length
      · rw [decide_eq_true ce]
        refine iteF ?_
        rw [ce, List.drop_length] at hac
        exact ⟨_, rfl, k1 li rs xs H' (.inr (by rw [hac]; rfl)) (s3 s2) (s1.free nli) hli ⟨hA.len, hA.le, fun i r x e1 e2 => AtJ.to 8 _ _ (hA.at_ i r x e1 e2)⟩ hG (.inr ⟨eu, by rw [ce, List.drop_length, List.drop_zero] at hRI; exact hRI⟩)⟩
      · rw [decide_eq_false ce]
        refine iteT ⟨by decide, k2 H' (fun z => ?_) (s3 s2)⟩
        rcases z with z | z
        · exact eu z
        · rw [hac] at z
          cases e9 : u.drop p' with
          | nil =>
            have h1 := congrArg List.length e9
            rw [List.length_drop, List.length_nil] at h1
            have h2 := hR'.2.1
            omega
          | cons c v =>
            rw [e9] at z h32
            by_cases c41 : c = 41
            · rw [c41] at z
              have : ai 0 (41 :: v) = false := rfl
              rw [this] at z
              cases z
            · rw [ai_no (fun q => h32 (by rw [q]; rfl)) c41] at z
              cases z
    · rcases z with z | z
      · exact eu z
      · rw [List.drop_zero, z] at hb
        cases hb
end
theorem Sms.of_all : ∀ {xs : List It}, (∀ x ∈ xs, x.Sm) → Sms xs
  | [], _ => by simp only [Sms]
  | x :: xs, h => by
    simp only [Sms]
    exact ⟨h x List.mem_cons_self, Sms.of_all fun y hy => h y (List.mem_cons_of_mem _ hy)⟩
theorem Gd.sm : ∀ (d : Nat) (x : It), Gd d x → x.Sm
  | d, .pth ss, h => by
    have hG0 : ∃ n0 ns, ss = ofN (n0 :: ns) ∧ (∀ n ∈ n0 :: ns, n < 100) ∧ ns.length ≤ 5000 := by cases d <;> exact h
    obtain ⟨n0, ns, rfl, hn, _⟩ := hG0
    simp only [It.Sm]
    refine ⟨by simp [ofN], fun s hs => ?_⟩
    obtain ⟨n, hn', rfl⟩ := List.mem_map.mp hs
    have := hn n hn'
    show n ≤ 400
    omega
  | 0, .tms n xs, h => h.elim
  | d + 1, .tms n xs, h => by
    obtain ⟨h1, _, _, _, h5⟩ := h
    simp only [It.Sm]
    exact ⟨h1, Sms.of_all fun y hy => Gd.sm d y (h5 y hy)⟩
section
variable {P : Program} {w : World} {K : PySem.W.Frag} {mg : Str → Option Value} {base : Heap} {t : Adr}
structure Rw (u : List Nat) (xs : List It) : Prop where
  w : Wri u
  g : ∀ x ∈ xs, Gd 8 x
  r : Prs u xs
def sp_xunf (t : Adr) : Sp := fun vs H Q E => ∃ u : List Nat, vs = [.str (tx u)] ∧ u.length ≤ 5000 ∧
  (∀ xs q H', Rw u xs → szs xs ≤ 400 → Same H H' → H q = none → H' q = some (.lst (vI (nus xs))) → Q (.ref q) H') ∧ (∀ xs H', Rw u xs → 400 < szs xs → Same H H' → E (.ref t.e_TooLarge) none H') ∧ (∀ H', ¬ Wri u → Same H H' → E (.ref t.e_NoRow) none H')
theorem okx_unfolded (T : Txt K mg t) : FnOk P w K mg base (CX1 P w) 41 t.f_unfolded t.d_unfolded ["text"] (sp_xunf t) := by
  have G_read_row : FnOk P w K mg base (CX1 P w) 40 t.f_read_row t.d_read_row _ _ := okx_read_row T
  have G_whole_size : FnOk P w K mg base CX0 18 t.f_whole_size t.d_whole_size _ _ := ok_wsz T 8
  have G_all_numbers : FnOk P w K mg base CX0 19 t.f_all_numbers t.d_all_numbers _ _ := ok_wnu T 8
  refine T.unfolded.F.okX sc_unfolded (fun vs H Q E h => ?_) (fun cdv A outer s H vs Q E hr h => ?_)
  · obtain ⟨u, rfl, _⟩ := h
    rfl
  · obtain ⟨u, rfl, u9, k1, k2, k3⟩ := h
    refine ⟨_, (pss_cons (ps_set (i := 1) sc_unfolded.nd rfl (Or.inl rfl) (pe_call (G_read_row.mono (by decide)) hr rfl T.read_row.m T.read_row.F.kp T.read_row.b .nil pass1 (pa_cons (pv 0) pa_nil)))
      (pss_cons (ps_if (pt_cmpR op_gt (pe_call (G_whole_size.mono (by decide)) hr rfl T.whole_size.m T.whole_size.F.kp T.whole_size.b .nil pass0 (pa_cons (pv 1) pa_nil)) (pe_glob (v := .int 400) rfl T.c_MOST_NUMBERS.choose_spec ⟨_, rfl⟩) (nomark _))
        (pss_one (ps_raise body1 rfl (fun _ _ z => z) PySem.F.excBase_ValueError has_ve PySem.F.excBase_ValueError T.x_TooLarge.q rfl T.k_TooLarge (pa_cons pe_str pa_nil)))
        pss_nil)
      (pss_one (ps_ret (pe_call (G_all_numbers.mono (by decide)) hr rfl T.all_numbers.m T.all_numbers.F.kp T.all_numbers.b .nil pass0 (pa_cons (pv 1) pa_nil)))))), ?_⟩
    refine ⟨_, rfl, u, rfl, u9, fun li rs xs H1 hw s1 nli hli hA hG hP => ?_, fun H1 hw s1 => k3 H1 hw s1⟩
    refine ⟨_, rfl, li, rs, _, rfl, hli, hA, fun H2 s2 => ?_⟩
    refine ⟨_, _, rfl, rfl, _, rfl, ?_⟩
    refine ite2D (fun c => ?_) (fun c => ?_)
    · exact ⟨by decide, k2 xs H2 ⟨hw, hG, hP⟩ c (s1.trans s2)⟩
    · have c' : szs xs ≤ 400 := Int.not_lt.mp c
      exact ⟨_, rfl, li, rs, xs, rfl, s2 _ _ hli, hA.same s2, Sms.of_all fun x hx => Gd.sm 8 x (hG x hx), c', fun q H3 s3 nq hq => k1 xs q H3 ⟨hw, hG, hP⟩ c' ((s1.trans s2).trans s3) ((s1.trans s2).free nq) hq⟩
end
theorem stps_bd {a b : Int} (ha : 0 ≤ a ∧ a < 100) (hb : 0 ≤ b ∧ b < 100) : ∀ z ∈ stps a b, 0 ≤ z ∧ z < 100 := fun z hz => by
  obtain ⟨i, hi, e⟩ := List.getElem_of_mem hz
  have g := stps_get (a := a) (b := b) (q := i + 1) (by omega) (by rw [← stps_len]; omega)
  have l := stps_len a b
  rw [Nat.add_sub_cancel, List.getElem?_eq_getElem hi] at g
  injection g with g
  rw [← e, g]
  unfold absI at l
  split <;> split at l <;> omega
theorem go_bd : ∀ (r : List Int) (a : Int), 0 ≤ a ∧ a < 100 → (∀ z ∈ r, 0 ≤ z ∧ z < 100) → ∀ z ∈ go a r, 0 ≤ z ∧ z < 100
  | [], a, _, _ => fun z hz => by simp [go] at hz
  | b :: r, a, ha, hr => fun z hz => by
    simp only [go] at hz
    rcases List.mem_append.mp hz with hz | hz
    · exact stps_bd ha (hr b List.mem_cons_self) z hz
    · exact go_bd r b (hr b List.mem_cons_self) (fun z h => hr z (List.mem_cons_of_mem _ h)) z hz
mutual
theorem It.nu_bd : ∀ (d : Nat) (x : It), Gd d x → ∀ z ∈ x.nu, 0 ≤ z ∧ z < 100
  | d, .pth ss, h => by
    have hG0 : ∃ n0 ns, ss = ofN (n0 :: ns) ∧ (∀ n ∈ n0 :: ns, n < 100) ∧ ns.length ≤ 5000 := by cases d <;> exact h
    obtain ⟨n0, ns, rfl, hn, _⟩ := hG0
    have hb : ∀ z ∈ ofN (n0 :: ns), 0 ≤ z ∧ z < 100 := fun z hz => by
      obtain ⟨n, hn', rfl⟩ := List.mem_map.mp hz
      have := hn n hn'
      show 0 ≤ (n : Int) ∧ (n : Int) < 100
      omega
    intro z hz
    simp only [It.nu] at hz
    unfold ofN at hz hb
    rw [List.map_cons] at hz hb
    simp only [pnum] at hz
    rcases List.mem_cons.mp hz with hz | hz
    · rw [hz]; exact hb _ List.mem_cons_self
    · exact go_bd _ _ (hb _ List.mem_cons_self) (fun z h => hb z (List.mem_cons_of_mem _ h)) z hz
  | 0, .tms n xs, h => h.elim
  | d + 1, .tms n xs, h => by
    obtain ⟨_, _, _, _, h5⟩ := h
    intro z hz
    simp only [It.nu] at hz
    obtain ⟨l, hl, hz⟩ := List.mem_flatten.mp hz
    rw [(List.mem_replicate.mp hl).2] at hz
    exact nus_bd d xs h5 z hz
theorem nus_bd : ∀ (d : Nat) (xs : List It), (∀ x ∈ xs, Gd d x) → ∀ z ∈ nus xs, 0 ≤ z ∧ z < 100
  | d, [], _ => fun z hz => by simp [nus] at hz
  | d, x :: xs, h => fun z hz => by
    simp only [nus] at hz
    rcases List.mem_append.mp hz with hz | hz
    · exact It.nu_bd d x (h x List.mem_cons_self) z hz
    · exact nus_bd d xs (fun y hy => h y (List.mem_cons_of_mem _ hy)) z hz
end
def Wr (u : List Nat) (ks : List Int) : Prop := ∃ xs, Rw u xs ∧ szs xs ≤ 400 ∧ nus xs = ks
def Big (u : List Nat) : Prop := ∃ xs, Rw u xs ∧ 400 < szs xs
inductive Rk : List Nat → Str → List Int → Prop where
  | good {u : List Nat} {ks : List Int} : Wr u ks → Rk u "" ks
  | no {u : List Nat} {ks : List Int} : ¬ Wri u → Rk u "NoRow" ks
  | big {u : List Nat} {ks : List Int} : Big u → Rk u "TooLarge" ks
section
variable {P : Program} {w : World} {K : PySem.W.Frag} {mg : Str → Option Value} {base : Heap} {t : Adr}
def clsW (t : Adr) (wd : Str) : Addr := if wd = "NoRow" then t.e_NoRow else if wd = "TooLarge" then t.e_TooLarge else t.e_NoDraft
theorem cls_no (t : Adr) : clsW t "NoRow" = t.e_NoRow := if_pos rfl
theorem cls_big (t : Adr) : clsW t "TooLarge" = t.e_TooLarge := by
  unfold clsW
  rw [if_neg (by decide +kernel), if_pos rfl]
theorem cls_dr (t : Adr) : clsW t "NoDraft" = t.e_NoDraft := by
  unfold clsW
  rw [if_neg (by decide +kernel), if_neg (by decide +kernel)]
def sp_unk (t : Adr) : Sp := fun vs H Q E => ∃ (u : List Nat) (wd : Str) (ks : List Int), vs = [.str (tx u)] ∧ u.length ≤ 5000 ∧ Rk u wd ks ∧
  (wd = "" → ∀ q H', Same H H' → H q = none → H' q = some (.lst (vI ks)) → Q (.ref q) H') ∧ (wd ≠ "" → ∀ H', Same H H' → E (.ref (clsW t wd)) none H')
theorem okx_unk (T : Txt K mg t) : FnOk P w K mg base (CX1 P w) 41 t.f_unfolded t.d_unfolded ["text"] (sp_unk t) := (okx_unfolded T).imp fun vs H Q E ⟨u, wd, ks, e, lu, R, k1, k2⟩ => by
  refine ⟨u, e, lu, fun xs q H' hx h4 s nq hq => ?_, fun xs H' hx h4 s => ?_, fun H' hw s => ?_⟩
  · cases R with
    | good R =>
      obtain ⟨ys, hy, _, rfl⟩ := R
      rw [hx.r.det hy.r] at hq
      exact k1 rfl q H' s nq hq
    | no R => exact absurd hx.w R
    | big R =>
      obtain ⟨ys, hy, h5⟩ := R
      rw [hx.r.det hy.r] at h4
      omega
  · cases R with
    | good R =>
      obtain ⟨ys, hy, h5, _⟩ := R
      rw [hx.r.det hy.r] at h4
      omega
    | no R => exact absurd hx.w R
    | big R =>
      have := k2 (by decide +kernel) H' s
      rw [cls_big] at this
      exact this
  · cases R with
    | good R => exact absurd R.choose_spec.1.w hw
    | no R =>
      have := k2 (by decide +kernel) H' s
      rw [cls_no] at this
      exact this
    | big R => exact absurd R.choose_spec.1.w hw
end
def mT : List Nat → List Nat
  | [] => []
  | n :: r => 32 :: (dec n ++ mT r)
def numT : List Nat → List Nat
  | [] => []
  | n :: r => dec n ++ mT r
theorem figs_dec {n : Nat} (h : n < 100) {rest : List Nat} (hs : NoF rest) : figs (dec n ++ rest) = dec n := by
  have d := dec_is h
  rw [figs_eq (dec n ++ rest) (dec n).length (by rw [List.length_append]; omega)]
  · exact List.take_left
  · rw [List.take_left]
    exact fun c hc => decide_eq_true (d.dg c hc)
  · intro c hc
    rw [List.getElem?_append_right (Nat.le_refl _), Nat.sub_self] at hc
    exact decide_eq_false (hs c hc)
theorem dec_okN {n : Nat} (h : n < 100) : okN (dec n) := ⟨⟨(dec_is h).l1, (dec_is h).l2⟩, (dec_is h).z⟩
theorem dec_v {n : Nat} (h : n < 100) : vlN (dec n) = n := (dec_is h).v
theorem dec_48 {n : Nat} (h : n < 100) (h1 : 1 ≤ n) : dec n ≠ [48] := fun z => by
  have := (dec_is h).v
  rw [z] at this
  have e : PySem.NumText.digitsVal [48] = 0 := rfl
  omega
theorem noF_mT (r : List Nat) : NoF (mT r) := fun c hc => by
  cases r with
  | nil => cases hc
  | cons n r =>
    have : 32 = c := by simpa [mT] using hc
    omega
theorem acc_dec {n d : Nat} (h : n < 100) {rest : List Nat} (hs : NoF rest) : acc .start d (dec n ++ rest) = acc (qS (dec n)) d rest := (num_start (dec_is h).dg hs).1 (dec_okN h)
def itN (ns : List Nat) : List It := ns.map fun n => .pth (ofN [n])
theorem ri_num {d n : Nat} (h : n < 100) {rest : List Nat} (hs : NoF rest) (h2 : rest.take 2 ≠ [42, 40]) (h3 : rest[0]? ≠ some 45) : RI d (dec n ++ rest) (.pth (ofN [n])) rest := by
  have q : ((dec n ++ rest).drop (figs (dec n ++ rest)).length).take 2 ≠ [42, 40] ∧ ∃ ns, ofN [n] = ofN (vlN (figs (dec n ++ rest)) :: ns) ∧ PT ((dec n ++ rest).drop (figs (dec n ++ rest)).length) ns rest := by
    rw [figs_dec h hs, List.drop_left, dec_v h]
    exact ⟨h2, [], rfl, PT.stop h3⟩
  cases d <;> exact q
theorem gd_num {d n : Nat} (h : n < 100) : Gd d (.pth (ofN [n])) := by
  have g : ∃ n0 ns', ofN [n] = ofN (n0 :: ns') ∧ (∀ m ∈ n0 :: ns', m < 100) ∧ ns'.length ≤ 5000 := ⟨n, [], rfl, fun m hm => by rw [List.mem_singleton.mp hm]; exact h, by decide⟩
  cases d <;> exact g
theorem mT_2 (r : List Nat) : (mT r).take 2 ≠ [42, 40] ∧ (mT r)[0]? ≠ some 45 := by
  cases r with
  | nil => exact ⟨by simp [mT], by simp [mT]⟩
  | cons n r => exact ⟨by simp [mT], by simp [mT]⟩
theorem rim_num : ∀ (r : List Nat), (∀ n ∈ r, n < 100) → RIm (RI 8) (mT r) (itN r) []
  | [], _ => RIm.nil (by simp [mT])
  | n :: r, h => RIm.cons (ri_num (h n List.mem_cons_self) (noF_mT r) (mT_2 r).1 (mT_2 r).2) (rim_num r fun m hm => h m (List.mem_cons_of_mem _ hm))
theorem acc_num : ∀ (r : List Nat) (n : Nat), n < 100 → (∀ m ∈ r, m < 100) → acc .start 0 (numT (n :: r)) = true
  | [], n, h, _ => by
    show acc .start 0 (dec n ++ mT []) = true
    rw [acc_dec h (noF_mT [])]
    show (decide (0 = 0) && (qS (dec n)).cl) = true
    rw [qS_cl.1]
    rfl
  | m :: r, n, h, hr => by
    show acc .start 0 (dec n ++ mT (m :: r)) = true
    rw [acc_dec h (noF_mT _), ai_of qS_cl.1 (fun _ => ⟨noF_mT _, (mT_2 _).2⟩) (fun _ => (mT_2 _).1)]
    show ai 0 (32 :: numT (m :: r)) = true
    rw [ai_blank]
    exact acc_num r m (hr m List.mem_cons_self) fun x hx => hr x (List.mem_cons_of_mem _ hx)
theorem numT_ne {n : Nat} (h : n < 100) (r : List Nat) : numT (n :: r) ≠ [] := fun z => by
  have := congrArg List.length z
  have l := (dec_is h).l1
  simp only [numT, List.length_append, List.length_nil] at this
  omega
theorem nus_itN : ∀ ns : List Nat, nus (itN ns) = ofN ns
  | [] => rfl
  | n :: r => by
    show (It.pth (ofN [n])).nu ++ nus (itN r) = ofN (n :: r)
    rw [nus_itN r]
    simp only [It.nu]
    rfl
theorem szs_itN : ∀ ns : List Nat, szs (itN ns) = (ns.length : Int)
  | [] => rfl
  | n :: r => by
    show (It.pth (ofN [n])).sz + szs (itN r) = _
    rw [szs_itN r]
    simp only [It.sz]
    show (1 : Int) + 0 + (r.length : Int) = ((r.length + 1 : Nat) : Int)
    omega
theorem wr_num {ns : List Nat} (h : ∀ n ∈ ns, n < 100) (hl : ns.length ≤ 400) : Wr (numT ns) (ofN ns) := by
  refine ⟨itN ns, ⟨?_, fun x hx => ?_, ?_⟩, by rw [szs_itN]; omega, nus_itN ns⟩
  · cases ns with
    | nil => exact .inl rfl
    | cons n r => exact .inr (acc_num r n (h n List.mem_cons_self) fun m hm => h m (List.mem_cons_of_mem _ hm))
  · obtain ⟨n, hn, rfl⟩ := List.mem_map.mp hx
    exact gd_num (h n hn)
  · cases ns with
    | nil => exact .inl ⟨rfl, rfl⟩
    | cons n r =>
      refine .inr ⟨numT_ne (h n List.mem_cons_self) r, .pth (ofN [n]), itN r, mT r, rfl, ri_num (h n List.mem_cons_self) (noF_mT r) (mT_2 r).1 (mT_2 r).2, ?_⟩
      exact rim_num r fun m hm => h m (List.mem_cons_of_mem _ hm)
def tmT (n : Nat) (far : Nat) : List Nat := dec n ++ ([42, 40, 48, 45] ++ dec far ++ [41])
theorem psz2 (far : Nat) : psz (ofN [0, far]) = 1 + (far : Int) := by
  have := len_go (ofN [0, far]) 1 (by simp [ofN])
  show szTo (ofN [0, far]) 1 = _
  rw [szTo_succ]
  show (1 : Int) + 0 + absI ((far : Int) - 0) = _
  unfold absI
  rw [if_neg (by omega)]
  omega
theorem rw_tm {n far : Nat} (h1 : 1 ≤ n) (h9 : n < 100) (hf : far < 100) : Rw (tmT n far) [.tms n [.pth (ofN [0, far])]] := by
  have nf : NoF ([42, 40, 48, 45] ++ dec far ++ [41]) := fun c hc => by
    have : 42 = c := by simpa using hc
    omega
  have nf1 : NoF [41] := fun c hc => by
    have : 41 = c := by simpa using hc
    omega
  have nf2 : NoF (45 :: (dec far ++ [41])) := fun c hc => by
    have : 45 = c := by simpa using hc
    omega
  have f0 : figs (48 :: 45 :: (dec far ++ [41])) = [48] := by
    have := figs_eq (48 :: 45 :: (dec far ++ [41])) 1 (by simp) (fun c hc => by rw [show c = 48 by simpa using hc]; decide) (fun c hc => by rw [show c = 45 by simpa using hc.symm]; decide)
    rw [this]
    rfl
  have fT : figs (tmT n far) = dec n := figs_dec h9 nf
  refine ⟨.inr ?_, fun x hx => ?_, .inr ⟨fun z => ?_, _, [], [], rfl, ?_, RIm.nil (by simp)⟩⟩
  · unfold tmT
    rw [acc_dec h9 nf]
    show acc (qS (dec n)) 0 (42 :: 40 :: (48 :: 45 :: (dec far ++ [41]))) = true
    rw [acc_times, if_pos ⟨qS_fig.mpr (dec_48 h9 h1), by decide⟩]
    have e := (num_start (v := [48]) (d := 1) (fun c hc => by rw [show c = 48 by simpa using hc]; decide) nf2).1 ⟨⟨by decide, by decide⟩, by simp⟩
    have e' : acc .start (0 + 1) (48 :: 45 :: (dec far ++ [41])) = acc (qS [48]) 1 (45 :: (dec far ++ [41])) := e
    rw [e', acc_dash qS_cl.1 qS_cl.2, (num_point (dec_is hf).dg nf1).1 (dec_okN hf), ai_of qP_cl.1 (fun _ => ⟨nf1, by simp⟩) (fun _ => by simp)]
    rfl
  · rw [List.mem_singleton.mp hx]
    refine ⟨h1, by omega, by simp, by simp, fun y hy => ?_⟩
    rw [List.mem_singleton.mp hy]
    exact ⟨0, [far], rfl, fun m hm => by
      rcases List.mem_cons.mp hm with z | z
      · rw [z]; decide
      · rw [List.mem_singleton.mp z]; exact hf, by simp⟩
  · have := congrArg List.length z
    unfold tmT at this
    simp only [List.length_append, List.length_cons, List.length_nil] at this
    omega
  · refine ⟨by rw [fT, dec_v h9], 48 :: 45 :: (dec far ++ [41]), _, [], [41], ?_, rfl, ⟨?_, [far], ?_, ?_⟩, RIm.nil (by simp)⟩
    · rw [fT]
      unfold tmT
      rw [List.drop_left]
      rfl
    · rw [f0]
      simp
    · rw [f0]
      rfl
    · rw [f0]
      show PT (45 :: (dec far ++ [41])) [far] [41]
      have := PT.step (v := dec far ++ [41]) (ns := []) (r := [41]) (by rw [figs_dec hf nf1, List.drop_left]; exact PT.stop (by simp))
      rw [figs_dec hf nf1, dec_v hf] at this
      exact this
theorem szs_tm (n far : Nat) : szs [.tms n [.pth (ofN [0, far])]] = (n : Int) * (1 + (far : Int)) := by
  simp only [szs, It.sz, Int.add_zero]
  rw [psz2]
theorem nus_tm (n far : Nat) : nus [.tms n [.pth (ofN [0, far])]] = (List.replicate n (ofN (List.range (far + 1)))).flatten := by
  simp only [nus, It.nu, List.append_nil]
  have : pnum (ofN [0, far]) = ofN (List.range (far + 1)) := by
    show (0 : Int) :: (stps 0 (far : Int) ++ []) = _
    rw [List.append_nil]
    apply List.ext_getElem?
    intro i
    cases i with
    | zero =>
      unfold ofN
      rw [List.getElem?_map, List.getElem?_range (by omega)]
      rfl
    | succ i =>
      rw [List.getElem?_cons_succ]
      unfold ofN
      have sl := stps_len 0 (far : Int)
      unfold absI at sl
      rw [if_neg (by omega)] at sl
      by_cases c : i < far
      · have g := stps_get (a := 0) (b := (far : Int)) (q := i + 1) (by omega) (by unfold absI; rw [if_neg (by omega)]; omega)
        rw [if_neg (by omega), Nat.add_sub_cancel] at g
        rw [g, List.getElem?_map, List.getElem?_range (by omega)]
        simp
      · rw [List.getElem?_eq_none (by omega), List.getElem?_eq_none (by rw [List.length_map, List.length_range]; omega)]
  rw [this]
def bgT (far : Nat) : List Nat := dec 99 ++ (42 :: 40 :: (dec 9 ++ (32 :: (dec 9 ++ (32 :: (dec far ++ (32 :: (dec 2 ++ (45 :: (dec 4 ++ [41]))))))))))
theorem noF_c {c : Nat} {r : List Nat} (h : ¬ (48 ≤ c ∧ c ≤ 57)) : NoF (c :: r) := fun x hx => by
  have : c = x := by simpa using hx
  rw [← this]; exact h
theorem acc_b {n d : Nat} (h : n < 100) (r : List Nat) : acc .start d (dec n ++ 32 :: r) = acc .start d r := by
  rw [acc_dec h (noF_c (by decide)), ai_of qS_cl.1 (fun _ => ⟨noF_c (by decide), by simp⟩) (fun _ => by simp), ai_blank]
theorem big_bg {far : Nat} (hf : far < 100) : Big (bgT far) := by
  have n99 : (99 : Nat) < 100 := by decide
  have n9 : (9 : Nat) < 100 := by decide
  have n2 : (2 : Nat) < 100 := by decide
  have n4 : (4 : Nat) < 100 := by decide
  have f1 : NoF [41] := noF_c (by decide)
  have f2 : NoF (45 :: (dec 4 ++ [41])) := noF_c (by decide)
  have f3 : NoF (32 :: (dec 2 ++ (45 :: (dec 4 ++ [41])))) := noF_c (by decide)
  have f4 : NoF (32 :: (dec far ++ (32 :: (dec 2 ++ (45 :: (dec 4 ++ [41])))))) := noF_c (by decide)
  have f5 : NoF (32 :: (dec 9 ++ (32 :: (dec far ++ (32 :: (dec 2 ++ (45 :: (dec 4 ++ [41])))))))) := noF_c (by decide)
  have f6 : NoF (42 :: 40 :: (dec 9 ++ (32 :: (dec 9 ++ (32 :: (dec far ++ (32 :: (dec 2 ++ (45 :: (dec 4 ++ [41])))))))))) := noF_c (by decide)
  have p24 : RI 7 (dec 2 ++ (45 :: (dec 4 ++ [41]))) (.pth (ofN [2, 4])) [41] := by
    refine ⟨?_, [4], ?_, ?_⟩
    · rw [figs_dec n2 f2, List.drop_left]; simp
    · rw [figs_dec n2 f2, dec_v n2]
    · rw [figs_dec n2 f2, List.drop_left]
      have := PT.step (v := dec 4 ++ [41]) (ns := []) (r := [41]) (by rw [figs_dec n4 f1, List.drop_left]; exact PT.stop (by simp))
      rw [figs_dec n4 f1, dec_v n4] at this
      exact this
  refine ⟨[.tms 99 [.pth (ofN [9]), .pth (ofN [9]), .pth (ofN [far]), .pth (ofN [2, 4])]], ⟨.inr ?_, fun x hx => ?_, .inr ⟨fun z => ?_, _, [], [], rfl, ?_, RIm.nil (by simp)⟩⟩, ?_⟩
  · unfold bgT
    rw [acc_dec n99 f6, acc_times, if_pos ⟨qS_fig.mpr (dec_48 n99 (by decide)), by decide⟩, acc_b n9, acc_b n9, acc_b hf, acc_dec n2 f2, acc_dash qS_cl.1 qS_cl.2, (num_point (dec_is n4).dg f1).1 (dec_okN n4), ai_of qP_cl.1 (fun _ => ⟨f1, by simp⟩) (fun _ => by simp)]
    rfl
  · rw [List.mem_singleton.mp hx]
    refine ⟨by decide, by decide, by simp, by simp, fun y hy => ?_⟩
    simp only [List.mem_cons, List.not_mem_nil, or_false] at hy
    rcases hy with z | z | z | z <;> rw [z]
    · exact gd_num n9
    · exact gd_num n9
    · exact gd_num hf
    · exact ⟨2, [4], rfl, fun m hm => by
        rcases List.mem_cons.mp hm with z | z
        · rw [z]; decide
        · rw [List.mem_singleton.mp z]; decide, by simp⟩
  · have := congrArg List.length z
    unfold bgT at this
    simp only [List.length_append, List.length_cons, List.length_nil] at this
    omega
  · refine ⟨by unfold bgT; rw [figs_dec n99 f6, dec_v n99], _, _, _, _, by unfold bgT; rw [figs_dec n99 f6, List.drop_left], rfl, ri_num n9 f5 (by simp) (by simp), ?_⟩
    exact RIm.cons (ri_num n9 f4 (by simp) (by simp)) (RIm.cons (ri_num hf f3 (by simp) (by simp)) (RIm.cons p24 (RIm.nil (by simp))))
  · have e : psz (ofN [2, 4]) = 3 := by decide
    simp only [szs, It.sz, Int.add_zero]
    have e1 : ∀ n : Nat, psz (ofN [n]) = 1 := fun n => rfl
    rw [e1, e1, e]
    decide
theorem no_last {u : List Nat} {c : Nat} (h : c = 32 ∨ c = 45) : ¬ Wri (u ++ [c]) := fun z => by
  rcases z with z | z
  · simp at z
  · unfold acc at z
    rw [wrun_snoc] at z
    generalize wrun .start 0 u = q at z
    have : (wst q.1 q.2 c).1.cl = false := by
      unfold wst
      rcases h with h | h <;> subst h
      · rw [if_neg (by decide), if_neg (by simp), if_neg (by simp), if_neg (by simp)]
        split
        · rfl
        · rw [if_neg (by simp)]; rfl
      · rw [if_neg (by decide), if_neg (by simp), if_neg (by simp)]
        split
        · rfl
        · rw [if_neg (by simp), if_neg (by simp)]; rfl
    rw [this] at z
    simp at z
theorem no_first {u : List Nat} {c : Nat} (h : ¬ (48 ≤ c ∧ c ≤ 57)) : ¬ Wri (c :: u) := fun z => by
  rcases z with z | z
  · simp at z
  · rw [num_bad0 (.inl rfl) (noF_c h)] at z
    cases z
theorem no_07 {u : List Nat} : ¬ Wri (48 :: 55 :: u) := fun z => by
  rcases z with z | z
  · simp at z
  · rw [acc_fig (by decide), acc_fig (by decide)] at z
    have : fgr (fgr .start 48) 55 = .bad := by decide
    rw [this, acc_bad] at z
    cases z
def Str9 (c : Nat) : Prop := ¬ (48 ≤ c ∧ c ≤ 57) ∧ c ≠ 42 ∧ c ≠ 40 ∧ c ≠ 45 ∧ c ≠ 32 ∧ c ≠ 41
theorem acc_str {c : Nat} (h : Str9 c) : ∀ (u v : List Nat) (s : Wk) (d : Nat), acc s d (u ++ c :: v) = false
  | [], v, s, d => by
    rw [List.nil_append, acc_cons]
    have : (wst s d c).1 = .bad := by
      obtain ⟨h1, h2, h3, h4, h5, h6⟩ := h
      unfold wst
      rw [if_neg h1, if_neg (fun z => h2 z.1), if_neg (fun z => h3 z.1), if_neg (fun z => h4 z.1), if_neg (fun z => h5 z.1), if_neg (fun z => h6 z.1)]
    rw [this]
    exact acc_bad _ _
  | a :: u, v, s, d => by
    rw [List.cons_append, acc_cons]
    exact acc_str h u v _ _
theorem no_str {u v : List Nat} {c : Nat} (h : Str9 c) : ¬ Wri (u ++ c :: v) := fun z => by
  rcases z with z | z
  · simp at z
  · rw [acc_str h] at z
    cases z
def c47 : List Nat → Prop
  | [] => True
  | a :: r => (a = 32 → r[0]? ≠ some 47) ∧ c47 r
def c44 : List Nat → Prop
  | [] => True
  | a :: r => (a = 44 → r[0]? ≠ some 32) ∧ c44 r
theorem c47.at : ∀ {u : List Nat}, c47 u → ∀ i, u[i]? = some 32 → u[i + 1]? ≠ some 47
  | [], _, i, h => by simp at h
  | a :: r, h, 0, e => by
    have : a = 32 := by simpa using e
    rw [List.getElem?_cons_succ]
    exact h.1 this
  | a :: r, h, i + 1, e => by
    rw [List.getElem?_cons_succ] at e ⊢
    exact c47.at h.2 i e
theorem c44.at : ∀ {u : List Nat}, c44 u → ∀ i, u[i]? = some 44 → u[i + 1]? ≠ some 32
  | [], _, i, h => by simp at h
  | a :: r, h, 0, e => by
    have : a = 44 := by simpa using e
    rw [List.getElem?_cons_succ]
    exact h.1 this
  | a :: r, h, i + 1, e => by
    rw [List.getElem?_cons_succ] at e ⊢
    exact c44.at h.2 i e
theorem c47.app : ∀ {a b : List Nat}, c47 a → c47 b → (a.getLast? = some 32 → b[0]? ≠ some 47) → c47 (a ++ b)
  | [], b, _, hb, _ => hb
  | [x], b, ha, hb, h => ⟨fun e => h (by rw [e]; rfl), hb⟩
  | x :: y :: r, b, ha, hb, h => ⟨fun e => by
      have := ha.1 e
      simpa using this, c47.app ha.2 hb (fun e => h (by rw [List.getLast?_cons_cons]; exact e))⟩
theorem c44.app : ∀ {a b : List Nat}, c44 a → c44 b → (a.getLast? = some 44 → b[0]? ≠ some 32) → c44 (a ++ b)
  | [], b, _, hb, _ => hb
  | [x], b, ha, hb, h => ⟨fun e => h (by rw [e]; rfl), hb⟩
  | x :: y :: r, b, ha, hb, h => ⟨fun e => by
      have := ha.1 e
      simpa using this, c44.app ha.2 hb (fun e => h (by rw [List.getLast?_cons_cons]; exact e))⟩
theorem c47_of : ∀ {u : List Nat}, 47 ∉ u → c47 u
  | [], _ => trivial
  | a :: r, h => ⟨fun _ e => h (List.mem_cons_of_mem _ (List.mem_of_getElem? e)), c47_of fun z => h (List.mem_cons_of_mem _ z)⟩
theorem c44_of : ∀ {u : List Nat}, 44 ∉ u → c44 u
  | [], _ => trivial
  | a :: r, h => ⟨fun e => absurd (by rw [e]; exact List.mem_cons_self) h, c44_of fun z => h (List.mem_cons_of_mem _ z)⟩
structure Cl2 (u : List Nat) : Prop where
  a : c47 u
  b : c44 u
  f : u[0]? ≠ some 47
  l : u.length ≤ 2500
theorem jn47 : ∀ (us : List (List Nat)), (∀ u ∈ us, Cl2 u) → c47 (jnS [44, 32] us) ∧ (jnS [44, 32] us)[0]? ≠ some 47
  | [], _ => ⟨trivial, by simp [jnS]⟩
  | [u], h => ⟨(h u List.mem_cons_self).a, (h u List.mem_cons_self).f⟩
  | u :: v :: r, h => by
    have ih := jn47 (v :: r) fun x hx => h x (List.mem_cons_of_mem _ hx)
    have hu := h u List.mem_cons_self
    refine ⟨hu.a.app (b := [44, 32] ++ jnS [44, 32] (v :: r)) ⟨(fun e => by cases e), fun _ => ih.2, ih.1⟩ (fun _ => by simp), ?_⟩
    show (u ++ ([44, 32] ++ jnS [44, 32] (v :: r)))[0]? ≠ some 47
    cases u with
    | nil => simp
    | cons a u => exact hu.f
theorem st_parts : ((" / " : Str)) = tx [32, 47, 32] := by decide +kernel
theorem st_ties : ((", " : Str)) = tx [44, 32] := by decide +kernel
def fw : List Str → Str
  | [] => ""
  | w :: r => if w = "" then fw r else w
theorem fw_app : ∀ (a b : List Str), (∀ w ∈ a, w = "") → fw (a ++ b) = fw b
  | [], b, _ => rfl
  | w :: a, b, h => by
    rw [List.cons_append, fw, if_pos (h w List.mem_cons_self)]
    exact fw_app a b fun x hx => h x (List.mem_cons_of_mem _ hx)
theorem fw_hit (a b : List Str) {w : Str} (h : ∀ w ∈ a, w = "") (hw : w ≠ "") : fw (a ++ w :: b) = w := by
  rw [fw_app a _ h, fw, if_neg hw]
structure Rc where
  u : List Nat
  wd : Str
  ks : List Int
structure Rc.Ok (r : Rc) : Prop where
  k : Rk r.u r.wd r.ks
  c : Cl2 r.u
  l : r.ks.length ≤ 400
  n : ∀ z ∈ r.ks, 0 ≤ z ∧ z < 100
section
variable {P : Program} {w : World} {K : PySem.W.Frag} {mg : Str → Option Value} {base : Heap} {t : Adr}
def Cps (H0 H : Hp) (qs : List Addr) (tss : List (List Int)) (i : Nat) : Prop := qs.length = i ∧ (∀ q ∈ qs, H0 q = none) ∧ ∀ (j : Nat) (q : Addr) (ks : List Int), qs[j]? = some q → tss[j]? = some ks → H q = some (.lst (vI ks))
theorem Cps.nil (H0 H : Hp) (tss : List (List Int)) : Cps H0 H [] tss 0 := ⟨rfl, fun q hq => (by cases hq), fun j q ks h => (by simp at h)⟩
theorem Cps.add5 {H0 H H' : Hp} {qs : List Addr} {tss : List (List Int)} {i : Nat} (C : Cps H0 H qs tss i) {l : Addr} {ks' : List Int} (s : Same H H') (hl : H' l = some (.lst (vI ks'))) (n0 : H0 l = none) (hk : tss[i]? = some ks') : Cps H0 H' (qs ++ [l]) tss (i + 1) := by
  refine ⟨by rw [List.length_append, C.1]; rfl, fun q h => ?_, fun j q ks h1 h2 => ?_⟩
  · rcases List.mem_append.mp h with h | h
    · exact C.2.1 q h
    · rw [List.mem_singleton.mp h]; exact n0
  · have ql := C.1
    by_cases hj : j < qs.length
    · rw [List.getElem?_append_left hj] at h1
      exact s _ _ (C.2.2 j q ks h1 h2)
    · rw [List.getElem?_append_right (by omega)] at h1
      have e0 : j = i := by
        have := (List.getElem?_eq_some_iff.mp h1).1
        simp at this
        omega
      rw [show j - qs.length = 0 by omega] at h1
      have e1 : l = q := by simpa using h1
      rw [e0, hk] at h2
      cases h2
      rw [← e1]
      exact hl
def drT (r0 : Rc) (rs : List Rc) (r2 : Rc) : List Nat := jnS [32, 47, 32] [r0.u, jnS [44, 32] (rs.map Rc.u), r2.u]
def sp_xrd3 (t : Adr) : Sp := fun vs H Q E => ∃ (r0 : Rc) (rs : List Rc) (r2 : Rc), vs = [.str (tx (drT r0 rs r2))] ∧ r0.Ok ∧ rs ≠ [] ∧ rs.length ≤ 100 ∧ (∀ r ∈ rs, r.Ok) ∧ r2.Ok ∧ (drT r0 rs r2).length ≤ 1000000 ∧
  (∀ wd H', fw (r0.wd :: rs.map Rc.wd ++ [r2.wd]) = wd → wd ≠ "" → Same H H' → E (.ref (clsW t wd)) none H') ∧
  (fw (r0.wd :: rs.map Rc.wd ++ [r2.wd]) = "" → (Ft r0.ks (rs.map Rc.ks) r2.ks → ∀ (d dx a b c : Addr) (qs : List Addr) (H' : Hp), Same H H' → IsD t H' d dx a b c qs r0.ks (rs.map Rc.ks) r2.ks → Q (.ref d) H') ∧ (¬ Ft r0.ks (rs.map Rc.ks) r2.ks → ∀ H', Same H H' → E (.ref t.e_NoDraft) none H'))
theorem okx_read_draft3 (T : Txt K mg t) : FnOk P w K mg base (CX1 P w) 42 t.f_read_draft t.d_read_draft ["text"] (sp_xrd3 t) := by
  have G_unfolded : FnOk P w K mg base (CX1 P w) 41 t.f_unfolded t.d_unfolded _ _ := okx_unk T
  have G_Draft___init__ : FnOk P w K mg base (CX1 P w) 4 t.f_Draft___init__ t.d_Draft___init__ _ _ := okx_Draft___init__ T
  refine T.read_draft.F.okX sc_read_draft (fun vs H Q E h => ?_) (fun cdv A outer s H vs Q E hr h => ?_)
  · obtain ⟨r0, rs, r2, rfl, _⟩ := h
    rfl
  · obtain ⟨r0, rs, r2, rfl, O0, rne, rl, Os, O2, dl, kE, kQ⟩ := h
    have hsz : sizeLine = 16777216 := sizeLine_eq
    have usne : rs.map Rc.u ≠ [] := fun z => rne (List.map_eq_nil_iff.mp z)
    have Cs : ∀ u ∈ rs.map Rc.u, Cl2 u := fun u hu => by
      obtain ⟨r, hr', rfl⟩ := List.mem_map.mp hu
      exact (Os r hr').c
    have jl : (jnS [44, 32] (rs.map Rc.u)).length ≤ 1000000 := by
      have : (drT r0 rs r2).length = r0.u.length + (3 + ((jnS [44, 32] (rs.map Rc.u)).length + (3 + r2.u.length))) := by
        unfold drT
        simp [jnS]
        omega
      omega
    refine ⟨_, (pss_cons (ps_set (i := 1) sc_read_draft.nd rfl (Or.inl rfl) (pe_bmK (K := K) PySem.F.plainAttrs_str PySem.F.slot_str_split PySem.F.type_str_split mt_splitG (pv 0) (pa_cons (pe_glob (v := .str " / ") rfl T.c_BETWEEN_PARTS.choose_spec ⟨_, rfl⟩) pa_nil)))
      (pss_cons (ps_if (pt_cmpR op_ne (pe_callB (call_len_seqK (K := K)) rfl T.b_len bt_len (pa_cons (pv 1) pa_nil)) pe_int (nomark _))
        (pss_one (ps_raise body1 rfl (fun _ _ z => z) PySem.F.excBase_ValueError has_ve PySem.F.excBase_ValueError T.x_NoDraft.q rfl T.k_NoDraft (pa_cons pe_str pa_nil)))
        pss_nil)
      (pss_cons (ps_set (i := 2) sc_read_draft.nd rfl (Or.inl rfl) (pe_call (G_unfolded.mono (by decide)) hr rfl T.unfolded.m T.unfolded.F.kp T.unfolded.b .nil pass1 (pa_cons (pe_ix (ix_listK (K := K)) (pv 1) pe_int (fun _ _ => rfl)) pa_nil)))
      (pss_cons (ps_setCX (i := 3) (E' := E) body1 (fun _ _ z => z) (CompOk.mk (caps := []) (Nc := ["tie"]) rfl (by decide +kernel) (by decide +kernel) (comp_fr (sc0 := defScope s_read_draft) rfl (by decide +kernel)) rfl rfl rfl (by decide +kernel) (fun _ _ h => by simp at h)) rfl sc_read_draft.nd rfl rfl (pi_listK (K := K) (pe_bmK (K := K) PySem.F.plainAttrs_str PySem.F.slot_str_split PySem.F.type_str_split mt_splitG (pe_ix (ix_listK (K := K)) (pv 1) pe_int (fun _ _ => rfl)) (pa_cons (pe_glob (v := .str ", ") rfl T.c_BETWEEN_TIES.choose_spec ⟨_, rfl⟩) pa_nil))) (fun _ _ _ _ _ => .nil) (fun _ _ _ _ _ => (pe_call (G_unfolded.mono (by decide)) hr rfl T.unfolded.m T.unfolded.F.kp T.unfolded.b .nil passC (pa_cons (pv 0) pa_nil))) rfl)
      (pss_one (ps_ret (pe_make T.o_Draft.m (G_Draft___init__.mono (by decide)) hr rfl T.k_Draft T.m_Draft___init__.b .nil pass1 (pa_cons (pv 2) (pa_cons (pv 3) (pa_cons (pe_call (G_unfolded.mono (by decide)) hr rfl T.unfolded.m T.unfolded.F.kp T.unfolded.b .nil pass1 (pa_cons (pe_ix (ix_listK (K := K)) (pv 1) pe_int (fun _ _ => rfl)) pa_nil)) pa_nil)))))))))), ?_⟩
    refine ⟨_, rfl, rfl, [32, 47, 32], [r0.u, jnS [44, 32] (rs.map Rc.u), r2.u], rfl, congrArg (fun z => [V.str z]) st_parts, by decide, by decide, (by unfold drT at dl; omega), by simp, allC_of fun w hw => ?_, fun lp nlp => ?_⟩
    · simp only [List.mem_cons, List.not_mem_nil, or_false] at hw
      rcases hw with z | z | z <;> rw [z]
      · exact cln_parts O0.c.a.at
      · exact cln_parts (jn47 _ Cs).1.at
      · exact cln_parts O2.c.a.at
    have s1 : Same H (upd H lp (.lst (vS [r0.u, jnS [44, 32] (rs.map Rc.u), r2.u]))) := .upd nlp
    have hp : (upd H lp (.lst (vS [r0.u, jnS [44, 32] (rs.map Rc.u), r2.u]))) lp = some (.lst (vS [r0.u, jnS [44, 32] (rs.map Rc.u), r2.u])) := upd_same
    generalize upd H lp (.lst (vS [r0.u, jnS [44, 32] (rs.map Rc.u), r2.u])) = H1 at s1 hp ⊢
    refine ⟨_, rfl, _, _, rfl, .inl (SqL.of hp), rfl, _, rfl, ?_⟩
    refine iteNS rfl ?_
    have l0 := O0.c.l
    have l2 := O2.c.l
    refine ⟨_, rfl, _, _, _, _, rfl, rfl, SqL.of hp, rfl, r0.u, r0.wd, r0.ks, rfl, by omega, O0.k, fun w0 q0 H2 s2 nq0 hq0 => ?_, fun w0 H2 s2 => kE r0.wd H2 (by show fw (r0.wd :: _) = _; rw [fw, if_neg w0]) w0 (s1.trans s2)⟩
    have hp2 := s2 _ _ hp
    have ulen : (rs.map Rc.u).length ≤ 100 := by rw [List.length_map]; exact rl
    refine ⟨_, rfl, _, _, _, _, rfl, rfl, SqL.of hp2, rfl, rfl, [44, 32], rs.map Rc.u, rfl, congrArg (fun z => [V.str z]) st_ties, by decide, by decide, by omega, usne, allC_of fun u hu => cln_ties (Cs u hu).b.at, fun lt nlt => ?_⟩
    have s3 : Same H2 (upd H2 lt (.lst (vS (rs.map Rc.u)))) := .upd nlt
    have ht : (upd H2 lt (.lst (vS (rs.map Rc.u)))) lt = some (.lst (vS (rs.map Rc.u))) := upd_same
    generalize upd H2 lt (.lst (vS (rs.map Rc.u))) = H3 at s3 ht ⊢
    have u13 := (s1.trans s2).trans s3
    refine ⟨_, rfl, ⟨_, SqL.of ht⟩, comp_list (K := K) (a := lt) (xs := vS (rs.map Rc.u)) (fun i ys H4 => Same H3 H4 ∧ (∀ r ∈ rs.take i, r.wd = "") ∧ ∃ qs : List Addr, ys = qs.map V.ref ∧ Cps H3 H4 qs (rs.map Rc.ks) i) ⟨.refl _, (fun r hr' => by simp at hr'), [], rfl, Cps.nil _ _ _⟩ ?_ ?_ ?_ ?_⟩
    · rintro i ys H4 hi ⟨s4, _, qs, rfl, C⟩
      exact ⟨SqL.of (s4 _ _ ht), by rw [List.length_map, C.1]; exact Nat.le_refl _⟩
    · rw [vS_len]; omega
    · rintro i xv ys H4 hi hxv ⟨s4, hw, qs, rfl, C⟩
      obtain ⟨u, hu, rfl⟩ := vS_got hxv
      rw [List.getElem?_map] at hu
      obtain ⟨r, hr', rfl⟩ := Option.map_eq_some_iff.mp hu
      have O := Os r (List.mem_of_getElem? hr')
      have lu := O.c.l
      refine CTurn.no ?_
      refine ⟨_, rfl, r.u, r.wd, r.ks, rfl, by omega, O.k, fun w1 q H5 s5 nq hq => ?_, fun w1 H5 s5 => ?_⟩
      · refine CN.of hi ⟨s4.trans s5, fun x hx => ?_, qs ++ [q], by rw [List.map_append]; rfl, C.add5 s5 hq (s4.free nq) (by rw [List.getElem?_map, hr']; rfl)⟩
        rw [List.take_add_one, hr'] at hx
        rcases List.mem_append.mp hx with hx | hx
        · exact hw x hx
        · rw [show x = r by simpa using hx]; exact w1
      · refine kE r.wd H5 ?_ w1 ((u13.trans s4).trans s5)
        have hi' : i < rs.length := (List.getElem?_eq_some_iff.mp hr').1
        have er : rs = rs.take i ++ r :: rs.drop (i + 1) := by
          have e1 : rs[i] = r := (List.getElem?_eq_some_iff.mp hr').2
          rw [← e1, ← List.drop_eq_getElem_cons hi', List.take_append_drop]
        have e2 : (r0.wd :: rs.map Rc.wd ++ [r2.wd]) = (r0.wd :: (rs.take i).map Rc.wd) ++ r.wd :: ((rs.drop (i + 1)).map Rc.wd ++ [r2.wd]) := by
          conv => lhs; rw [er]
          simp
        rw [e2]
        refine fw_hit _ _ (fun x hx => ?_) w1
        rcases List.mem_cons.mp hx with z | z
        · rw [z]; exact w0
        · obtain ⟨y, hy, rfl⟩ := List.mem_map.mp z
          exact hw y hy
    rintro ys H4 lz ⟨s4, hw, qs0, rfl, C4⟩ nlz
    rw [vS_len, List.length_map, List.take_length] at hw
    rw [vS_len, List.length_map] at C4
    have s5 : Same H4 (upd H4 lz (.lst (qs0.map V.ref))) := .upd nlz
    have hlz : (upd H4 lz (.lst (qs0.map V.ref))) lz = some (.lst (qs0.map V.ref)) := upd_same
    generalize upd H4 lz (.lst (qs0.map V.ref)) = H5 at s5 hlz ⊢
    have Z5 : NL H5 lz qs0 (rs.map Rc.ks) := ⟨hlz, by rw [C4.1, List.length_map], fun j q ks h1 h2 => s5 _ _ (C4.2.2 j q ks h1 h2)⟩
    have u35 := (s3.trans s4).trans s5
    have pre : ∀ w ∈ r0.wd :: rs.map Rc.wd, w = "" := fun x hx => by
      rcases List.mem_cons.mp hx with z | z
      · rw [z]; exact w0
      · obtain ⟨y, hy, rfl⟩ := List.mem_map.mp z
        exact hw y hy
    have eF : fw (r0.wd :: rs.map Rc.wd ++ [r2.wd]) = r2.wd := by
      rw [fw_app _ _ pre]
      show (if r2.wd = "" then ("" : Str) else r2.wd) = r2.wd
      split
      next h => exact h.symm
      next => rfl
    refine ⟨_, rfl, _, rfl, _, rfl, _, _, _, _, rfl, rfl, SqL.of (u35 _ _ hp2), rfl, r2.u, r2.wd, r2.ks, rfl, by omega, O2.k, fun w2 q2 H6 s6 nq2 hq2 => ?_, fun w2 H6 s6 => kE r2.wd H6 eF w2 (((s1.trans s2).trans u35).trans s6)⟩
    refine fun d dx nd ndx ndd => ?_
    have sd : Same H6 (upd (upd H6 dx (.own d)) d (.ins t.e_Draft dx [])) := (Same.upd ndx).over nd
    have kk := kQ (by rw [eF]; exact w2)
    have u6 := ((s1.trans s2).trans u35).trans s6
    have b3 : Bd3 r0.ks (rs.map Rc.ks) r2.ks := ⟨by have := O0.l; omega, by rw [List.length_map]; omega, by have := O2.l; omega, fun ks hk => by
      obtain ⟨r, hr', rfl⟩ := List.mem_map.mp hk
      have := (Os r hr').l
      omega⟩
    refine ⟨d, dx, q0, lz, q2, qs0, r0.ks, rs.map Rc.ks, r2.ks, rfl, upd_same, sd _ _ (s6 _ _ (u35 _ _ hq0)), (Z5.same s6).same sd, sd _ _ hq2, b3, fun F a b c qs H7 b7 _ _ _ _ D => ⟨rfl, ?_⟩, fun nF => kk.2 nF _ (u6.trans sd)⟩
    have s7 : Same H6 H7 := fun b o e => b7 b o (fun z => by rw [z, nd] at e; cases e) (sd _ _ e)
    exact kk.1 F d dx a b c qs H7 (u6.trans s7) D
def sp_xrdN (t : Adr) : Sp := fun vs H Q E => ∃ (u : List Nat), vs = [.str (tx u)] ∧ u.length ≤ 1000000 ∧ (∀ ws, ws ≠ [] → jnS [32, 47, 32] ws = u → AllC [32, 47, 32] ws → ws.length ≠ 3) ∧ ∀ H', Same H H' → E (.ref t.e_NoDraft) none H'
theorem okx_read_draftN (T : Txt K mg t) : FnOk P w K mg base (CX1 P w) 42 t.f_read_draft t.d_read_draft ["text"] (sp_xrdN t) := by
  have G_unfolded : FnOk P w K mg base (CX1 P w) 41 t.f_unfolded t.d_unfolded _ _ := okx_unk T
  have G_Draft___init__ : FnOk P w K mg base (CX1 P w) 4 t.f_Draft___init__ t.d_Draft___init__ _ _ := okx_Draft___init__ T
  refine T.read_draft.F.okX sc_read_draft (fun vs H Q E h => ?_) (fun cdv A outer s H vs Q E hr h => ?_)
  · obtain ⟨u, rfl, _⟩ := h
    rfl
  · obtain ⟨u, rfl, lu, h3, k⟩ := h
    have hsz : sizeLine = 16777216 := sizeLine_eq
    obtain ⟨ws, ne, ej, hC⟩ := allC_ex (sp := [32, 47, 32]) (by decide) u.length u (Nat.le_refl _)
    refine ⟨_, (pss_cons (ps_set (i := 1) sc_read_draft.nd rfl (Or.inl rfl) (pe_bmK (K := K) PySem.F.plainAttrs_str PySem.F.slot_str_split PySem.F.type_str_split mt_splitG (pv 0) (pa_cons (pe_glob (v := .str " / ") rfl T.c_BETWEEN_PARTS.choose_spec ⟨_, rfl⟩) pa_nil)))
      (pss_cons (ps_if (pt_cmpR op_ne (pe_callB (call_len_seqK (K := K)) rfl T.b_len bt_len (pa_cons (pv 1) pa_nil)) pe_int (nomark _))
        (pss_one (ps_raise body1 rfl (fun _ _ z => z) PySem.F.excBase_ValueError has_ve PySem.F.excBase_ValueError T.x_NoDraft.q rfl T.k_NoDraft (pa_cons pe_str pa_nil)))
        pss_nil)
      (pss_cons (ps_set (i := 2) sc_read_draft.nd rfl (Or.inl rfl) (pe_call (G_unfolded.mono (by decide)) hr rfl T.unfolded.m T.unfolded.F.kp T.unfolded.b .nil pass1 (pa_cons (pe_ix (ix_listK (K := K)) (pv 1) pe_int (fun _ _ => rfl)) pa_nil)))
      (pss_cons (ps_setCX (i := 3) (E' := E) body1 (fun _ _ z => z) (CompOk.mk (caps := []) (Nc := ["tie"]) rfl (by decide +kernel) (by decide +kernel) (comp_fr (sc0 := defScope s_read_draft) rfl (by decide +kernel)) rfl rfl rfl (by decide +kernel) (fun _ _ h => by simp at h)) rfl sc_read_draft.nd rfl rfl (pi_listK (K := K) (pe_bmK (K := K) PySem.F.plainAttrs_str PySem.F.slot_str_split PySem.F.type_str_split mt_splitG (pe_ix (ix_listK (K := K)) (pv 1) pe_int (fun _ _ => rfl)) (pa_cons (pe_glob (v := .str ", ") rfl T.c_BETWEEN_TIES.choose_spec ⟨_, rfl⟩) pa_nil))) (fun _ _ _ _ _ => .nil) (fun _ _ _ _ _ => (pe_call (G_unfolded.mono (by decide)) hr rfl T.unfolded.m T.unfolded.F.kp T.unfolded.b .nil passC (pa_cons (pv 0) pa_nil))) rfl)
      (pss_one (ps_ret (pe_make T.o_Draft.m (G_Draft___init__.mono (by decide)) hr rfl T.k_Draft T.m_Draft___init__.b .nil pass1 (pa_cons (pv 2) (pa_cons (pv 3) (pa_cons (pe_call (G_unfolded.mono (by decide)) hr rfl T.unfolded.m T.unfolded.F.kp T.unfolded.b .nil pass1 (pa_cons (pe_ix (ix_listK (K := K)) (pv 1) pe_int (fun _ _ => rfl)) pa_nil)) pa_nil)))))))))), ?_⟩
    refine ⟨_, rfl, rfl, [32, 47, 32], ws, by rw [ej], congrArg (fun z => [V.str z]) st_parts, by decide, by decide, (by rw [ej]; omega), ne, hC, fun lp nlp => ?_⟩
    have s1 : Same H (upd H lp (.lst (vS ws))) := .upd nlp
    have hp : (upd H lp (.lst (vS ws))) lp = some (.lst (vS ws)) := upd_same
    generalize upd H lp (.lst (vS ws)) = H1 at s1 hp ⊢
    refine ⟨_, rfl, _, _, rfl, .inl (SqL.of hp), rfl, _, rfl, ?_⟩
    have n3 := h3 ws ne ej hC
    refine iteNp (fun z => n3 ?_) ⟨by decide, k H1 s1⟩
    injection z with z
    rw [vS_len] at z
    omega
theorem fn_or {CX : CXT} {k : Nat} {f : Addr} {fd : FuncData} {ps : List Str} {s1 s2 : Sp} (F : FnOk P w K mg base CX k f fd ps s1) (G : FnOk P w K mg base CX k f fd ps s2) : FnOk P w K mg base CX k f fd ps (fun vs H Q E => s1 vs H Q E ∨ s2 vs H Q E) :=
  ⟨fun vs H Q E h => h.elim (F.len vs H Q E) (G.len vs H Q E), fun A outer s H args us vs Q E hr he hb hv h => h.elim (F.run A outer s H args us vs Q E hr he hb hv) (G.run A outer s H args us vs Q E hr he hb hv)⟩
end
theorem glue_sep (z : List Nat) : ∀ (ys : List (List Nat)) (acc : Array Nat), (ys.map tx).foldl (fun acc p => acc ++ (tx z).cps ++ p.cps) acc = acc ++ ((ys.map fun y => z ++ y).flatten).toArray
  | [], acc => by simp
  | y :: ys, acc => by
    rw [List.map_cons, List.foldl_cons, glue_sep z ys]
    simp [tx]
theorem tx_joinS (z y : List Nat) (ys : List (List Nat)) : Txt.join (tx z) ((y :: ys).map tx) = tx (y ++ (ys.map fun y => z ++ y).flatten) := by
  show Str.mk _ = _
  simp only [List.map_cons, List.drop_one, List.tail_cons, List.headD_cons]
  rw [glue_sep]
  simp [tx]
def nn (l : List Int) : List Nat := l.map Int.toNat
theorem ofN_nn {l : List Int} (h : ∀ z ∈ l, 0 ≤ z) : ofN (nn l) = l := by
  unfold ofN nn
  rw [List.map_map]
  refine (List.map_congr_left fun z hz => ?_).trans (List.map_id l)
  exact Int.toNat_of_nonneg (h z hz)
theorem nn_bd {l : List Int} (h : ∀ z ∈ l, 0 ≤ z ∧ z < 100) : ∀ n ∈ nn l, n < 100 := fun n hn => by
  obtain ⟨z, hz, rfl⟩ := List.mem_map.mp hn
  have := h z hz
  omega
def Nb (ks : List Int) : Prop := ks.length ≤ 400 ∧ ∀ z ∈ ks, 0 ≤ z ∧ z < 100
def nT (ks : List Int) : List Nat := numT (nn ks)
theorem wr_nT {ks : List Int} (h : Nb ks) : Wr (nT ks) ks := by
  have := wr_num (nn_bd h.2) (by unfold nn; rw [List.length_map]; exact h.1)
  rw [ofN_nn fun z hz => (h.2 z hz).1] at this
  exact this
theorem mT_len : ∀ (r : List Nat), (∀ n ∈ r, n < 100) → (mT r).length ≤ 3 * r.length
  | [], _ => Nat.le_refl _
  | n :: r, h => by
    have := mT_len r fun m hm => h m (List.mem_cons_of_mem _ hm)
    have l2 := (dec_is (h n List.mem_cons_self)).l2
    simp only [mT, List.length_cons, List.length_append]
    omega
theorem numT_len {r : List Nat} (h : ∀ n ∈ r, n < 100) : (numT r).length ≤ 3 * r.length := by
  cases r with
  | nil => exact Nat.le_refl _
  | cons n r =>
    have := mT_len r fun m hm => h m (List.mem_cons_of_mem _ hm)
    have l2 := (dec_is (h n List.mem_cons_self)).l2
    simp only [numT, List.length_cons, List.length_append]
    omega
theorem nT_len {ks : List Int} (h : Nb ks) : (nT ks).length ≤ 1200 := by
  have := numT_len (nn_bd h.2)
  have e : (nn ks).length = ks.length := by unfold nn; rw [List.length_map]
  have := h.1
  unfold nT
  omega
def FB (u : List Nat) : Prop := ∀ c ∈ u, (48 ≤ c ∧ c ≤ 57) ∨ c = 32
theorem fb_mT : ∀ (r : List Nat), (∀ n ∈ r, n < 100) → FB (mT r)
  | [], _ => fun c hc => by simp [mT] at hc
  | n :: r, h => fun c hc => by
    simp only [mT, List.mem_cons, List.mem_append] at hc
    rcases hc with e | e | e
    · exact .inr e
    · exact .inl ((dec_is (h n List.mem_cons_self)).dg c e)
    · exact fb_mT r (fun m hm => h m (List.mem_cons_of_mem _ hm)) c e
theorem fb_nT {ks : List Int} (h : Nb ks) : FB (nT ks) := by
  unfold nT
  have hb := nn_bd h.2
  generalize nn ks = r at hb
  cases r with
  | nil => exact fun c hc => by simp [numT] at hc
  | cons n r =>
    intro c hc
    rcases List.mem_append.mp (show c ∈ dec n ++ mT r from hc) with e | e
    · exact .inl ((dec_is (hb n List.mem_cons_self)).dg c e)
    · exact fb_mT r (fun m hm => hb m (List.mem_cons_of_mem _ hm)) c e
theorem dec_last {n : Nat} (h : n < 100) (a : List Nat) : ∀ c, (a ++ dec n).getLast? = some c → 48 ≤ c ∧ c ≤ 57 := fun c hc => by
  have l := (dec_is h).l1
  have ne : dec n ≠ [] := fun z => by rw [z] at l; simp at l
  rw [List.getLast?_append] at hc
  cases e : (dec n).getLast? with
  | none => exact absurd (List.getLast?_eq_none_iff.mp e) ne
  | some d =>
    rw [e] at hc
    cases hc
    exact (dec_is h).dg c (List.mem_of_getLast? e)
theorem mT_last : ∀ (r : List Nat) (a : List Nat), (∀ n ∈ r, n < 100) → r ≠ [] → ∀ c, (a ++ mT r).getLast? = some c → 48 ≤ c ∧ c ≤ 57
  | [], _, _, ne => absurd rfl ne
  | [n], a, h, _ => fun c hc => by
    refine dec_last (h n List.mem_cons_self) (a ++ [32]) c ?_
    have : a ++ mT [n] = a ++ [32] ++ dec n := by simp [mT]
    rw [← this]; exact hc
  | n :: m :: r, a, h, _ => fun c hc => by
    refine mT_last (m :: r) (a ++ 32 :: dec n) (fun x hx => h x (List.mem_cons_of_mem _ hx)) (by simp) c ?_
    have : a ++ mT (n :: m :: r) = (a ++ 32 :: dec n) ++ mT (m :: r) := by simp [mT]
    rw [← this]; exact hc
theorem nT_last {ks : List Int} (h : Nb ks) : ∀ c, (nT ks).getLast? = some c → 48 ≤ c ∧ c ≤ 57 := by
  unfold nT
  have hb := nn_bd h.2
  generalize nn ks = r at hb
  cases r with
  | nil => exact fun c hc => by simp [numT] at hc
  | cons n r =>
    intro c hc
    cases r with
    | nil => exact dec_last (hb n List.mem_cons_self) [] c (by simpa [numT, mT] using hc)
    | cons m r => exact mT_last (m :: r) (dec n) (fun x hx => hb x (List.mem_cons_of_mem _ hx)) (by simp) c hc
theorem nT_first {ks : List Int} (h : Nb ks) : ∀ c, (nT ks)[0]? = some c → 48 ≤ c ∧ c ≤ 57 := by
  unfold nT
  have hb := nn_bd h.2
  generalize nn ks = r at hb
  cases r with
  | nil => exact fun c hc => by simp [numT] at hc
  | cons n r =>
    intro c hc
    have d := dec_is (hb n List.mem_cons_self)
    have l := d.l1
    rw [show numT (n :: r) = dec n ++ mT r from rfl, List.getElem?_append_left (by omega)] at hc
    exact d.dg c (List.mem_of_getElem? hc)
theorem fb_no {u : List Nat} (h : FB u) {c : Nat} (h1 : ¬ (48 ≤ c ∧ c ≤ 57)) (h2 : c ≠ 32) : c ∉ u := fun z => (h c z).elim h1 h2
theorem cl_nT {ks : List Int} (h : Nb ks) : Cl2 (nT ks) :=
  ⟨c47_of (fb_no (fb_nT h) (by decide) (by decide)), c44_of (fb_no (fb_nT h) (by decide) (by decide)), fun z => by have := nT_first h _ z; omega, by have := nT_len h; omega⟩
theorem join_num : ∀ (ns : List Nat), Txt.join (tx [32]) ((ns.map dec).map tx) = tx (numT ns)
  | [] => by simp [Txt.join, Builtin.Str.glued, tx, Str.empty, numT]
  | n :: r => by
    rw [List.map_cons, tx_joinS]
    congr 1
    show dec n ++ _ = dec n ++ mT r
    congr 1
    induction r with
    | nil => rfl
    | cons m r ih =>
      rw [List.map_cons, List.map_cons, List.flatten_cons, ih]
      rfl
theorem sum_num : ∀ (ns : List Nat), (∀ n ∈ ns, n < 100) → (((ns.map dec).map tx).map (·.length)).sum ≤ 2 * ns.length
  | [], _ => Nat.le_refl _
  | n :: r, h => by
    have := sum_num r fun m hm => h m (List.mem_cons_of_mem _ hm)
    have l2 := (dec_is (h n List.mem_cons_self)).l2
    rw [List.map_cons, List.map_cons, List.map_cons, List.sum_cons, tx_len, List.length_cons]
    omega
section
variable {P : Program} {w : World} {K : PySem.W.Frag} {mg : Str → Option Value} {base : Heap} {t : Adr}
theorem rep_vI (m : Nat) (z : Int) : (List.replicate m [V.int z]).flatten = vI (List.replicate m z) := by
  induction m with
  | zero => rfl
  | succ m ih => rw [List.replicate_succ, List.flatten_cons, ih, List.replicate_succ]; rfl
theorem set_nonneg {ks : List Int} {j : Nat} {z : Int} (h : ∀ k ∈ ks, 0 ≤ k) (hz : 0 ≤ z) : ∀ k ∈ ks.set j z, 0 ≤ k := fun k hk => by
  rcases List.mem_or_eq_of_mem_set hk with h1 | h1
  · exact h k h1
  · subst h1; exact hz
def sp_numbers (K : PySem.W.Frag) : Sp := fun vs H Q _ => ∃ (a : Addr) (ns : List Int) (m : Nat), vs = [.ref a, .int (m : Int)] ∧ SqL K H a (vI ns) ∧ ns.length ≤ 63 ∧ 1 ≤ m ∧ m ≤ 1000 ∧
  ∀ (l : Addr) (ks : List Int) (H' : Hp), Same H H' → H l = none → H' l = some (.lst (vI ks)) → ks.length = m → (∀ k ∈ ks, 0 ≤ k) → Q (.ref l) H'
theorem ok_law_numbers (T : Txt K mg t) : FnOk P w K mg base CX0 1 t.f_law_numbers t.d_law_numbers ["script", "many"] (sp_numbers K) := by
  refine T.law_numbers.F.ok sc_law_numbers (fun vs H Q E h => ?_) (fun cdv A outer s H vs Q E hr h => ?_)
  · obtain ⟨a, ns, m, rfl, _⟩ := h
    rfl
  · obtain ⟨a, ns, m, rfl, hS, hl, hm, hm2, k⟩ := h
    have hsz : sizeLine = 16777216 := sizeLine_eq
    refine ⟨_, (pss_cons (ps_set (i := 2) sc_law_numbers.nd rfl (Or.inl rfl) pe_int)
      (pss_cons (ps_set (i := 3) sc_law_numbers.nd rfl (Or.inl rfl) (pe_op op_rep (pe_lst (pa_cons pe_int pa_nil)) (pv 1)))
      (pss_cons (ps_for PassesOwn.never rfl (pi_range1 rfl T.b_range (pa_cons (pe_callB (call_len_seqK (K := K)) rfl T.b_len bt_len (pa_cons (pv 0) pa_nil)) pa_nil)) (pg_name (i := 4) sc_law_numbers.nd rfl (Or.inl rfl))
        (pss_cons (ps_asg (pe_op op_mod (pe_op op_add (pe_op op_mul (pe_ix (ix_listK (K := K)) (pv 3) (pe_op op_mod (pv 4) (pv 1)) (fun _ _ => rfl)) pe_int) (pe_ix (ix_listK (K := K)) (pv 0) (pv 4) (fun _ _ => rfl))) (pe_op op_pow pe_int pe_int)) (pg_sub (pv 3) (pe_op op_mod (pv 4) (pv 1)) set_list))
        (pss_one (ps_set (i := 2) sc_law_numbers.nd rfl (Or.inl rfl) (pe_op op_mod (pe_op op_add (pe_op op_mul (pv 2) pe_int) (pe_ix (ix_listK (K := K)) (pv 0) (pv 4) (fun _ _ => rfl))) pe_int)))))
      (pss_cons (ps_for PassesOwn.never rfl (pi_range2 rfl T.b_range (pa_cons (pe_callB (call_len_seqK (K := K)) rfl T.b_len bt_len (pa_cons (pv 0) pa_nil)) (pa_cons (pv 1) pa_nil))) (pg_name (i := 4) sc_law_numbers.nd rfl (Or.inl rfl))
        (pss_cons (ps_set (i := 2) sc_law_numbers.nd rfl (Or.inl rfl) (pe_op op_mod (pe_op op_add (pe_op op_mul (pv 2) pe_int) (pv 4)) pe_int))
        (pss_one (ps_asg (pe_op op_fdiv (pv 2) pe_int) (pg_sub (pv 3) (pv 4) set_list)))))
      (pss_one (ps_ret (pv 3))))))), ?_⟩
    refine ⟨(by show 1 ≤ sizeLine; decide), fun p hp => ?_⟩
    refine ⟨_, rfl, _, _, _, rfl, rfl, upd_same, (by omega), (by omega), (by show 1 * ((m : Int).toNat) ≤ sizeLine; omega), fun q hq => ?_⟩
    rw [Int.toNat_natCast, rep_vI]
    have s1 : Same H (upd H p (.lst [.int 0])) := .upd hp
    have nq : H q = none := s1.free hq
    have s2 : Same H (upd (upd H p (.lst [.int 0])) q (.lst (vI (List.replicate m 0)))) := s1.new hq
    refine ⟨_, rfl, _, _, rfl, .inl (s2.seq hS), _, rfl, (by omega), (by rw [vI_len]; omega), ?_⟩
    rw [Int.toNat_natCast, vI_len]
    refine for_range (lo := 0) (n := ns.length) (fun i σ H2 => ∃ (mx : Int) (ks : List Int) (v : Option V), σ = [some (.ref a), some (.int (m : Int)), some (.int mx), some (.ref q), v] ∧ Same H H2 ∧ H2 q = some (.lst (vI ks)) ∧ ks.length = m ∧ (∀ k ∈ ks, 0 ≤ k) ∧ 0 ≤ mx)
      ⟨7, _, none, rfl, s2, upd_same, by rw [List.length_replicate], fun k hk => by rw [List.eq_of_mem_replicate hk]; exact Int.le_refl _, by decide⟩ ?_ ?_
    · rintro i σ H2 hi ⟨mx, ks, v, rfl, s3, hq2, hkl, hkn, hmx⟩
      have hix : (0 + (i : Int)) % (m : Int) = ((i % m : Nat) : Int) := by rw [Int.zero_add]; omega
      have hlt : i % m < ks.length := by rw [hkl]; exact Nat.mod_lt _ (by omega)
      have e1 : (vI ks)[((0 + (i : Int)) % (m : Int)).toNat]? = some (.int ks[i % m]) := by
        rw [hix, Int.toNat_natCast]
        exact vI_get (List.getElem?_eq_getElem hlt)
      have e2 : (vI ns)[(0 + (i : Int)).toNat]? = some (.int ns[i]) := by
        rw [Int.zero_add, Int.toNat_natCast]
        exact vI_get (List.getElem?_eq_getElem hi)
      have n1 : 0 ≤ (0 + (i : Int)) % (m : Int) := by rw [hix]; omega
      refine ⟨_, rfl, _, rfl, _, rfl, _, _, rfl, rfl, (by show (0 : Int) < m; omega), ?_⟩
      refine ⟨_, _, _, _, rfl, rfl, SqL.of hq2, atI_of n1 e1, ?_⟩
      refine ⟨_, _, rfl, rfl, .inr ⟨by decide, by decide⟩, ?_⟩
      refine ⟨_, rfl, _, rfl, _, _, _, _, rfl, rfl, s3.seq hS, atI_of (by omega) e2, ?_⟩
      refine ⟨_, _, rfl, rfl, ?_⟩
      refine ⟨_, _, rfl, rfl, ⟨by decide, by decide, by decide⟩, ?_⟩
      refine ⟨_, _, rfl, rfl, (by show (0 : Int) < 10 ^ 60; decide), ?_⟩
      refine ⟨_, rfl, _, rfl, _, rfl, _, _, rfl, rfl, (by show (0 : Int) < m; omega), ?_⟩
      refine ⟨_, _, _, _, rfl, rfl, hq2, ixN_of n1 (by rw [vI_len, hkl]; rw [hix]; omega), ?_⟩
      rw [vI_set]
      refine ⟨_, rfl, _, _, rfl, rfl, .inr ⟨by decide, by decide⟩, ?_⟩
      have s4 : Same H (upd H2 q (.lst (vI (ks.set ((0 + (i : Int)) % (m : Int)).toNat ((ks[i % m] * 31 + ns[i]) % 10 ^ (60 : Int).toNat))))) := s3.over nq
      refine ⟨_, rfl, _, rfl, _, _, _, _, rfl, rfl, s4.seq hS, atI_of (by omega) e2, ?_⟩
      refine ⟨_, _, rfl, rfl, ?_⟩
      refine ⟨_, _, rfl, rfl, (by show (0 : Int) < 2147483647; decide), ?_⟩
      exact ⟨_, _, _, rfl, s4, upd_same, by rw [List.length_set]; exact hkl, set_nonneg hkn (Int.emod_nonneg _ (by decide)), Int.emod_nonneg _ (by decide)⟩
    · rintro σ H2 ⟨mx, ks, v, rfl, s3, hq2, hkl, hkn, hmx⟩
      refine ⟨_, rfl, _, _, rfl, .inl (s3.seq hS), _, rfl, _, _, rfl, ⟨by omega, by rw [vI_len]; omega, by omega, by omega⟩, ?_⟩
      rw [vI_len]
      refine for_range (lo := (ns.length : Int)) (n := ((m : Int) - (ns.length : Int)).toNat) (fun i σ H2 => ∃ (mx : Int) (ks : List Int) (v : Option V), σ = [some (.ref a), some (.int (m : Int)), some (.int mx), some (.ref q), v] ∧ Same H H2 ∧ H2 q = some (.lst (vI ks)) ∧ ks.length = m ∧ (∀ k ∈ ks, 0 ≤ k) ∧ 0 ≤ mx)
        ⟨mx, ks, v, rfl, s3, hq2, hkl, hkn, hmx⟩ ?_ ?_
      · rintro i σ H3 hi ⟨mx, ks, v, rfl, s3, hq2, hkl, hkn, hmx⟩
        refine ⟨_, rfl, _, _, rfl, rfl, .inr ⟨by decide, by decide⟩, ?_⟩
        refine ⟨_, rfl, _, _, rfl, rfl, ?_⟩
        refine ⟨_, _, rfl, rfl, (by show (0 : Int) < 2147483647; decide), ?_⟩
        have hnn : 0 ≤ (mx * 16807 + ((ns.length : Int) + (i : Int))) % 2147483647 := Int.emod_nonneg _ (by decide)
        refine ⟨_, rfl, _, _, rfl, rfl, ⟨by decide, by decide⟩, ?_⟩
        refine ⟨_, rfl, _, rfl, _, _, _, _, rfl, rfl, hq2, ixN_of (by omega) (by rw [vI_len, hkl]; omega), ?_⟩
        rw [vI_set]
        exact ⟨_, _, _, rfl, s3.over nq, upd_same, by rw [List.length_set]; exact hkl, set_nonneg hkn (Int.ediv_nonneg hnn (by decide)), hnn⟩
      · rintro σ H3 ⟨mx, ks, v, rfl, s3, hq2, hkl, hkn, hmx⟩
        exact ⟨_, rfl, k q ks H3 s3 nq hq2 hkl hkn⟩
theorem below {ks : List Int} {i : Nat} (h : ∀ k ∈ ks, k < (i : Int)) : ∀ k ∈ ks ++ [0 + (i : Int)], k < ((i + 1 : Nat) : Int) := fun k hk => by
  rcases List.mem_append.mp hk with h1 | h1
  · have := h k h1; omega
  · rw [List.mem_singleton.mp h1]; omega
def sp_subset : Sp := fun vs H Q _ => ∃ (n : Int), vs = [.int n] ∧ 0 ≤ n ∧ ∀ (l : Addr) (ks : List Int) (H' : Hp), Same H H' → H l = none → H' l = some (.lst (vI ks)) → Rs ks → Q (.ref l) H'
theorem ok_law_subset (T : Txt K mg t) : FnOk P w K mg base CX0 1 t.f_law_subset t.d_law_subset ["number"] sp_subset := by
  refine T.law_subset.F.ok sc_law_subset (fun vs H Q E h => ?_) (fun cdv A outer s H vs Q E hr h => ?_)
  · obtain ⟨n, rfl, _⟩ := h
    rfl
  · obtain ⟨n, rfl, hn, k⟩ := h
    refine ⟨_, (pss_cons (ps_if (PW.pt (pw_and (pt_cmpR op_lt (pv 0) (pe_op op_pow pe_int pe_int) (nomark _)) (pw_and1 (pt_cmpR op_eq (pe_op op_mod (pv 0) pe_int) pe_int (nomark _)))))
        (pss_one (ps_ret (pe_lst pa_nil)))
        pss_nil)
      (pss_cons (ps_if (pt_cmpR op_lt (pv 0) (pe_op op_pow pe_int pe_int) (nomark _))
        (pss_one (ps_set (i := 0) sc_law_subset.nd rfl (Or.inl rfl) (pe_op op_add (pe_op op_mul (pe_op op_mul (pv 0) (pv 0)) pe_int) (pv 0))))
        pss_nil)
      (pss_cons (ps_set (i := 1) sc_law_subset.nd rfl (Or.inl rfl) (pe_lst pa_nil))
      (pss_cons (ps_for PassesOwn.never rfl (pi_range1 rfl T.b_range (pa_cons pe_int pa_nil)) (pg_name (i := 2) sc_law_subset.nd rfl (Or.inl rfl))
        (pss_cons (ps_if (pt_cmpR op_eq (pe_op op_mod (pv 0) pe_int) pe_int (nomark _))
          (pss_one (ps_expr (pe_bmK (K := K) PySem.F.plainAttrs_list PySem.F.slot_list_append PySem.F.type_list_append mt_append (pv 1) (pa_cons (pv 2) pa_nil))))
          pss_nil)
        (pss_one (ps_set (i := 0) sc_law_subset.nd rfl (Or.inl rfl) (pe_op op_fdiv (pv 0) pe_int)))))
      (pss_one (ps_ret (pv 1))))))), ?_⟩
    have e6 : (10 : Int) ^ (6 : Int).toNat = 1000000 := by decide
    refine ⟨_, rfl, _, _, rfl, rfl, ⟨by decide, by decide, by decide⟩, _, _, rfl, rfl, _, rfl, ?_⟩
    rw [e6]
    refine ite2D (fun h6 => ?_) (fun h6 => ?_)
    · refine ⟨_, rfl, _, _, rfl, rfl, (by show (0 : Int) < 8; decide), rfl, _, rfl, ?_⟩
      refine ite2D (fun _ => ?_) (fun _ => ?_)
      · exact ⟨Nat.zero_le _, fun p hp => k p [] _ (.upd hp) hp upd_same rs_nil⟩
      · refine ⟨_, rfl, _, _, rfl, rfl, ⟨by decide, by decide, by decide⟩, _, _, rfl, rfl, _, rfl, ?_⟩
        rw [e6]
        refine iteDp h6 ?_
        refine ⟨_, rfl, _, rfl, _, _, rfl, rfl, .inl ⟨by omega, by omega⟩, ?_⟩
        refine ⟨_, _, rfl, rfl, .inr ⟨by decide, by decide⟩, ?_⟩
        refine ⟨_, rfl, _, _, rfl, rfl, ?_⟩
        refine ⟨Nat.zero_le _, fun p hp => ?_⟩
        refine ⟨_, rfl, by decide, by decide, ?_⟩
        refine for_range (lo := 0) (n := 40) (fun i σ H2 => ∃ (z : Int) (ks : List Int) (v : Option V), σ = [some (.int z), some (.ref p), v] ∧ Same H H2 ∧ H2 p = some (.lst (vI ks)) ∧ ks.length ≤ i ∧ Rs ks ∧ ∀ k ∈ ks, k < (i : Int))
          ⟨_, [], none, rfl, .upd hp, upd_same, Nat.le_refl _, rs_nil, fun k h => (by cases h)⟩ ?_ ?_
        · rintro i σ H2 hi ⟨z, ks, v, rfl, s2, hp2, hkl, R, lt⟩
          refine ⟨_, rfl, _, _, rfl, rfl, (by show (0 : Int) < 2; decide), rfl, _, rfl, ?_⟩
          refine ite2D (fun _ => ?_) (fun _ => ?_)
          · refine ⟨_, rfl, .inl ⟨rfl, _, SqL.of hp2⟩, _, rfl, _, _, _, rfl, rfl, hp2, (by rw [vI_len]; exact small1000 (by omega)), ?_⟩
            rw [vI_app]
            refine ⟨_, rfl, _, _, rfl, rfl, ⟨by decide, by decide⟩, ?_⟩
            exact ⟨_, _, _, rfl, s2.over hp, upd_same, by rw [List.length_append, List.length_singleton]; omega, rs_add R (fun k h => by have := lt k h; omega) (by omega) (by omega), below lt⟩
          · refine ⟨_, rfl, _, _, rfl, rfl, ⟨by decide, by decide⟩, ?_⟩
            exact ⟨_, _, _, rfl, s2, hp2, by omega, R, fun k h => by have := lt k h; omega⟩
        · rintro σ H2 ⟨z, ks, v, rfl, s2, hp2, hkl, R, lt⟩
          exact ⟨_, rfl, k p ks H2 s2 hp hp2 R⟩
    · refine iteF ?_
      refine ⟨_, rfl, _, _, rfl, rfl, ⟨by decide, by decide, by decide⟩, _, _, rfl, rfl, _, rfl, ?_⟩
      rw [e6]
      refine iteDn h6 ?_
      refine ⟨Nat.zero_le _, fun p hp => ?_⟩
      refine ⟨_, rfl, by decide, by decide, ?_⟩
      refine for_range (lo := 0) (n := 40) (fun i σ H2 => ∃ (z : Int) (ks : List Int) (v : Option V), σ = [some (.int z), some (.ref p), v] ∧ Same H H2 ∧ H2 p = some (.lst (vI ks)) ∧ ks.length ≤ i ∧ Rs ks ∧ ∀ k ∈ ks, k < (i : Int))
        ⟨_, [], none, rfl, .upd hp, upd_same, Nat.le_refl _, rs_nil, fun k h => (by cases h)⟩ ?_ ?_
      · rintro i σ H2 hi ⟨z, ks, v, rfl, s2, hp2, hkl, R, lt⟩
        refine ⟨_, rfl, _, _, rfl, rfl, (by show (0 : Int) < 2; decide), rfl, _, rfl, ?_⟩
        refine ite2D (fun _ => ?_) (fun _ => ?_)
        · refine ⟨_, rfl, .inl ⟨rfl, _, SqL.of hp2⟩, _, rfl, _, _, _, rfl, rfl, hp2, (by rw [vI_len]; exact small1000 (by omega)), ?_⟩
          rw [vI_app]
          refine ⟨_, rfl, _, _, rfl, rfl, ⟨by decide, by decide⟩, ?_⟩
          exact ⟨_, _, _, rfl, s2.over hp, upd_same, by rw [List.length_append, List.length_singleton]; omega, rs_add R (fun k h => by have := lt k h; omega) (by omega) (by omega), below lt⟩
        · refine ⟨_, rfl, _, _, rfl, rfl, ⟨by decide, by decide⟩, ?_⟩
          exact ⟨_, _, _, rfl, s2, hp2, by omega, R, fun k h => by have := lt k h; omega⟩
      · rintro σ H2 ⟨z, ks, v, rfl, s2, hp2, hkl, R, lt⟩
        exact ⟨_, rfl, k p ks H2 s2 hp hp2 R⟩
def sp_nsame : Sp := fun vs H Q _ => ∃ (a b : Addr) (ks : List Int), vs = [.ref a, .ref b] ∧ H a = some (.lst (vI ks)) ∧ H b = some (.lst (vI ks)) ∧ ks.length ≤ 1000 ∧ Q (.bl true) H
theorem ok_law_numbers_same (T : Txt K mg t) : FnOk P w K mg base CX0 1 t.f_law_numbers_same t.d_law_numbers_same ["found", "due"] sp_nsame := by
  refine T.law_numbers_same.F.ok sc_law_numbers_same (fun vs H Q E h => ?_) (fun cdv A outer s H vs Q E hr h => ?_)
  · obtain ⟨a, b, ks, rfl, _⟩ := h
    rfl
  · obtain ⟨a, b, ks, rfl, ha, hb, hl, k⟩ := h
    refine ⟨_, (pss_cons (ps_if (PW.pt (pw_or (pt_not (pt_val (pe_callB (call_isiK (K := K)) rfl T.b_isinstance bt_isinstance (pa_cons (pv 0) (pa_cons (pe_bltn (v := .ty "list") rfl T.b_list bt_list rfl) pa_nil))))) (pw_or1 (pt_cmpR op_ne (pe_callB (call_len_seqK (K := K)) rfl T.b_len bt_len (pa_cons (pv 0) pa_nil)) (pe_callB (call_len_seqK (K := K)) rfl T.b_len bt_len (pa_cons (pv 1) pa_nil)) (nomark _)))))
        (pss_one (ps_ret pe_bl))
        pss_nil)
      (pss_cons (ps_for PassesOwn.never rfl (pi_range1 rfl T.b_range (pa_cons (pe_callB (call_len_seqK (K := K)) rfl T.b_len bt_len (pa_cons (pv 1) pa_nil)) pa_nil)) (pg_name (i := 2) sc_law_numbers_same.nd rfl (Or.inl rfl))
        (pss_one (ps_if (PW.pt (pw_or (pt_not (pt_val (pe_callB (call_isiK (K := K)) rfl T.b_isinstance bt_isinstance (pa_cons (pe_ix (ix_listK (K := K)) (pv 0) (pv 2) (fun _ _ => rfl)) (pa_cons (pe_bltn (v := .ty "int") rfl T.b_int bt_int rfl) pa_nil))))) (pw_or (pt_val (pe_callB (call_isiK (K := K)) rfl T.b_isinstance bt_isinstance (pa_cons (pe_ix (ix_listK (K := K)) (pv 0) (pv 2) (fun _ _ => rfl)) (pa_cons (pe_bltn (v := .ty "bool") rfl T.b_bool bt_bool rfl) pa_nil)))) (pw_or1 (pt_cmpR op_ne (pe_ix (ix_listK (K := K)) (pv 0) (pv 2) (fun _ _ => rfl)) (pe_ix (ix_listK (K := K)) (pv 1) (pv 2) (fun _ _ => rfl)) (nomark _))))))
          (pss_one (ps_ret pe_bl))
          pss_nil)))
      (pss_one (ps_ret pe_bl)))), ?_⟩
    refine ⟨_, rfl, _, _, true, .lst ha, .inl ⟨_, rfl, kit_same K _⟩, _, rfl, ?_⟩
    refine iteF ?_
    refine ⟨_, rfl, _, _, rfl, .inl (SqL.of ha), _, rfl, _, _, rfl, .inl (SqL.of hb), rfl, _, rfl, ?_⟩
    refine iteNS rfl ?_
    refine ⟨_, rfl, _, _, rfl, .inl (SqL.of hb), _, rfl, (by omega), (by rw [vI_len]; omega), ?_⟩
    rw [Int.toNat_natCast, vI_len]
    refine for_range (lo := 0) (n := ks.length) (fun i σ H2 => ∃ v, σ = [some (.ref a), some (.ref b), v] ∧ H2 = H) ⟨none, rfl, rfl⟩ ?_ ?_
    · rintro i σ H2 hi ⟨v, rfl, rfl⟩
      have e : atI (vI ks) (0 + (i : Int)) = some (.int ks[i]) := atI_of (by omega) (by rw [z0]; exact vI_get (List.getElem?_eq_getElem hi))
      refine ⟨_, rfl, _, rfl, _, _, _, _, rfl, rfl, SqL.of ha, e, _, _, true, .int _, .inl ⟨_, rfl, kit_same K _⟩, _, rfl, ?_⟩
      refine iteF ?_
      refine ⟨_, rfl, _, rfl, _, _, _, _, rfl, rfl, SqL.of ha, e, _, _, false, .int _, .inl ⟨_, rfl, kit_ib K⟩, _, rfl, ?_⟩
      refine iteF ?_
      refine ⟨_, rfl, _, rfl, _, _, _, _, rfl, rfl, SqL.of ha, e, _, rfl, _, rfl, _, _, _, _, rfl, rfl, SqL.of hb, e, rfl, _, rfl, ?_⟩
      refine iteNS rfl ?_
      exact ⟨_, rfl, rfl⟩
    · rintro σ H2 ⟨v, rfl, rfl⟩
      exact k
def sp_dsame (t : Adr) : Sp := fun vs H Q _ => ∃ (d dx a b c x y z : Addr) (qs rs : List Addr) (th : List Int) (tss : List (List Int)) (tr : List Int), vs = [.ref d, .ref x, .ref y, .ref z] ∧ IsD t H d dx a b c qs th tss tr ∧ H x = some (.lst (vI th)) ∧ NL H y rs tss ∧ H z = some (.lst (vI tr)) ∧ Ft th tss tr ∧ Q (.bl true) H
theorem ok_law_draft_same (T : Txt K mg t) : FnOk P w K mg base CX0 2 t.f_law_draft_same t.d_law_draft_same ["draft", "threading", "ties", "treading"] (sp_dsame t) := by
  have G_law_numbers_same : FnOk P w K mg base CX0 1 t.f_law_numbers_same t.d_law_numbers_same _ _ := ok_law_numbers_same T
  refine T.law_draft_same.F.ok sc_law_draft_same (fun vs H Q E h => ?_) (fun cdv A outer s H vs Q E hr h => ?_)
  · obtain ⟨d, dx, a, b, c, x, y, z, qs, rs, th, tss, tr, rfl, _⟩ := h
    rfl
  · obtain ⟨d, dx, a, b, c, x, y, z, qs, rs, th, tss, tr, rfl, D, hx, N, hz, F, k⟩ := h
    have m40 := F.m40
    have n40 := F.n40
    have t40 := F.t40
    refine ⟨_, (pss_cons (ps_if (PW.pt (pw_or (pt_not (pt_val (pe_call (G_law_numbers_same.mono (by decide)) hr rfl T.law_numbers_same.m T.law_numbers_same.F.kp T.law_numbers_same.b .nil pass0 (pa_cons (pe_fldK (K := K) (pv 0) rfl) (pa_cons (pv 1) pa_nil))))) (pw_or1 (pt_not (pt_val (pe_call (G_law_numbers_same.mono (by decide)) hr rfl T.law_numbers_same.m T.law_numbers_same.F.kp T.law_numbers_same.b .nil pass0 (pa_cons (pe_fldK (K := K) (pv 0) rfl) (pa_cons (pv 3) pa_nil))))))))
        (pss_one (ps_ret pe_bl))
        pss_nil)
      (pss_cons (ps_if (PW.pt (pw_or (pt_not (pt_val (pe_callB (call_isiK (K := K)) rfl T.b_isinstance bt_isinstance (pa_cons (pe_fldK (K := K) (pv 0) rfl) (pa_cons (pe_bltn (v := .ty "list") rfl T.b_list bt_list rfl) pa_nil))))) (pw_or1 (pt_cmpR op_ne (pe_callB (call_len_seqK (K := K)) rfl T.b_len bt_len (pa_cons (pe_fldK (K := K) (pv 0) rfl) pa_nil)) (pe_callB (call_len_seqK (K := K)) rfl T.b_len bt_len (pa_cons (pv 2) pa_nil)) (nomark _)))))
        (pss_one (ps_ret pe_bl))
        pss_nil)
      (pss_cons (ps_for PassesOwn.never rfl (pi_range1 rfl T.b_range (pa_cons (pe_callB (call_len_seqK (K := K)) rfl T.b_len bt_len (pa_cons (pv 2) pa_nil)) pa_nil)) (pg_name (i := 4) sc_law_draft_same.nd rfl (Or.inl rfl))
        (pss_one (ps_if (pt_not (pt_val (pe_call (G_law_numbers_same.mono (by decide)) hr rfl T.law_numbers_same.m T.law_numbers_same.F.kp T.law_numbers_same.b .nil pass0 (pa_cons (pe_ix (ix_listK (K := K)) (pe_fldK (K := K) (pv 0) rfl) (pv 4) (fun _ _ => rfl)) (pa_cons (pe_ix (ix_listK (K := K)) (pv 2) (pv 4) (fun _ _ => rfl)) pa_nil)))))
          (pss_one (ps_ret pe_bl))
          pss_nil)))
      (pss_one (ps_ret pe_bl))))), ?_⟩
    refine ⟨_, rfl, _, _, _, _, _, rfl, D.o, T.o_Draft.c, T.na_Draft_threading, df_th a b c, _, rfl, a, x, th, rfl, D.ha, hx, by omega, _, rfl, ?_⟩
    refine iteF ?_
    refine ⟨_, rfl, _, _, _, _, _, rfl, D.o, T.o_Draft.c, T.na_Draft_treading, df_tr a b c, _, rfl, c, z, tr, rfl, D.hc, hz, by omega, _, rfl, ?_⟩
    refine iteF ?_
    refine ⟨_, rfl, _, _, _, _, _, rfl, D.o, T.o_Draft.c, T.na_Draft_ties, df_ti a b c, _, _, true, .lst D.hb.h, .inl ⟨_, rfl, kit_same K _⟩, _, rfl, ?_⟩
    refine iteF ?_
    refine ⟨_, rfl, _, _, _, _, _, rfl, D.o, T.o_Draft.c, T.na_Draft_ties, df_ti a b c, _, _, rfl, .inl (SqL.of D.hb.h), _, rfl, _, _, rfl, .inl (SqL.of N.h), rfl, _, rfl, ?_⟩
    refine iteNS (by rw [List.length_map, List.length_map, D.hb.l, N.l]) ?_
    refine ⟨_, rfl, _, _, rfl, .inl (SqL.of N.h), _, rfl, (by omega), (by rw [List.length_map, N.l]; omega), ?_⟩
    rw [Int.toNat_natCast, List.length_map, N.l]
    refine for_range (lo := 0) (n := tss.length) (fun i σ H2 => ∃ v, σ = [some (.ref d), some (.ref x), some (.ref y), some (.ref z), v] ∧ H2 = H) ⟨none, rfl, rfl⟩ ?_ ?_
    · rintro i σ H2 hi ⟨v, rfl, rfl⟩
      have hiq : i < qs.length := by rw [D.hb.l]; exact hi
      have hir : i < rs.length := by rw [N.l]; exact hi
      have e1 : atI (qs.map V.ref) (0 + (i : Int)) = some (.ref qs[i]) := atI_of (by omega) (by rw [z0, List.getElem?_map, List.getElem?_eq_getElem hiq]; rfl)
      have e2 : atI (rs.map V.ref) (0 + (i : Int)) = some (.ref rs[i]) := atI_of (by omega) (by rw [z0, List.getElem?_map, List.getElem?_eq_getElem hir]; rfl)
      have r1 := D.hb.r i _ _ (List.getElem?_eq_getElem hiq) (List.getElem?_eq_getElem hi)
      have r2 := N.r i _ _ (List.getElem?_eq_getElem hir) (List.getElem?_eq_getElem hi)
      have sh := rs_short (F.hti _ (List.getElem_mem hi))
      refine ⟨_, rfl, _, _, _, _, _, rfl, D.o, T.o_Draft.c, T.na_Draft_ties, df_ti a b c, _, rfl, _, _, _, _, rfl, rfl, SqL.of D.hb.h, e1, _, rfl, _, rfl, _, _, _, _, rfl, rfl, SqL.of N.h, e2, qs[i], rs[i], tss[i], rfl, r1, r2, sh, _, rfl, ?_⟩
      refine iteF ?_
      exact ⟨_, rfl, rfl⟩
    · rintro σ H2 ⟨v, rfl, rfl⟩
      exact k
theorem log_dec {n : Nat} (h : n < 100) : n.log2 < 1920 := Nat.lt_of_le_of_lt (Nat.log2_le_self n) (by omega)
def sp_written (K : PySem.W.Frag) : Sp := fun vs H Q _ => ∃ (l : Addr) (ks : List Int), vs = [.ref l] ∧ SqL K H l (vI ks) ∧ Nb ks ∧ ∀ H', Same H H' → Q (.str (tx (nT ks))) H'
theorem ok_law_written (T : Txt K mg t) : FnOk P w K mg base CX0 1 t.f_law_written t.d_law_written ["row"] (sp_written K) := by
  refine T.law_written.F.ok sc_law_written (fun vs H Q E h => ?_) (fun cdv A outer s H vs Q E hr h => ?_)
  · obtain ⟨l, ks, rfl, _⟩ := h
    rfl
  · obtain ⟨l, ks, rfl, hl, hb, k⟩ := h
    have hsz : sizeLine = 16777216 := sizeLine_eq
    have l4 := hb.1
    refine ⟨_, (pss_one (ps_ret (pe_bmK (K := K) PySem.F.plainAttrs_str PySem.F.slot_str_join PySem.F.type_str_join (mt_joinK (K := K)) pe_str (pa_cons (pe_comp (CompOk.mk (caps := []) (Nc := ["number"]) rfl (by decide +kernel) (by decide +kernel) (comp_fr (sc0 := defScope s_law_written) rfl (by decide +kernel)) rfl rfl rfl (by decide +kernel) (fun _ _ h => by simp at h)) rfl (pi_listK (K := K) (pv 0)) (fun _ _ _ _ _ => .nil) (fun _ _ _ _ _ => (pe_callTy call_str_int rfl T.b_str bt_str (pa_cons (pv 0) pa_nil)))) pa_nil)))), ?_⟩
    refine ⟨rfl, _, rfl, _, rfl, ⟨_, hl⟩, comp_list (K := K) (a := l) (xs := vI ks) (fun i ys H2 => H2 = H ∧ ys = vS ((nn (ks.take i)).map dec)) ⟨rfl, rfl⟩ ?_ ?_ ?_ ?_⟩
    · rintro i ys H2 hi ⟨rfl, rfl⟩
      refine ⟨hl, ?_⟩
      rw [vS_len, List.length_map]
      unfold nn
      rw [List.length_map, List.length_take]
      omega
    · rw [vI_len]; omega
    · rintro i xv ys H2 hi hxv ⟨rfl, rfl⟩
      obtain ⟨z, hz, rfl⟩ := vI_got hxv
      have bz := hb.2 z (List.mem_of_getElem? hz)
      obtain ⟨n, rfl⟩ : ∃ n : Nat, z = (n : Int) := ⟨z.toNat, by omega⟩
      have n100 : n < 100 := by omega
      refine CTurn.no ?_
      refine ⟨_, rfl, _, rfl, log_dec n100, ?_⟩
      show CN (vI ks).length _ i (vS ((nn (ks.take i)).map dec) ++ [.str (Str.ofString (toString ((n : Nat) : Int)))]) H2
      rw [dec_tx, vS_app]
      refine CN.of hi ⟨rfl, ?_⟩
      unfold nn
      rw [List.take_add_one, hz, List.map_append, List.map_append]
      rfl
    · rintro ys H2 q ⟨rfl, rfl⟩ nq
      rw [vI_len, List.take_length]
      have nl : (nn ks).length = ks.length := by unfold nn; rw [List.length_map]
      refine ⟨_, _, ((nn ks).map dec).map tx, rfl, rfl, SqL.of (by rw [upd_same, vS_map]), ?_, ?_⟩
      · have := sum_num (nn ks) (nn_bd hb.2)
        rw [blank1, tx_len, List.length_map, List.length_map]
        simp only [List.length_cons, List.length_nil]
        omega
      · rw [blank1, join_num]
        exact k _ (.upd nq)
end
instance (c : Nat) : Decidable (Str9 c) := inferInstanceAs (Decidable (_ ∧ _))
def some9 : List Nat := [33, 34, 35, 36, 38, 39, 43, 46, 58, 59, 60, 61, 62, 63, 64, 65, 66, 89, 90, 91, 92, 93, 94, 95, 96, 97, 98, 99, 100, 120, 121, 122, 123, 124, 125, 126]
theorem some9_tx : (("!\"#$&'+.:;<=>?@ABYZ[\\]^_`abcdxyz{|}~" : Str)) = tx some9 := by decide +kernel
theorem some9_s : ∀ c ∈ some9, Str9 c ∧ c ≠ 47 ∧ c ≠ 44 := by decide
theorem cutT_tk {u : List Nat} {k : Nat} (h : k ≤ u.length) : cutT u none (some (k : Int)) = u.take k := by
  unfold cutT
  rw [HT.sIx_none, HT.sIx_nat, List.drop_zero, Nat.min_eq_left h, Nat.sub_zero]
theorem cutT_dp {u : List Nat} {k : Nat} (h : k ≤ u.length) : cutT u (some (k : Int)) none = u.drop k := by
  unfold cutT
  have e1 : HT.sIx u.length 0 (some (k : Int)) = k := by rw [HT.sIx_nat, Nat.min_eq_left h]
  have e2 : HT.sIx u.length u.length none = u.length := rfl
  rw [e1, e2]
  exact List.take_of_length_le (by rw [List.length_drop]; omega)
theorem cl_of {u : List Nat} (h1 : 47 ∉ u) (h2 : 44 ∉ u) (l : u.length ≤ 2500) : Cl2 u := ⟨c47_of h1, c44_of h2, fun z => h1 (List.mem_of_getElem? z), l⟩
theorem mod_nat (z : Int) {m : Int} (h : 0 < m) : ∃ n : Nat, z % m = (n : Int) ∧ (n : Int) < m := by
  have h1 := Int.emod_nonneg z (show m ≠ 0 by omega)
  have h3 := Int.emod_lt_of_pos z h
  exact ⟨(z % m).toNat, by omega, by omega⟩
theorem times_bd {far : Nat} (h : far < 100) : 400 / (far + 1) * (far + 1) ≤ 400 ∧ 400 < (400 / (far + 1) + 1) * (far + 1) := by
  have h1 := Nat.div_mul_le_self 400 (far + 1)
  have h2 := Nat.lt_div_mul_add (a := 400) (b := far + 1) (by omega)
  refine ⟨h1, ?_⟩
  rw [Nat.add_mul, Nat.one_mul]
  exact h2
theorem dec_nm {n c : Nat} (h : n < 100) (hc : ¬ (48 ≤ c ∧ c ≤ 57)) : c ∉ dec n := fun z => hc ((dec_is h).dg c z)
theorem cl_tm {n far : Nat} (h9 : n < 100) (hf : far < 100) : Cl2 (tmT n far) := by
  have l1 := (dec_is h9).l2
  have l2 := (dec_is hf).l2
  refine cl_of (fun z => ?_) (fun z => ?_) (by unfold tmT; simp only [List.length_append, List.length_cons, List.length_nil]; omega)
  · unfold tmT at z
    simp only [List.mem_append, List.mem_cons, List.not_mem_nil, or_false] at z
    rcases z with z | (z | z) | z
    · exact dec_nm h9 (by decide) z
    · omega
    · exact dec_nm hf (by decide) z
    · omega
  · unfold tmT at z
    simp only [List.mem_append, List.mem_cons, List.not_mem_nil, or_false] at z
    rcases z with z | (z | z) | z
    · exact dec_nm h9 (by decide) z
    · omega
    · exact dec_nm hf (by decide) z
    · omega
def bg1 : List Nat := [57, 57, 42, 40, 57, 32, 57, 32]
def bg2 : List Nat := [32, 50, 45, 52, 41]
theorem bg_tx1 : (("99*(9 9 " : Str)) = tx bg1 := by decide +kernel
theorem bg_tx2 : ((" 2-4)" : Str)) = tx bg2 := by decide +kernel
theorem bg_eq (far : Nat) : bg1 ++ dec far ++ bg2 = bgT far := by
  have d99 : dec 99 = [57, 57] := by decide +kernel
  have d9 : dec 9 = [57] := by decide +kernel
  have d2 : dec 2 = [50] := by decide +kernel
  have d4 : dec 4 = [52] := by decide +kernel
  unfold bgT bg1 bg2
  rw [d99, d9, d2, d4]
  simp
theorem cl_bg {far : Nat} (hf : far < 100) : Cl2 (bg1 ++ dec far ++ bg2) := by
  have l2 := (dec_is hf).l2
  refine cl_of (fun z => ?_) (fun z => ?_) (by simp only [bg1, bg2, List.length_append, List.length_cons, List.length_nil]; omega)
  · simp only [bg1, bg2, List.mem_append, List.mem_cons, List.not_mem_nil, or_false] at z
    rcases z with (z | z) | z
    · omega
    · exact dec_nm hf (by decide) z
    · omega
  · simp only [bg1, bg2, List.mem_append, List.mem_cons, List.not_mem_nil, or_false] at z
    rcases z with (z | z) | z
    · omega
    · exact dec_nm hf (by decide) z
    · omega
theorem two_tx : (("*(0-" : Str)) = tx [42, 40, 48, 45] := by decide +kernel
theorem tm_eq (n far : Nat) : dec n ++ [42, 40, 48, 45] ++ dec far ++ [41] = tmT n far := by unfold tmT; simp
theorem by_elseC {G R : Prop} (C : Prop) (main : (C → R) → G) (rest : C → R) : G := main rest
section
variable {P : Program} {w : World} {K : PySem.W.Frag} {mg : Str → Option Value} {base : Heap} {t : Adr}
def AtR (H : Hp) (p : Addr) (r : Rc) : Prop := ∃ l, H p = some (.tup [.str (tx r.u), .str r.wd, .ref l]) ∧ H l = some (.lst (vI r.ks))
theorem AtR.same {H H' : Hp} {p : Addr} {r : Rc} (h : AtR H p r) (s : Same H H') : AtR H' p r := let ⟨l, a, b⟩ := h; ⟨l, s _ _ a, s _ _ b⟩
def sp_exch : Sp := fun vs H Q _ => ∃ (l : Addr) (ks : List Int) (z : Int), vs = [.ref l, .int z] ∧ H l = some (.lst (vI ks)) ∧ Nb ks ∧ ∀ (p : Addr) (r : Rc) (H' : Hp), Same H H' → H p = none → r.Ok → AtR H' p r → Q (.ref p) H'
theorem ok_law_exchanged (T : Txt K mg t) : FnOk P w K mg base CX0 2 t.f_law_exchanged t.d_law_exchanged ["row", "number"] sp_exch := by
  have G_law_written : FnOk P w K mg base CX0 1 t.f_law_written t.d_law_written _ _ := ok_law_written T
  refine T.law_exchanged.F.ok sc_law_exchanged (fun vs H Q E h => ?_) (fun cdv A outer s H vs Q E hr h => ?_)
  · obtain ⟨l, ks, z, rfl, _⟩ := h
    rfl
  · obtain ⟨l, ks, z, rfl, hl, hb, k⟩ := h
    have hsz : sizeLine = 16777216 := sizeLine_eq
    refine ⟨_, (pss_cons (ps_set (i := 2) sc_law_exchanged.nd rfl (Or.inl rfl) (pe_call (G_law_written.mono (by decide)) hr rfl T.law_written.m T.law_written.F.kp T.law_written.b .nil pass0 (pa_cons (pv 0) pa_nil)))
      (pss_cons (ps_set (i := 3) sc_law_exchanged.nd rfl (Or.inl rfl) (pe_op op_mod (pv 1) pe_int))
      (pss_cons (ps_set (i := 4) sc_law_exchanged.nd rfl (Or.inl rfl) (pe_op op_fdiv (pv 1) pe_int))
      (pss_cons (ps_if (pt_cmpR op_lt (pv 3) pe_int (nomark _))
        (pss_cons (ps_set (i := 5) sc_law_exchanged.nd rfl (Or.inl rfl) pe_str)
        (pss_cons (ps_set (i := 6) sc_law_exchanged.nd rfl (Or.inl rfl) (pe_op op_mod (pe_op op_fdiv (pv 4) pe_int) (pe_op op_add (pe_callB call_len_str rfl T.b_len bt_len (pa_cons (pv 2) pa_nil)) pe_int)))
        (pss_one (ps_ret (pe_tup (pa_cons (pe_op op_add_str (pe_op op_add_str (pe_slice sl_str (pv 2) po_none (po_some (pv 6))) (pe_ix ix_str (pv 5) (pe_op op_mod (pv 4) (pe_callB call_len_str rfl T.b_len bt_len (pa_cons (pv 5) pa_nil))) (fun _ _ => rfl))) (pe_slice sl_str (pv 2) (po_some (pv 6)) po_none)) (pa_cons pe_str (pa_cons (pv 0) pa_nil))))))))
        pss_nil)
      (pss_cons (ps_if (pt_cmpR op_eq (pv 3) pe_int (nomark _))
        (pss_one (ps_ret (pe_tup (pa_cons (pe_ix (ix_listK (K := K)) (pe_lst (pa_cons (pe_op op_add_str (pv 2) pe_str) (pa_cons (pe_op op_add_str pe_str (pv 2)) (pa_cons (pe_op op_add_str pe_str (pv 2)) (pa_cons (pe_op op_add_str (pv 2) pe_str) pa_nil))))) (pe_op op_mod (pv 4) pe_int) (fun _ _ => rfl)) (pa_cons pe_str (pa_cons (pv 0) pa_nil))))))
        pss_nil)
      (pss_cons (ps_if (pt_cmpR op_eq (pv 3) pe_int (nomark _))
        (pss_one (ps_ret (pe_tup (pa_cons (pe_op op_add_str pe_str (pv 2)) (pa_cons pe_str (pa_cons (pv 0) pa_nil))))))
        pss_nil)
      (pss_cons (ps_if (PW.pt (pw_and (pt_cmpR op_eq (pv 3) pe_int (nomark _)) (pw_and1 (pt_cmpR op_eq (pv 2) pe_str (nomark _)))))
        (pss_one (ps_ret (pe_tup (pa_cons pe_str (pa_cons pe_str (pa_cons (pv 0) pa_nil))))))
        pss_nil)
      (pss_cons (ps_if (pt_cmpR op_eq (pv 3) pe_int (nomark _))
        (pss_one (ps_ret (pe_tup (pa_cons (pe_op op_add_str (pe_op op_add_str (pv 2) (pe_ix ix_str pe_str (pe_op op_mod (pv 4) pe_int) (fun _ _ => rfl))) (pv 2)) (pa_cons pe_str (pa_cons (pv 0) pa_nil))))))
        pss_nil)
      (pss_cons (ps_set (i := 7) sc_law_exchanged.nd rfl (Or.inl rfl) (pe_op op_mod (pv 4) pe_int))
      (pss_cons (ps_set (i := 8) sc_law_exchanged.nd rfl (Or.inl rfl) (pe_op op_fdiv pe_int (pe_op op_add (pv 7) pe_int)))
      (pss_cons (ps_if (PW.pt (pw_or (pt_cmpR op_eq (pv 3) pe_int (nomark _)) (pw_or1 (pt_cmpR op_gt (pv 8) pe_int (nomark _)))))
        (pss_one (ps_ret (pe_tup (pa_cons (pe_op op_add_str (pe_op op_add_str pe_str (pe_callTy call_str_int rfl T.b_str bt_str (pa_cons (pv 7) pa_nil))) pe_str) (pa_cons pe_str (pa_cons (pv 0) pa_nil))))))
        pss_nil)
      (pss_cons (ps_if (pt_cmpR op_eq (pv 3) pe_int (nomark _))
        (pss_one (ps_ret (pe_tup (pa_cons (pe_op op_add_str (pe_op op_add_str (pe_op op_add_str (pe_callTy call_str_int rfl T.b_str bt_str (pa_cons (pv 8) pa_nil)) pe_str) (pe_callTy call_str_int rfl T.b_str bt_str (pa_cons (pv 7) pa_nil))) pe_str) (pa_cons pe_str (pa_cons (pe_op op_rep (pe_callTy call_listR rfl T.b_list bt_list (pa_cons (pe_callTy call_rng1 rfl T.b_range bt_range (pa_cons (pe_op op_add (pv 7) pe_int) pa_nil)) pa_nil)) (pv 8)) pa_nil))))))
        pss_nil)
      (pss_one (ps_ret (pe_tup (pa_cons (pe_op op_add_str (pe_op op_add_str (pe_op op_add_str (pe_callTy call_str_int rfl T.b_str bt_str (pa_cons (pe_op op_add (pv 8) pe_int) pa_nil)) pe_str) (pe_callTy call_str_int rfl T.b_str bt_str (pa_cons (pv 7) pa_nil))) pe_str) (pa_cons pe_str (pa_cons (pv 0) pa_nil)))))))))))))))))), ?_⟩
    refine ⟨_, rfl, l, ks, rfl, SqL.of hl, hb, fun H1 s1 => ?_⟩
    have hl1 := s1 _ _ hl
    have ln := nT_len hb
    have fb := fb_nT hb
    have n47 := fb_no fb (c := 47) (by decide) (by decide)
    have n44 := fb_no fb (c := 44) (by decide) (by decide)
    have fin : ∀ (u : List Nat) (wd : Str), Rk u wd ks → Cl2 u → 3 ≤ sizeLine ∧ ∀ p, H1 p = none → Q (.ref p) (upd H1 p (.tup [.str (tx u), .str wd, .ref l])) := fun u wd R C => by
      refine ⟨by omega, fun p hp => ?_⟩
      exact k p ⟨u, wd, ks⟩ _ (s1.new hp) (s1.free hp) ⟨R, C, hb.1, hb.2⟩ ⟨l, upd_same, (Same.upd hp) _ _ hl1⟩
    have cl_nT' := cl_nT hb
    refine ⟨_, rfl, _, _, rfl, rfl, (by show (0 : Int) < 8; decide), _, rfl, _, _, rfl, rfl, ⟨by decide, by decide⟩, ?_⟩
    dsimp only
    generalize z % 8 = way
    generalize z / 8 = rest
    refine ⟨_, rfl, _, _, rfl, rfl, _, rfl, ?_⟩
    refine ite2D (fun _ => ?_) (fun _ => ?_)
    ·
      refine ⟨_, rfl, _, _, rfl, rfl, ⟨by decide, by decide⟩, _, rfl, _, rfl, (by rw [tx_len]; omega), _, _, rfl, rfl, _, _, rfl, rfl, (by show (0 : Int) < ((tx (nT ks)).length : Int) + 1; omega), ?_⟩
      dsimp only
      rw [tx_len]
      obtain ⟨p, ep, hp'⟩ := mod_nat (rest / 41) (m := ((nT ks).length : Int) + 1) (by omega)
      rw [ep]
      have hp : p ≤ (nT ks).length := by omega
      refine ⟨_, rfl, _, rfl, _, rfl, _, rfl, (by omega), ?_⟩
      rw [cutT_tk hp]
      have l36 : some9.length = 36 := rfl
      obtain ⟨q, eq, hq⟩ := mod_nat rest (m := 36) (by decide)
      have hq' : q < some9.length := by omega
      refine ⟨_, rfl, _, rfl, _, rfl, _, rfl, (by decide +kernel), _, _, rfl, rfl, (by show (0 : Int) < ((Str.length "!\"#$&'+.:;<=>?@ABYZ[\\]^_`abcdxyz{|}~" : Nat) : Int); decide +kernel), ?_⟩
      rw [some9_tx, tx_len, l36]
      refine ⟨_, _, some9[q], rfl, rfl, (by rw [tx_len]; omega), ?_, ?_⟩
      · show atI ((tx some9).cps.toList) (rest % ((36 : Nat) : Int)) = some some9[q]
        rw [show rest % ((36 : Nat) : Int) = (q : Int) from eq, tx_list]
        exact atI_of (by omega) (by rw [Int.toNat_natCast]; exact List.getElem?_eq_getElem hq')
      have hs := some9_s _ (List.getElem_mem hq')
      generalize some9[q] = c at hs ⊢
      refine ⟨_, _, rfl, rfl, (by rw [tx_len]; show _ + 1 ≤ sizeLine; rw [List.length_take]; omega), ?_⟩
      rw [tx_one, tx_app]
      refine ⟨_, rfl, _, rfl, _, rfl, _, rfl, (by omega), ?_⟩
      rw [cutT_dp hp]
      refine ⟨_, _, rfl, rfl, (by rw [tx_len, tx_len, List.length_append, List.length_take, List.length_drop]; show _ + 1 + _ ≤ sizeLine; omega), ?_⟩
      rw [tx_app]
      refine ⟨_, rfl, fin _ "NoRow" (.no (by rw [List.append_assoc]; exact no_str hs.1)) (cl_of (fun y => ?_) (fun y => ?_) ?_)⟩
      · rcases List.mem_append.mp y with y | y
        · rcases List.mem_append.mp y with y | y
          · exact n47 (List.mem_of_mem_take y)
          · exact hs.2.1 (List.mem_singleton.mp y).symm
        · exact n47 (List.mem_of_mem_drop y)
      · rcases List.mem_append.mp y with y | y
        · rcases List.mem_append.mp y with y | y
          · exact n44 (List.mem_of_mem_take y)
          · exact hs.2.2 (List.mem_singleton.mp y).symm
        · exact n44 (List.mem_of_mem_drop y)
      · rw [List.length_append, List.length_append, List.length_take, List.length_drop]
        show _ + 1 + _ ≤ _
        omega
    have one : ∀ {c : Nat}, c ≠ 47 → c ≠ 44 → Cl2 (c :: nT ks) ∧ Cl2 (nT ks ++ [c]) := fun {c} h1 h2 => by
      refine ⟨cl_of (fun y => ?_) (fun y => ?_) (by simp only [List.length_cons]; omega), cl_of (fun y => ?_) (fun y => ?_) (by rw [List.length_append]; show _ + 1 ≤ _; omega)⟩
      · rcases List.mem_cons.mp y with y | y
        · exact h1 y.symm
        · exact n47 y
      · rcases List.mem_cons.mp y with y | y
        · exact h2 y.symm
        · exact n44 y
      · rcases List.mem_append.mp y with y | y
        · exact n47 y
        · exact h1 (List.mem_singleton.mp y).symm
      · rcases List.mem_append.mp y with y | y
        · exact n44 y
        · exact h2 (List.mem_singleton.mp y).symm
    refine ⟨_, rfl, rfl, _, rfl, ?_⟩
    refine ite2D (fun _ => ?_) (fun _ => ?_)
    ·
      refine ⟨_, rfl, _, _, rfl, rfl, (by rw [blank1, tx_len, tx_len]; show _ + 1 ≤ _; omega), _, rfl, _, _, rfl, rfl, (by rw [blank1, tx_len, tx_len]; show 1 + _ ≤ _; omega), _, rfl, _, _, rfl, rfl, (by rw [one_dash, tx_len, tx_len]; show 1 + _ ≤ _; omega), _, rfl, _, _, rfl, rfl, (by rw [one_dash, tx_len, tx_len]; show _ + 1 ≤ _; omega), ?_⟩
      rw [blank1, one_dash, tx_app, tx_app, tx_app, tx_app]
      refine ⟨(by show 4 ≤ sizeLine; omega), fun q nq => ?_⟩
      have s2 : Same H1 (upd H1 q (.lst (vS [nT ks ++ [32], [32] ++ nT ks, [45] ++ nT ks, nT ks ++ [45]]))) := .upd nq
      have h2 : (upd H1 q (.lst (vS [nT ks ++ [32], [32] ++ nT ks, [45] ++ nT ks, nT ks ++ [45]]))) q = some (.lst (vS [nT ks ++ [32], [32] ++ nT ks, [45] ++ nT ks, nT ks ++ [45]])) := upd_same
      have fin2 : ∀ (u : List Nat), ¬ Wri u → Cl2 u → 3 ≤ sizeLine ∧ ∀ p, (upd H1 q (.lst (vS [nT ks ++ [32], [32] ++ nT ks, [45] ++ nT ks, nT ks ++ [45]]))) p = none → Q (.ref p) (upd (upd H1 q (.lst (vS [nT ks ++ [32], [32] ++ nT ks, [45] ++ nT ks, nT ks ++ [45]]))) p (.tup [.str (tx u), .str "NoRow", .ref l])) := fun u W C => by
        refine ⟨by omega, fun p hp => ?_⟩
        exact k p ⟨u, "NoRow", ks⟩ _ ((s1.trans s2).new hp) ((s1.trans s2).free hp) ⟨.no W, C, hb.1, hb.2⟩ ⟨l, upd_same, (Same.upd hp) _ _ (s2 _ _ hl1)⟩
      obtain ⟨j, ej, hj⟩ := mod_nat rest (m := 4) (by decide)
      have hj4 : j = 0 ∨ j = 1 ∨ j = 2 ∨ j = 3 := by omega
      refine ⟨_, rfl, _, _, rfl, rfl, (by show (0 : Int) < 4; decide), ?_⟩
      dsimp only
      rw [ej]
      rcases hj4 with rfl | rfl | rfl | rfl
      · exact ⟨_, _, _, _, rfl, rfl, SqL.of h2, rfl, _, rfl, fin2 _ (no_last (.inl rfl)) (one (by decide) (by decide)).2⟩
      · exact ⟨_, _, _, _, rfl, rfl, SqL.of h2, rfl, _, rfl, fin2 _ (no_first (by decide)) (one (by decide) (by decide)).1⟩
      · exact ⟨_, _, _, _, rfl, rfl, SqL.of h2, rfl, _, rfl, fin2 _ (no_first (by decide)) (one (by decide) (by decide)).1⟩
      · exact ⟨_, _, _, _, rfl, rfl, SqL.of h2, rfl, _, rfl, fin2 _ (no_last (.inr rfl)) (one (by decide) (by decide)).2⟩
    refine ⟨_, rfl, rfl, _, rfl, ?_⟩
    refine ite2D (fun _ => ?_) (fun _ => ?_)
    ·
      have e07 : (("07 " : Str)) = tx [48, 55, 32] := by decide +kernel
      refine ⟨_, rfl, _, _, rfl, rfl, (by rw [e07, tx_len, tx_len]; show 3 + _ ≤ _; omega), ?_⟩
      rw [e07, tx_app]
      refine ⟨_, rfl, fin _ "NoRow" (.no no_07) (cl_of (fun y => ?_) (fun y => ?_) (by rw [List.length_append]; show 3 + _ ≤ _; omega))⟩
      · rcases List.mem_append.mp y with y | y
        · simp at y
        · exact n47 y
      · rcases List.mem_append.mp y with y | y
        · simp at y
        · exact n44 y
    apply by_elseC (¬ V.int way = V.int 7 ∨ ¬ V.str (tx (nT ks)) = V.str "")
    · intro rest'
      refine ⟨_, rfl, rfl, _, rfl, ?_⟩
      refine ite2D (fun w7 => ?_) (fun w7 => iteF (rest' (.inl w7)))
      refine ⟨_, rfl, rfl, _, rfl, ?_⟩
      refine ite2D (fun hm => ?_) (fun hm => rest' (.inr hm))
      refine fin [45] "NoRow" (.no (no_first (by decide))) (cl_of (by simp) (by simp) (by simp)) |> fun z => ?_
      rw [one_dash]
      exact ⟨_, rfl, z⟩
    intro w7
    refine ⟨_, rfl, rfl, _, rfl, ?_⟩
    refine ite2D (fun w7' => ?_) (fun _ => ?_)
    ·
      have ne : nT ks ≠ [] := fun z => by
        rcases w7 with w7 | w7
        · exact w7 w7'
        · exact w7 (by rw [z]; exact congrArg V.str (by decide +kernel))
      have ft := nT_first hb
      have lt := nT_last hb
      obtain ⟨a0, ea0⟩ : ∃ a0, (nT ks)[0]? = some a0 := by
        cases e : nT ks with
        | nil => exact absurd e ne
        | cons a r => exact ⟨a, rfl⟩
      have a0d := ft a0 ea0
      have bare : ∀ {c : Nat}, (c = 47 ∨ c = 44) → Cl2 (nT ks ++ [c] ++ nT ks) := fun {c} hc => by
        refine ⟨?_, ?_, ?_, ?_⟩
        · rw [List.append_assoc]
          refine cl_nT'.a.app (b := [c] ++ nT ks) ⟨fun e => ?_, cl_nT'.a⟩ (fun e => ?_)
          · omega
          · have := lt _ e; omega
        · rw [List.append_assoc]
          refine cl_nT'.b.app (b := [c] ++ nT ks) ⟨fun e z => ?_, cl_nT'.b⟩ (fun e => ?_)
          · have := ft _ z; omega
          · have := lt _ e; omega
        · rw [List.append_assoc, List.getElem?_append_left (by rcases Nat.eq_zero_or_pos (nT ks).length with z | z; exact absurd (List.length_eq_zero_iff.mp z) ne; exact z), ea0]
          intro z
          injection z with z
          omega
        · rw [List.length_append, List.length_append]
          show _ + 1 + _ ≤ _
          omega
      obtain ⟨j, ej, hj⟩ := mod_nat rest (m := 2) (by decide)
      have hj2 : j = 0 ∨ j = 1 := by omega
      have e47 : (("/," : Str)) = tx [47, 44] := by decide +kernel
      refine ⟨_, rfl, _, rfl, _, _, rfl, rfl, (by show (0 : Int) < 2; decide), ?_⟩
      dsimp only
      rw [ej, e47]
      rcases hj2 with rfl | rfl
      · refine ⟨_, _, 47, rfl, rfl, (by rw [tx_len]; show 2 ≤ _; omega), (by rw [tx_list]; rfl), ?_⟩
        refine ⟨_, _, rfl, rfl, (by rw [tx_len]; show _ + 1 ≤ sizeLine; omega), ?_⟩
        rw [tx_one, tx_app]
        refine ⟨_, rfl, _, _, rfl, rfl, (by rw [tx_len, tx_len, List.length_append]; show _ + 1 + _ ≤ sizeLine; omega), ?_⟩
        rw [tx_app]
        exact ⟨_, rfl, fin _ "NoRow" (.no (by rw [List.append_assoc]; exact no_str (by decide))) (bare (.inl rfl))⟩
      · refine ⟨_, _, 44, rfl, rfl, (by rw [tx_len]; show 2 ≤ _; omega), (by rw [tx_list]; rfl), ?_⟩
        refine ⟨_, _, rfl, rfl, (by rw [tx_len]; show _ + 1 ≤ sizeLine; omega), ?_⟩
        rw [tx_one, tx_app]
        refine ⟨_, rfl, _, _, rfl, rfl, (by rw [tx_len, tx_len, List.length_append]; show _ + 1 + _ ≤ sizeLine; omega), ?_⟩
        rw [tx_app]
        exact ⟨_, rfl, fin _ "NoRow" (.no (by rw [List.append_assoc]; exact no_str (by decide))) (bare (.inr rfl))⟩
    obtain ⟨far, ef, hf'⟩ := mod_nat rest (m := 100) (by decide)
    have hf : far < 100 := by omega
    refine ⟨_, rfl, _, _, rfl, rfl, (by show (0 : Int) < 100; decide), ?_⟩
    dsimp only
    rw [ef]
    refine ⟨_, rfl, _, _, rfl, rfl, _, _, rfl, rfl, ⟨(by show (0 : Int) < (far : Int) + 1; omega), (by show (far : Int) + 1 < 1073741824; omega)⟩, ?_⟩
    dsimp only
    obtain ⟨n, en⟩ : ∃ n : Nat, n = 400 / (far + 1) := ⟨_, rfl⟩
    have e4 : (400 : Int) / ((far : Int) + 1) = (n : Int) := by rw [en, show ((far : Int) + 1) = ((far + 1 : Nat) : Int) from rfl]; exact (Int.natCast_ediv 400 (far + 1)).symm
    rw [e4]
    have tb := times_bd hf
    rw [← en] at tb
    have df := (dec_is hf).l2
    apply by_elseC (¬ (99 : Int) < (n : Int))
    · intro rest'
      refine ⟨_, rfl, rfl, _, rfl, ?_⟩
      refine ite2D (fun _ => iteT ?_) (fun _ => ?_)
      · refine ⟨_, rfl, _, rfl, log_dec hf, ?_⟩
        rw [dec_tx, bg_tx1, bg_tx2]
        refine ⟨_, _, rfl, rfl, (by rw [tx_len, tx_len]; show 8 + _ ≤ sizeLine; omega), ?_⟩
        rw [tx_app]
        refine ⟨_, _, rfl, rfl, (by rw [tx_len, tx_len, List.length_append]; show 8 + _ + 5 ≤ sizeLine; omega), ?_⟩
        rw [tx_app]
        exact ⟨_, rfl, fin _ "TooLarge" (.big (by rw [bg_eq]; exact big_bg hf)) (cl_bg hf)⟩
      · refine ⟨_, rfl, _, _, rfl, rfl, _, rfl, ?_⟩
        refine ite2D (fun _ => ?_) (fun h => rest' h)
        refine ⟨_, rfl, _, rfl, log_dec hf, ?_⟩
        rw [dec_tx, bg_tx1, bg_tx2]
        refine ⟨_, _, rfl, rfl, (by rw [tx_len, tx_len]; show 8 + _ ≤ sizeLine; omega), ?_⟩
        rw [tx_app]
        refine ⟨_, _, rfl, rfl, (by rw [tx_len, tx_len, List.length_append]; show 8 + _ + 5 ≤ sizeLine; omega), ?_⟩
        rw [tx_app]
        exact ⟨_, rfl, fin _ "TooLarge" (.big (by rw [bg_eq]; exact big_bg hf)) (cl_bg hf)⟩
    intro n99'
    have n99 : n ≤ 99 := by omega
    have n1 : 1 ≤ n := by
      rcases Nat.eq_zero_or_pos n with z | z
      · rw [z] at tb; omega
      · exact z
    have dn := (dec_is (n := n) (by omega)).l2
    refine ⟨_, rfl, rfl, _, rfl, ?_⟩
    refine ite2D (fun _ => ?_) (fun _ => ?_)
    · refine ⟨_, rfl, _, rfl, log_dec (by omega), ?_⟩
      rw [dec_tx, two_tx, close1]
      refine ⟨_, _, rfl, rfl, (by rw [tx_len, tx_len]; show _ + 4 ≤ sizeLine; omega), ?_⟩
      rw [tx_app]
      refine ⟨_, rfl, _, rfl, log_dec hf, ?_⟩
      rw [dec_tx]
      refine ⟨_, _, rfl, rfl, (by rw [tx_len, tx_len, List.length_append]; show _ + 4 + _ ≤ sizeLine; omega), ?_⟩
      rw [tx_app]
      refine ⟨_, _, rfl, rfl, (by rw [tx_len, tx_len, List.length_append, List.length_append]; show _ + 4 + _ + 1 ≤ sizeLine; omega), ?_⟩
      rw [tx_app, tm_eq]
      obtain ⟨g1, g2, g3⟩ := rng_nat (n := far + 1) (by omega)
      rw [Int.natCast_add] at g1 g2
      refine ⟨_, rfl, _, _, rfl, rfl, _, rfl, fun p hp => ⟨p, 0, (far : Int) + 1, 1, far + 1, rfl, upd_same, g2, (by rw [Int.natCast_add]; exact g1), by omega, fun l2 hl2 => ?_⟩⟩
      have s4 : Same H1 (upd (upd H1 p (rngO p 0 ((far : Int) + 1) 1)) l2 (.lst (vI (rngL 0 1 (far + 1))))) := (Same.upd hp).new hl2
      have hl4 : (upd (upd H1 p (rngO p 0 ((far : Int) + 1) 1)) l2 (.lst (vI (rngL 0 1 (far + 1))))) l2 = some (.lst (vI (rngL 0 1 (far + 1)))) := upd_same
      generalize upd (upd H1 p (rngO p 0 ((far : Int) + 1) 1)) l2 (.lst (vI (rngL 0 1 (far + 1)))) = H4 at s4 hl4 ⊢
      have er : rngL 0 1 (far + 1) = ofN (List.range (far + 1)) := g3
      rw [er] at hl4
      have lr : (ofN (List.range (far + 1))).length = far + 1 := by unfold ofN; rw [List.length_map, List.length_range]
      refine ⟨_, rfl, _, _, _, rfl, rfl, hl4, (by omega), (by omega), (by rw [vI_len, lr, Int.toNat_natCast, Nat.mul_comm]; omega), fun l3 hl3 => ?_⟩
      rw [Int.toNat_natCast, vI_rep]
      refine ⟨(by show 3 ≤ sizeLine; omega), fun p5 hp5 => ?_⟩
      have u4 := s1.trans s4
      have u5 := u4.new (o := .lst (vI (List.replicate n (ofN (List.range (far + 1)))).flatten)) hl3
      have fl : (List.replicate n (ofN (List.range (far + 1)))).flatten.length = n * (far + 1) := by rw [len_rep, lr]
      refine k p5 ⟨tmT n far, "", (List.replicate n (ofN (List.range (far + 1)))).flatten⟩ _ (u5.new hp5) (u5.free hp5) ⟨.good ⟨_, rw_tm n1 (by omega) hf, ?_, nus_tm n far⟩, cl_tm (by omega) hf, by show (List.replicate n (ofN (List.range (far + 1)))).flatten.length ≤ 400; rw [fl]; exact tb.1, fun z hz => ?_⟩ ⟨l3, upd_same, (Same.upd hp5) _ _ upd_same⟩
      · rw [szs_tm]
        have : ((n * (far + 1) : Nat) : Int) ≤ 400 := by exact_mod_cast tb.1
        rw [Int.natCast_mul, Int.natCast_add] at this
        rw [Int.add_comm 1]
        exact this
      · obtain ⟨q, hq, hz⟩ := List.mem_flatten.mp hz
        rw [List.eq_of_mem_replicate hq] at hz
        obtain ⟨m, hm, rfl⟩ := List.mem_map.mp hz
        have := List.mem_range.mp hm
        show 0 ≤ (m : Int) ∧ (m : Int) < 100
        omega
    · have n98 : n + 1 < 100 := by
        by_cases c : far = 0
        · subst c; omega
        · by_cases c2 : far < 4
          · have : far = 1 ∨ far = 2 ∨ far = 3 := by omega
            rcases this with rfl | rfl | rfl <;> omega
          · have : n * 5 ≤ n * (far + 1) := Nat.mul_le_mul_left n (by omega)
            omega
      have dn1 := (dec_is n98).l2
      refine ⟨_, rfl, _, _, rfl, rfl, ((n + 1 : Nat) : Int), congrArg (fun z => [V.int z]) (show ((n : Int) + 1) = ((n + 1 : Nat) : Int) by omega), log_dec n98, ?_⟩
      rw [dec_tx, two_tx, close1]
      refine ⟨_, _, rfl, rfl, (by rw [tx_len, tx_len]; show _ + 4 ≤ sizeLine; omega), ?_⟩
      rw [tx_app]
      refine ⟨_, rfl, _, rfl, log_dec hf, ?_⟩
      rw [dec_tx]
      refine ⟨_, _, rfl, rfl, (by rw [tx_len, tx_len, List.length_append]; show _ + 4 + _ ≤ sizeLine; omega), ?_⟩
      rw [tx_app]
      refine ⟨_, _, rfl, rfl, (by rw [tx_len, tx_len, List.length_append, List.length_append]; show _ + 4 + _ + 1 ≤ sizeLine; omega), ?_⟩
      rw [tx_app, tm_eq]
      refine ⟨_, rfl, fin _ "TooLarge" (.big ⟨_, rw_tm (by omega) n98 hf, ?_⟩) (cl_tm n98 hf)⟩
      rw [szs_tm]
      have : (400 : Int) < (((n + 1) * (far + 1) : Nat) : Int) := by exact_mod_cast tb.2
      rw [Int.natCast_mul, Int.natCast_add far] at this
      rw [Int.add_comm 1 (far : Int)]
      exact this
end
theorem at_set {i : Nat} {v : V} {σ σ' : St} {H : Hp} {Kt : St → Hp → Prop} (h : σ.set i (some v) = σ') (k : Kt σ' H) : gName i v σ H Kt := by subst h; exact k
theorem cut_vI {ks : List Int} {i j : Int} (h0 : 0 ≤ i) (h1 : i ≤ j) (h2 : j ≤ ks.length) : cutV (vI ks) (some i) (some j) = vI ((ks.drop i.toNat).take (j.toNat - i.toNat)) := by
  unfold cutV
  have e1 : HT.sIx (vI ks).length 0 (some i) = i.toNat := by
    show (if i < 0 then _ else _) = _
    rw [if_neg (by omega), vI_len]; omega
  have e2 : HT.sIx (vI ks).length (vI ks).length (some j) = j.toNat := by
    show (if j < 0 then _ else _) = _
    rw [if_neg (by omega), vI_len]; omega
  rw [e1, e2]
  unfold vI
  rw [← List.map_drop, ← List.map_take]
theorem cut_mem {ks : List Int} {a b : Nat} {x : Int} (h : x ∈ (ks.drop a).take b) : x ∈ ks := List.mem_of_mem_drop (List.mem_of_mem_take h)
structure Fnd (H0 H : Hp) (F : Addr) (qs : List Addr) (kss : List (List Int)) : Prop where
  s : Same H0 H
  nF : H0 F = none
  N : NL H F qs kss
  b : ∀ ks ∈ kss, Nb ks
  ne : qs ≠ []
theorem Fnd.neF {H0 H : Hp} {F : Addr} {qs : List Addr} {kss : List (List Int)} (h : Fnd H0 H F qs kss) {q : Addr} {ks : List Int} (e : H q = some (.lst (vI ks))) : q ≠ F := fun z => by
  have o := h.N.h
  rw [← z, e] at o
  injection o with o
  injection o with o
  have ne := h.ne
  cases qs with
  | nil => exact ne rfl
  | cons x y => cases ks <;> cases o
theorem Fnd.same {H0 H H' : Hp} {F : Addr} {qs : List Addr} {kss : List (List Int)} (h : Fnd H0 H F qs kss) (s : Same H H') : Fnd H0 H' F qs kss := ⟨h.s.trans s, h.nF, h.N.same s, h.b, h.ne⟩
theorem Fnd.app {H0 H : Hp} {F l : Addr} {qs : List Addr} {kss : List (List Int)} {ks : List Int} (h : Fnd H0 H F qs kss) (hl : H l = some (.lst (vI ks))) (hb : Nb ks) : Fnd H0 (upd H F (.lst ((qs ++ [l]).map V.ref))) F (qs ++ [l]) (kss ++ [ks]) := by
  have ln := h.N.l
  refine ⟨h.s.over h.nF, h.nF, ⟨upd_same, by rw [List.length_append, List.length_append, ln]; rfl, fun i a ks' e1 e2 => ?_⟩, fun ks' hk => ?_, by simp⟩
  · by_cases hi : i < qs.length
    · rw [List.getElem?_append_left hi] at e1
      rw [List.getElem?_append_left (by omega)] at e2
      have := h.N.r i a ks' e1 e2
      rw [upd_ne (h.neF this)]
      exact this
    · have hi2 : i = qs.length := by
        have := (List.getElem?_eq_some_iff.mp e1).1
        rw [List.length_append, List.length_singleton] at this
        omega
      subst hi2
      rw [List.getElem?_append_right (Nat.le_refl _), Nat.sub_self] at e1
      rw [List.getElem?_append_right (by omega), ln, Nat.sub_self] at e2
      cases e1
      cases e2
      rw [upd_ne (h.neF hl)]
      exact hl
  · rcases List.mem_append.mp hk with hk | hk
    · exact h.b ks' hk
    · rw [List.mem_singleton.mp hk]; exact hb
theorem Fnd.set {H0 H : Hp} {F l : Addr} {qs : List Addr} {kss : List (List Int)} {ks : List Int} {j : Nat} (h : Fnd H0 H F qs kss) (hl : H l = some (.lst (vI ks))) (hb : Nb ks) : Fnd H0 (upd H F (.lst ((qs.set j l).map V.ref))) F (qs.set j l) (kss.set j ks) := by
  have ln := h.N.l
  refine ⟨h.s.over h.nF, h.nF, ⟨upd_same, by rw [List.length_set, List.length_set, ln], fun i a ks' e1 e2 => ?_⟩, fun ks' hk => ?_, fun z => h.ne (List.length_eq_zero_iff.mp (by rw [← List.length_set (i := j) (a := l), z]; rfl))⟩
  · rw [List.getElem?_set] at e1 e2
    by_cases hj : j = i
    · subst hj
      by_cases hi : j < qs.length
      · rw [if_pos rfl, if_pos hi] at e1
        rw [if_pos rfl, if_pos (by omega)] at e2
        cases e1
        cases e2
        rw [upd_ne (h.neF hl)]
        exact hl
      · rw [if_pos rfl, if_neg hi] at e1
        cases e1
    · rw [if_neg hj] at e1 e2
      have := h.N.r i a ks' e1 e2
      rw [upd_ne (h.neF this)]
      exact this
  · rcases List.mem_or_eq_of_mem_set hk with hk | hk
    · exact h.b ks' hk
    · rw [hk]; exact hb
theorem nb_nil : Nb [] := ⟨by simp, fun z hz => by simp at hz⟩
theorem nb_mod {ns : List Int} {m : Int} (h : 0 < m) (h1 : m ≤ 100) (l : ns.length ≤ 12) : Nb (ns.map (· % m)) := by
  refine ⟨by rw [List.length_map]; omega, fun z hz => ?_⟩
  obtain ⟨y, _, rfl⟩ := List.mem_map.mp hz
  have a := Int.emod_nonneg y (show m ≠ 0 by omega)
  have b := Int.emod_lt_of_pos y h
  constructor <;> omega
theorem nb_rs {ks : List Int} (h : Rs ks) : Nb ks := by
  refine ⟨?_, fun z hz => by have := h.2 z hz; omega⟩
  have hr : ∀ (n i : Nat) (a : Int), ks[i]? = some a → i ≤ n → (i : Int) ≤ a := fun n => by
    induction n with
    | zero =>
      intro i a e hi
      have := h.2 a (List.mem_of_getElem? e)
      omega
    | succ n ih =>
      intro i a e hi
      cases i with
      | zero => have := h.2 a (List.mem_of_getElem? e); omega
      | succ i =>
        have hi2 : i < ks.length := by have := (List.getElem?_eq_some_iff.mp e).1; omega
        have h1 := ih i ks[i] (List.getElem?_eq_getElem hi2) (by omega)
        have h2 := h.1 i _ a (List.getElem?_eq_getElem hi2) e
        omega
  by_cases c : ks.length ≤ 40
  · omega
  · have h40 : 40 < ks.length := by omega
    have h1 := hr 40 40 ks[40] (List.getElem?_eq_getElem h40) (Nat.le_refl _)
    have h2 := h.2 ks[40] (List.getElem_mem h40)
    omega
section
variable {P : Program} {w : World} {K : PySem.W.Frag} {mg : Str → Option Value} {base : Heap} {t : Adr}
theorem by_restF {G : Prop} {R : Hp → Prop} (C : Hp → Prop) (main : (∀ H2, C H2 → R H2) → G) (rest : ∀ H2, C H2 → R H2) : G := main rest
theorem at_num {ns : List Int} {i : Nat} (h : i < ns.length) : atI (vI ns) (i : Int) = some (.int ns[i]) := atI_of (by omega) (by rw [Int.toNat_natCast]; exact vI_get (List.getElem?_eq_getElem h))
def sp_rowsby : Sp := fun vs H Q _ => ∃ (l : Addr) (ns : List Int), vs = [.ref l] ∧ H l = some (.lst (vI ns)) ∧ ns.length = 40 ∧ (∀ z ∈ ns, 0 ≤ z) ∧
  ∀ (F : Addr) (qs : List Addr) (kss : List (List Int)) (H' : Hp), Same H H' → NL H' F qs kss → 3 ≤ kss.length → kss.length ≤ 10 → (∀ ks ∈ kss, Nb ks) → Q (.ref F) H'
theorem ok_law_rows_by (T : Txt K mg t) : FnOk P w K mg base CX0 2 t.f_law_rows_by t.d_law_rows_by ["numbers"] sp_rowsby := by
  have G_law_subset : FnOk P w K mg base CX0 1 t.f_law_subset t.d_law_subset _ _ := ok_law_subset T
  refine T.law_rows_by.F.ok sc_law_rows_by (fun vs H Q E h => ?_) (fun cdv A outer s H vs Q E hr h => ?_)
  · obtain ⟨l, ns, rfl, _⟩ := h
    rfl
  · obtain ⟨l, ns, rfl, hl, n40, nn0, k⟩ := h
    have hsz : sizeLine = 16777216 := sizeLine_eq
    have a5 : atI (vI ns) 5 = some (.int ns[5]) := at_num (i := 5) (by omega)
    have a6 : atI (vI ns) 6 = some (.int ns[6]) := at_num (i := 6) (by omega)
    have a7 : atI (vI ns) 7 = some (.int ns[7]) := at_num (i := 7) (by omega)
    have a0 : atI (vI ns) 0 = some (.int ns[0]) := at_num (i := 0) (by omega)
    refine ⟨_, (pss_cons (ps_set (i := 1) sc_law_rows_by.nd rfl (Or.inl rfl) (pe_op op_add pe_int (pe_op op_mod (pe_ix (ix_listK (K := K)) (pv 0) pe_int (fun _ _ => rfl)) pe_int)))
      (pss_cons (ps_set (i := 2) sc_law_rows_by.nd rfl (Or.inl rfl) (pe_op op_add pe_int (pe_op op_mod (pe_ix (ix_listK (K := K)) (pv 0) pe_int (fun _ _ => rfl)) pe_int)))
      (pss_cons (ps_set (i := 3) sc_law_rows_by.nd rfl (Or.inl rfl) (pe_op op_add pe_int (pe_op op_mod (pe_ix (ix_listK (K := K)) (pv 0) pe_int (fun _ _ => rfl)) pe_int)))
      (pss_cons (ps_set (i := 4) sc_law_rows_by.nd rfl (Or.inr rfl) (pe_ix (ix_listK (K := K)) (pe_lst (pa_cons pe_int (pa_cons pe_int (pa_cons pe_int (pa_cons pe_int pa_nil))))) (pe_op op_mod (pe_ix (ix_listK (K := K)) (pv 0) pe_int (fun _ _ => rfl)) pe_int) (fun _ _ => rfl)))
      (pss_cons (ps_set (i := 5) sc_law_rows_by.nd rfl (Or.inl rfl) (pe_lst (pa_cons (pe_comp (CompOk.mk (caps := [4]) (Nc := ["number", "most"]) rfl (by decide +kernel) (by decide +kernel) (comp_fr (sc0 := defScope s_law_rows_by) rfl (by decide +kernel)) rfl rfl rfl (by decide +kernel) (fun k j h => match k, h with | 0, h => by obtain rfl := Option.some.inj h; exact ⟨_, rfl, rfl, rfl⟩ | _ + 1, h => by simp at h)) rfl (pi_listK (K := K) (pe_slice (sl_listK (K := K)) (pv 0) (po_some pe_int) (po_some (pe_op op_add pe_int (pv 1))))) (fun _ _ _ _ _ => .nil) (fun _ _ _ _ _ => (pe_op op_mod (pv 0) (pv 1)))) pa_nil)))
      (pss_cons (ps_for PassesOwn.never rfl (pi_listK (K := K) (pe_slice (sl_listK (K := K)) (pv 0) (po_some pe_int) (po_some (pe_op op_add pe_int (pv 2))))) (pg_name (i := 6) sc_law_rows_by.nd rfl (Or.inl rfl))
        (pss_one (ps_expr (pe_bmK (K := K) PySem.F.plainAttrs_list PySem.F.slot_list_append PySem.F.type_list_append mt_append (pv 5) (pa_cons (pe_call (G_law_subset.mono (by decide)) hr rfl T.law_subset.m T.law_subset.F.kp T.law_subset.b .nil pass0 (pa_cons (pv 6) pa_nil)) pa_nil)))))
      (pss_cons (ps_set (i := 4) sc_law_rows_by.nd rfl (Or.inr rfl) (pe_ix (ix_listK (K := K)) (pe_lst (pa_cons (pv 2) (pa_cons (pv 2) (pa_cons (pv 2) (pa_cons (pe_op op_add (pv 2) pe_int) pa_nil))))) (pe_op op_mod (pe_op op_fdiv (pe_ix (ix_listK (K := K)) (pv 0) pe_int (fun _ _ => rfl)) pe_int) pe_int) (fun _ _ => rfl)))
      (pss_cons (ps_expr (pe_bmK (K := K) PySem.F.plainAttrs_list PySem.F.slot_list_append PySem.F.type_list_append mt_append (pv 5) (pa_cons (pe_comp (CompOk.mk (caps := [4]) (Nc := ["number", "most"]) rfl (by decide +kernel) (by decide +kernel) (comp_fr (sc0 := defScope s_law_rows_by) rfl (by decide +kernel)) rfl rfl rfl (by decide +kernel) (fun k j h => match k, h with | 0, h => by obtain rfl := Option.some.inj h; exact ⟨_, rfl, rfl, rfl⟩ | _ + 1, h => by simp at h)) rfl (pi_listK (K := K) (pe_slice (sl_listK (K := K)) (pv 0) (po_some pe_int) (po_some (pe_op op_add pe_int (pv 3))))) (fun _ _ _ _ _ => .nil) (fun _ _ _ _ _ => (pe_op op_mod (pv 0) (pv 1)))) pa_nil)))
      (pss_cons (ps_if (pt_cmpR op_eq (pe_op op_mod (pe_op op_fdiv (pe_ix (ix_listK (K := K)) (pv 0) pe_int (fun _ _ => rfl)) pe_int) pe_int) pe_int (nomark _))
        (pss_one (ps_asg (pe_lst pa_nil) (pg_sub (pv 5) pe_int set_list)))
        pss_nil)
      (pss_cons (ps_if (pt_cmpR op_eq (pe_op op_mod (pe_op op_fdiv (pe_ix (ix_listK (K := K)) (pv 0) pe_int (fun _ _ => rfl)) pe_int) pe_int) pe_int (nomark _))
        (pss_one (ps_asg (pe_lst pa_nil) (pg_sub (pv 5) (pe_un un_neg pe_int) set_list)))
        pss_nil)
      (pss_one (ps_ret (pv 5))))))))))))), ?_⟩
    obtain ⟨en, een, hen⟩ := mod_nat ns[5] (m := 12) (by decide)
    obtain ⟨tr, etr, htr⟩ := mod_nat ns[6] (m := 8) (by decide)
    obtain ⟨pk, epk, hpk⟩ := mod_nat ns[7] (m := 12) (by decide)
    refine ⟨_, rfl, _, _, _, _, rfl, rfl, SqL.of hl, a5, _, _, rfl, rfl, (by show (0 : Int) < 12; decide), _, _, rfl, rfl, ?_⟩
    refine at_set (σ' := [some (.ref l), some (.int (1 + (en : Int))), none, none, none, none, none]) (by rw [← een]; rfl) ?_
    refine ⟨_, rfl, _, _, _, _, rfl, rfl, SqL.of hl, a6, _, _, rfl, rfl, (by show (0 : Int) < 8; decide), _, _, rfl, rfl, ?_⟩
    refine at_set (σ' := [some (.ref l), some (.int (1 + (en : Int))), some (.int (1 + (tr : Int))), none, none, none, none]) (by rw [← etr]; rfl) ?_
    refine ⟨_, rfl, _, _, _, _, rfl, rfl, SqL.of hl, a7, _, _, rfl, rfl, (by show (0 : Int) < 12; decide), _, _, rfl, rfl, ?_⟩
    refine at_set (σ' := [some (.ref l), some (.int (1 + (en : Int))), some (.int (1 + (tr : Int))), some (.int (1 + (pk : Int))), none, none, none]) (by rw [← epk]; rfl) ?_
    obtain ⟨m1, em1, m1a, m1b⟩ : ∃ m1 : Int, atI [V.int 40, V.int 40, V.int 40, V.int 100] (ns[0] % 4) = some (.int m1) ∧ 0 < m1 ∧ m1 ≤ 100 := by
      obtain ⟨j, ej, hj⟩ := mod_nat ns[0] (m := 4) (by decide)
      rw [ej]
      have : j = 0 ∨ j = 1 ∨ j = 2 ∨ j = 3 := by omega
      rcases this with rfl | rfl | rfl | rfl
      · exact ⟨40, rfl, by decide, by decide⟩
      · exact ⟨40, rfl, by decide, by decide⟩
      · exact ⟨40, rfl, by decide, by decide⟩
      · exact ⟨100, rfl, by decide, by decide⟩
    refine ⟨(by show 4 ≤ sizeLine; omega), fun q1 nq1 => ?_⟩
    have s1 : Same H (upd H q1 (.lst [.int 40, .int 40, .int 40, .int 100])) := .upd nq1
    have hq1 : (upd H q1 (.lst [.int 40, .int 40, .int 40, .int 100])) q1 = some (.lst [.int 40, .int 40, .int 40, .int 100]) := upd_same
    generalize upd H q1 (.lst [.int 40, .int 40, .int 40, .int 100]) = H1 at s1 hq1 ⊢
    have hl1 := s1 _ _ hl
    refine ⟨_, rfl, _, _, _, _, rfl, rfl, SqL.of hl1, a0, _, _, rfl, rfl, (by show (0 : Int) < 4; decide), _, _, _, _, rfl, rfl, SqL.of hq1, em1, ?_⟩
    refine at_set (σ' := [some (.ref l), some (.int (1 + (en : Int))), some (.int (1 + (tr : Int))), some (.int (1 + (pk : Int))), some (.int m1), none, none]) rfl ?_
    refine ⟨_, rfl, _, rfl, _, rfl, _, _, rfl, rfl, _, rfl, _, _, rfl, SqL.of hl1, fun q2 nq2 => ?_⟩
    rw [cut_vI (i := 8) (j := 8 + (1 + (en : Int))) (by decide) (by omega) (by omega)]
    have c1 : ((ns.drop (8 : Int).toNat).take ((8 + (1 + (en : Int))).toNat - (8 : Int).toNat)).length ≤ 12 := by rw [List.length_take]; omega
    generalize (ns.drop (8 : Int).toNat).take ((8 + (1 + (en : Int))).toNat - (8 : Int).toNat) = n1 at c1 ⊢
    have s2 : Same H1 (upd H1 q2 (.lst (vI n1))) := .upd nq2
    have hq2 : (upd H1 q2 (.lst (vI n1))) q2 = some (.lst (vI n1)) := upd_same
    generalize upd H1 q2 (.lst (vI n1)) = H2 at s2 hq2 ⊢
    refine ⟨_, rfl, ⟨_, SqL.of hq2⟩, comp_list (K := K) (a := q2) (xs := vI n1) (fun i ys H3 => H3 = H2 ∧ ys = vI ((n1.take i).map (· % m1))) ⟨rfl, rfl⟩ ?_ ?_ ?_ ?_⟩
    · rintro i ys H3 hi ⟨rfl, rfl⟩
      refine ⟨SqL.of hq2, ?_⟩
      rw [vI_len, List.length_map, List.length_take]
      omega
    · rw [vI_len]; omega
    · rintro i xv ys H3 hi hxv ⟨rfl, rfl⟩
      obtain ⟨z, hz, rfl⟩ := vI_got hxv
      refine CTurn.no ?_
      refine ⟨_, rfl, _, rfl, _, _, rfl, rfl, m1a, ?_⟩
      dsimp only
      rw [vI_app]
      refine CN.of hi ⟨rfl, ?_⟩
      rw [List.take_add_one, hz, List.map_append]
      rfl
    rintro ys H3 q3 ⟨rfl, rfl⟩ nq3
    rw [vI_len, List.take_length]
    have s3 : Same H3 (upd H3 q3 (.lst (vI (n1.map (· % m1))))) := .upd nq3
    have hq3 : (upd H3 q3 (.lst (vI (n1.map (· % m1))))) q3 = some (.lst (vI (n1.map (· % m1)))) := upd_same
    generalize upd H3 q3 (.lst (vI (n1.map (· % m1)))) = H4 at s3 hq3 ⊢
    refine ⟨(by show 1 ≤ sizeLine; omega), fun F nF => ?_⟩
    have u4 := (s1.trans s2).trans s3
    have FN : Fnd H (upd H4 F (.lst [.ref q3])) F [q3] [n1.map (· % m1)] := by
      refine ⟨u4.new nF, u4.free nF, ⟨upd_same, rfl, fun i a ks e1 e2 => ?_⟩, fun ks hk => ?_, by simp⟩
      · cases i with
        | zero =>
          cases e1
          cases e2
          exact (Same.upd nF) _ _ hq3
        | succ i => simp at e1
      · rw [List.mem_singleton.mp hk]; exact nb_mod m1a m1b c1
    generalize upd H4 F (.lst [.ref q3]) = H5 at FN ⊢
    refine at_set (σ' := [some (.ref l), some (.int (1 + (en : Int))), some (.int (1 + (tr : Int))), some (.int (1 + (pk : Int))), some (.int m1), some (.ref F), none]) rfl ?_
    have hl5 := FN.s _ _ hl
    refine ⟨_, rfl, _, rfl, _, rfl, _, _, rfl, rfl, _, rfl, _, _, rfl, SqL.of hl5, fun q4 nq4 => ?_⟩
    rw [cut_vI (i := 20) (j := 20 + (1 + (tr : Int))) (by decide) (by omega) (by omega)]
    have c2 : ((ns.drop (20 : Int).toNat).take ((20 + (1 + (tr : Int))).toNat - (20 : Int).toNat)).length = 1 + tr := by rw [List.length_take, List.length_drop]; omega
    have c2m : ∀ z ∈ (ns.drop (20 : Int).toNat).take ((20 + (1 + (tr : Int))).toNat - (20 : Int).toNat), 0 ≤ z := fun z hz => nn0 z (cut_mem hz)
    generalize (ns.drop (20 : Int).toNat).take ((20 + (1 + (tr : Int))).toNat - (20 : Int).toNat) = n2 at c2 c2m ⊢
    have hq4 : (upd H5 q4 (.lst (vI n2))) q4 = some (.lst (vI n2)) := upd_same
    have FN6 := FN.same (Same.upd (o := .lst (vI n2)) nq4)
    generalize upd H5 q4 (.lst (vI n2)) = H6 at FN6 hq4 ⊢
    refine ⟨_, rfl, ⟨_, SqL.of hq4⟩, for_list (K := K) (a := q4) (xs := vI n2) (fun i σ H7 => ∃ (v : Option V) (qs : List Addr) (kss : List (List Int)), σ = [some (.ref l), some (.int (1 + (en : Int))), some (.int (1 + (tr : Int))), some (.int (1 + (pk : Int))), some (.int m1), some (.ref F), v] ∧ Fnd H H7 F qs kss ∧ kss.length = i + 1 ∧ H7 q4 = some (.lst (vI n2))) ⟨none, _, _, rfl, FN6, rfl, hq4⟩ (fun i σ H7 _ ⟨_, _, _, _, _, _, h7⟩ => SqL.of h7) ?_ ?_⟩
    · rintro i xv σ H7 hxv ⟨v, qs, kss, rfl, F7, l7, h7⟩
      obtain ⟨z, hz, rfl⟩ := vI_got hxv
      have hi : i < n2.length := (List.getElem?_eq_some_iff.mp hz).1
      have ql := F7.N.l
      refine ⟨_, rfl, .inl ⟨rfl, _, SqL.of F7.N.h⟩, _, rfl, z, rfl, c2m z (List.mem_of_getElem? hz), fun lr ks H8 s8 nlr hlr R => ?_⟩
      have F8 := F7.same s8
      refine ⟨_, _, _, rfl, rfl, F8.N.h, (by rw [List.length_map]; omega), ?_⟩
      have F9 := F8.app hlr (nb_rs R)
      rw [List.map_append] at F9
      refine ⟨_, _, _, rfl, F9, by rw [List.length_append, l7]; rfl, ?_⟩
      rw [upd_ne (F8.neF (s8 _ _ h7))]
      exact s8 _ _ h7
    rintro σ H7 ⟨v, qs, kss, rfl, F7, l7, h7⟩
    rw [vI_len, c2] at l7
    obtain ⟨m2, em2, m2a, m2b⟩ : ∃ m2 : Int, atI [V.int (1 + (tr : Int)), V.int (1 + (tr : Int)), V.int (1 + (tr : Int)), V.int (1 + (tr : Int) + 1)] (ns[0] / 4 % 4) = some (.int m2) ∧ 0 < m2 ∧ m2 ≤ 100 := by
      obtain ⟨j, ej, hj⟩ := mod_nat (ns[0] / 4) (m := 4) (by decide)
      rw [ej]
      have : j = 0 ∨ j = 1 ∨ j = 2 ∨ j = 3 := by omega
      rcases this with rfl | rfl | rfl | rfl
      · exact ⟨_, rfl, by omega, by omega⟩
      · exact ⟨_, rfl, by omega, by omega⟩
      · exact ⟨_, rfl, by omega, by omega⟩
      · exact ⟨_, rfl, by omega, by omega⟩
    refine ⟨_, rfl, _, rfl, _, rfl, _, rfl, _, _, rfl, rfl, (by show 4 ≤ sizeLine; omega), fun q5 nq5 => ?_⟩
    have hq5 : (upd H7 q5 (.lst [.int (1 + (tr : Int)), .int (1 + (tr : Int)), .int (1 + (tr : Int)), .int (1 + (tr : Int) + 1)])) q5 = some (.lst [.int (1 + (tr : Int)), .int (1 + (tr : Int)), .int (1 + (tr : Int)), .int (1 + (tr : Int) + 1)]) := upd_same
    have F8 := F7.same (Same.upd (o := .lst [.int (1 + (tr : Int)), .int (1 + (tr : Int)), .int (1 + (tr : Int)), .int (1 + (tr : Int) + 1)]) nq5)
    show ∃ _, _
    generalize upd H7 q5 (.lst [.int (1 + (tr : Int)), .int (1 + (tr : Int)), .int (1 + (tr : Int)), .int (1 + (tr : Int) + 1)]) = H8 at hq5 F8 ⊢
    have hl8 := F8.s _ _ hl
    refine ⟨_, rfl, _, _, _, _, rfl, rfl, SqL.of hl8, a0, _, _, rfl, rfl, ⟨by decide, by decide⟩, _, _, rfl, rfl, (by show (0 : Int) < 4; decide), _, _, _, _, rfl, rfl, SqL.of hq5, em2, ?_⟩
    refine at_set (σ' := [some (.ref l), some (.int (1 + (en : Int))), some (.int (1 + (tr : Int))), some (.int (1 + (pk : Int))), some (.int m2), some (.ref F), v]) rfl ?_
    refine ⟨_, rfl, .inl ⟨rfl, _, SqL.of F8.N.h⟩, _, rfl, _, rfl, _, rfl, _, _, rfl, rfl, _, rfl, _, _, rfl, SqL.of hl8, fun q6 nq6 => ?_⟩
    rw [cut_vI (i := 28) (j := 28 + (1 + (pk : Int))) (by decide) (by omega) (by omega)]
    have c3 : ((ns.drop (28 : Int).toNat).take ((28 + (1 + (pk : Int))).toNat - (28 : Int).toNat)).length ≤ 12 := by rw [List.length_take]; omega
    generalize (ns.drop (28 : Int).toNat).take ((28 + (1 + (pk : Int))).toNat - (28 : Int).toNat) = n3 at c3 ⊢
    have hq6 : (upd H8 q6 (.lst (vI n3))) q6 = some (.lst (vI n3)) := upd_same
    have F9 := F8.same (Same.upd (o := .lst (vI n3)) nq6)
    generalize upd H8 q6 (.lst (vI n3)) = H9 at hq6 F9 ⊢
    refine ⟨_, rfl, ⟨_, SqL.of hq6⟩, comp_list (K := K) (a := q6) (xs := vI n3) (fun i ys H3 => H3 = H9 ∧ ys = vI ((n3.take i).map (· % m2))) ⟨rfl, rfl⟩ ?_ ?_ ?_ ?_⟩
    · rintro i ys H3 hi ⟨rfl, rfl⟩
      refine ⟨SqL.of hq6, ?_⟩
      rw [vI_len, List.length_map, List.length_take]
      omega
    · rw [vI_len]; omega
    · rintro i xv ys H3 hi hxv ⟨rfl, rfl⟩
      obtain ⟨z, hz, rfl⟩ := vI_got hxv
      refine CTurn.no ?_
      refine ⟨_, rfl, _, rfl, _, _, rfl, rfl, m2a, ?_⟩
      dsimp only
      rw [vI_app]
      refine CN.of hi ⟨rfl, ?_⟩
      rw [List.take_add_one, hz, List.map_append]
      rfl
    rintro ys H10 q7 ⟨rfl, rfl⟩ nq7
    rw [vI_len, List.take_length]
    have hq7 : (upd H10 q7 (.lst (vI (n3.map (· % m2))))) q7 = some (.lst (vI (n3.map (· % m2)))) := upd_same
    have F10 := F9.same (Same.upd (o := .lst (vI (n3.map (· % m2)))) nq7)
    generalize upd H10 q7 (.lst (vI (n3.map (· % m2)))) = H11 at hq7 F10 ⊢
    have ql := F10.N.l
    refine ⟨_, _, _, rfl, rfl, F10.N.h, (by rw [List.length_map]; omega), ?_⟩
    have F11 := F10.app hq7 (nb_mod m2a m2b c3)
    rw [List.map_append] at F11
    have l11 : (kss ++ [n3.map (· % m2)]).length = kss.length + 1 := by rw [List.length_append]; rfl
    generalize kss ++ [n3.map (· % m2)] = kss1 at F11 l11
    obtain ⟨qs1, eqs1⟩ : ∃ qs1, qs1 = qs ++ [q7] := ⟨_, rfl⟩
    rw [← eqs1] at F11
    have F11' : Fnd H (upd H11 F (.lst (qs.map V.ref ++ [V.ref q7]))) F qs1 kss1 := F11
    generalize upd H11 F (.lst (qs.map V.ref ++ [V.ref q7])) = H12 at F11' ⊢
    apply by_restF (fun H' => ∃ qs' kss', Fnd H H' F qs' kss' ∧ kss'.length = kss1.length)
    · intro rest
      have hl12 := F11'.s _ _ hl
      refine ⟨_, rfl, _, _, _, _, rfl, rfl, SqL.of hl12, a0, _, _, rfl, rfl, ⟨by decide, by decide⟩, _, _, rfl, rfl, (by show (0 : Int) < 8; decide), rfl, _, rfl, ?_⟩
      refine ite2D ?tt (fun _ => rest H12 ⟨_, _, F11', rfl⟩)
      case tt =>
        intro _
        refine ⟨Nat.zero_le _, fun e ne => ?_⟩
        have F13 := F11'.same (Same.upd (o := .lst []) ne)
        have he : (upd H12 e (.lst [])) e = some (.lst (vI [])) := upd_same
        generalize upd H12 e (.lst []) = H13 at F13 he ⊢
        have q0 : 0 < qs1.length := by have := F13.N.l; omega
        refine ⟨_, rfl, _, _, _, 0, rfl, rfl, F13.N.h, ixN_of (by decide) (by rw [List.length_map]; show (0 : Int) < _; omega), ?_⟩
        have F14 := F13.set (j := 0) he nb_nil
        rw [List.map_set] at F14
        exact rest _ ⟨_, _, F14, by rw [List.length_set]⟩
    rintro H13 ⟨qs2, kss2, F13, l13⟩
    apply by_restF (fun H' => ∃ qs' kss', Fnd H H' F qs' kss' ∧ kss'.length = kss1.length)
    · intro rest
      have hl12 := F13.s _ _ hl
      refine ⟨_, rfl, _, _, _, _, rfl, rfl, SqL.of hl12, a0, _, _, rfl, rfl, ⟨by decide, by decide⟩, _, _, rfl, rfl, (by show (0 : Int) < 8; decide), rfl, _, rfl, ?_⟩
      refine ite2D ?tt (fun _ => rest H13 ⟨_, _, F13, l13⟩)
      case tt =>
        intro _
        refine ⟨Nat.zero_le _, fun e ne => ?_⟩
        have F14 := F13.same (Same.upd (o := .lst []) ne)
        have he : (upd H13 e (.lst [])) e = some (.lst (vI [])) := upd_same
        generalize upd H13 e (.lst []) = H14 at F14 he ⊢
        have ql2 := F14.N.l
        have ei : ixN (qs2.map V.ref).length (-1) = some (qs2.length - 1) := by
          unfold ixN
          rw [if_neg (by decide), List.length_map, if_pos (by omega)]
          congr 1
          omega
        refine ⟨_, rfl, _, rfl, _, _, _, qs2.length - 1, rfl, rfl, F14.N.h, ei, ?_⟩
        have F15 := F14.set (j := qs2.length - 1) he nb_nil
        rw [List.map_set] at F15
        exact rest _ ⟨_, _, F15, by rw [List.length_set]; exact l13⟩
    rintro H14 ⟨qs3, kss3, F14, l14⟩
    exact ⟨_, rfl, k F qs3 kss3 H14 F14.s F14.N (by omega) (by omega) F14.b⟩
def sp_fits : Sp := fun vs H Q _ => ∃ (x y z : Addr) (rs : List Addr) (th : List Int) (tss : List (List Int)) (tr : List Int), vs = [.ref x, .ref y, .ref z] ∧ H x = some (.lst (vI th)) ∧ NL H y rs tss ∧ H z = some (.lst (vI tr)) ∧ Nb th ∧ (∀ ks ∈ tss, Nb ks) ∧ tss.length ≤ 100 ∧ Nb tr ∧
  (Ft th tss tr → ∀ H', Same H H' → Q (.bl true) H') ∧ (¬ Ft th tss tr → ∀ H', Same H H' → Q (.bl false) H')
theorem ok_law_fits (T : Txt K mg t) : FnOk P w K mg base CX0 1 t.f_law_fits t.d_law_fits ["threading", "ties", "treading"] sp_fits := by
  refine T.law_fits.F.ok sc_law_fits (fun vs H Q E h => ?_) (fun cdv A outer s H vs Q E hr h => ?_)
  · obtain ⟨x, y, z, rs, th, tss, tr, rfl, _⟩ := h
    rfl
  · obtain ⟨x, y, z, rs, th, tss, tr, rfl, hx, N, hz, bth, bts, tl, btr, k1, k2⟩ := h
    have hsz : sizeLine = 16777216 := sizeLine_eq
    have rl := N.l
    refine ⟨_, (pss_cons (ps_for PassesOwn.never rfl (pi_listK (K := K) (pe_lst (pa_cons (pv 0) (pa_cons (pv 1) (pa_cons (pv 2) pa_nil))))) (pg_name (i := 3) sc_law_fits.nd rfl (Or.inl rfl))
        (pss_one (ps_if (PW.pt (pw_or (pt_cmpR op_eq (pe_callB (call_len_seqK (K := K)) rfl T.b_len bt_len (pa_cons (pv 3) pa_nil)) pe_int (nomark _)) (pw_or1 (pt_cmpR op_gt (pe_callB (call_len_seqK (K := K)) rfl T.b_len bt_len (pa_cons (pv 3) pa_nil)) pe_int (nomark _)))))
          (pss_one (ps_ret pe_bl))
          pss_nil)))
      (pss_cons (ps_for PassesOwn.never rfl (pi_listK (K := K) (pv 0)) (pg_name (i := 4) sc_law_fits.nd rfl (Or.inl rfl))
        (pss_one (ps_if (pt_cmpR op_gt (pv 4) pe_int (nomark _))
          (pss_one (ps_ret pe_bl))
          pss_nil)))
      (pss_cons (ps_for PassesOwn.never rfl (pi_listK (K := K) (pv 1)) (pg_name (i := 5) sc_law_fits.nd rfl (Or.inl rfl))
        (pss_one (ps_for PassesOwn.never rfl (pi_range1 rfl T.b_range (pa_cons (pe_callB (call_len_seqK (K := K)) rfl T.b_len bt_len (pa_cons (pv 5) pa_nil)) pa_nil)) (pg_name (i := 6) sc_law_fits.nd rfl (Or.inl rfl))
          (pss_one (ps_if (PW.pt (pw_or (pt_cmpR op_gt (pe_ix (ix_listK (K := K)) (pv 5) (pv 6) (fun _ _ => rfl)) pe_int (nomark _)) (pw_or1 (PW.pt (pw_and (pt_cmpR op_gt (pv 6) pe_int (nomark _)) (pw_and1 (pt_cmpR op_ge (pe_ix (ix_listK (K := K)) (pv 5) (pe_op op_sub (pv 6) pe_int) (fun _ _ => rfl)) (pe_ix (ix_listK (K := K)) (pv 5) (pv 6) (fun _ _ => rfl)) (nomark _))))))))
            (pss_one (ps_ret pe_bl))
            pss_nil)))))
      (pss_cons (ps_for PassesOwn.never rfl (pi_listK (K := K) (pv 2)) (pg_name (i := 7) sc_law_fits.nd rfl (Or.inl rfl))
        (pss_one (ps_if (pt_cmpR op_ge (pv 7) (pe_callB (call_len_seqK (K := K)) rfl T.b_len bt_len (pa_cons (pv 1) pa_nil)) (nomark _))
          (pss_one (ps_ret pe_bl))
          pss_nil)))
      (pss_one (ps_ret pe_bl)))))), ?_⟩
    refine ⟨_, rfl, _, rfl, _, rfl, (by show 3 ≤ sizeLine; omega), fun p np => ?_⟩
    have s1 : Same H (upd H p (.lst [.ref x, .ref y, .ref z])) := .upd np
    have hp : (upd H p (.lst [.ref x, .ref y, .ref z])) p = some (.lst [.ref x, .ref y, .ref z]) := upd_same
    generalize upd H p (.lst [.ref x, .ref y, .ref z]) = H1 at s1 hp ⊢
    have hx1 := s1 _ _ hx
    have N1 := N.same s1
    have hz1 := s1 _ _ hz
    refine ⟨_, rfl, ⟨_, SqL.of hp⟩, for_list (K := K) (a := p) (xs := [.ref x, .ref y, .ref z]) (fun i σ H2 => ∃ v : Option V, σ = [some (.ref x), some (.ref y), some (.ref z), v, none, none, none, none] ∧ H2 = H1 ∧ (1 ≤ i → CtOk th.length) ∧ (2 ≤ i → CtOk tss.length) ∧ (3 ≤ i → CtOk tr.length)) ⟨none, rfl, rfl, fun h => absurd h (by decide), fun h => absurd h (by decide), fun h => absurd h (by decide)⟩ (fun i σ H2 _ ⟨_, _, e, _⟩ => by rw [e]; exact SqL.of hp) ?_ ?_⟩
    · rintro i xv σ H2 hxv ⟨v, rfl, rfl, c1, c2, c3⟩
      match i, hxv with
      | 0, hxv =>
        cases hxv
        refine ⟨_, rfl, _, _, rfl, .inl (SqL.of hx1), rfl, _, rfl, ?_⟩
        rw [vI_len]
        refine ite2D (fun h => iteT (k2 (fun F => ?_) _ s1)) (fun h => ?_)
        · have := F.m1; injection h with h; omega
        refine ⟨_, rfl, _, _, rfl, .inl (SqL.of hx1), _, _, rfl, rfl, _, rfl, ?_⟩
        rw [vI_len]
        refine ite2D (fun h => k2 (fun F => ?_) _ s1) (fun h2 => ?_)
        · have := F.m40; omega
        have h0 : th.length ≠ 0 := fun e => h (by rw [e]; rfl)
        exact ⟨_, rfl, rfl, fun _ => ⟨by omega, by omega⟩, fun h => absurd h (by decide), fun h => absurd h (by decide)⟩
      | 1, hxv =>
        cases hxv
        refine ⟨_, rfl, _, _, rfl, .inl (SqL.of N1.h), rfl, _, rfl, ?_⟩
        rw [List.length_map, rl]
        refine ite2D (fun h => iteT (k2 (fun F => ?_) _ s1)) (fun h => ?_)
        · have := F.t1; injection h with h; omega
        refine ⟨_, rfl, _, _, rfl, .inl (SqL.of N1.h), _, _, rfl, rfl, _, rfl, ?_⟩
        rw [List.length_map, rl]
        refine ite2D (fun h => k2 (fun F => ?_) _ s1) (fun h2 => ?_)
        · have := F.t40; omega
        have h0 : tss.length ≠ 0 := fun e => h (by rw [e]; rfl)
        exact ⟨_, rfl, rfl, fun _ => c1 (by decide), fun _ => ⟨by omega, by omega⟩, fun h => absurd h (by decide)⟩
      | 2, hxv =>
        cases hxv
        refine ⟨_, rfl, _, _, rfl, .inl (SqL.of hz1), rfl, _, rfl, ?_⟩
        rw [vI_len]
        refine ite2D (fun h => iteT (k2 (fun F => ?_) _ s1)) (fun h => ?_)
        · have := F.n1; injection h with h; omega
        refine ⟨_, rfl, _, _, rfl, .inl (SqL.of hz1), _, _, rfl, rfl, _, rfl, ?_⟩
        rw [vI_len]
        refine ite2D (fun h => k2 (fun F => ?_) _ s1) (fun h2 => ?_)
        · have := F.n40; omega
        have h0 : tr.length ≠ 0 := fun e => h (by rw [e]; rfl)
        exact ⟨_, rfl, rfl, fun _ => c1 (by decide), fun _ => c2 (by decide), fun _ => ⟨by omega, by omega⟩⟩
      | i + 3, hxv => cases hxv
    rintro σ H2 ⟨v, rfl, rfl, c1, c2, c3⟩
    have d1 := c1 (by show 1 ≤ 3; decide)
    have d2 := c2 (by show 2 ≤ 3; decide)
    have d3 := c3 (by show 3 ≤ 3; decide)
    refine ⟨_, rfl, _, rfl, ⟨_, SqL.of hx1⟩, for_list (K := K) (a := x) (xs := vI th) (fun i σ H3 => ∃ v4 : Option V, σ = [some (.ref x), some (.ref y), some (.ref z), v, v4, none, none, none] ∧ H3 = H2 ∧ ∀ a ∈ th.take i, a < 40) ⟨none, rfl, rfl, fun a ha => by simp at ha⟩ (fun i σ H3 _ ⟨_, _, e, _⟩ => by rw [e]; exact SqL.of hx1) ?_ ?_⟩
    · rintro i xv σ H3 hxv ⟨v4, rfl, rfl, hall⟩
      obtain ⟨a, ha, rfl⟩ := vI_got hxv
      refine ⟨_, rfl, _, _, rfl, rfl, _, rfl, ?_⟩
      refine ite2D (fun h => k2 (fun F => ?_) _ s1) (fun h => ⟨_, rfl, rfl, fun b hb => ?_⟩)
      · have := (F.hth a (List.mem_of_getElem? ha)).2; omega
      · rw [List.take_add_one, ha] at hb
        rcases List.mem_append.mp hb with hb | hb
        · exact hall b hb
        · have : b = a := by simpa using hb
          omega
    rintro σ H3 ⟨v4, rfl, rfl, hth⟩
    rw [vI_len, List.take_length] at hth
    refine ⟨_, rfl, _, rfl, ⟨_, SqL.of N1.h⟩, for_list (K := K) (a := y) (xs := rs.map V.ref) (fun i σ H4 => ∃ v5 v6 : Option V, σ = [some (.ref x), some (.ref y), some (.ref z), v, v4, v5, v6, none] ∧ H4 = H3 ∧ ∀ ks ∈ tss.take i, Rs ks) ⟨none, none, rfl, rfl, fun a ha => by simp at ha⟩ (fun i σ H4 _ ⟨_, _, _, e, _⟩ => by rw [e]; exact SqL.of N1.h) ?_ ?_⟩
    · rintro i xv σ H4 hxv ⟨v5, v6, rfl, rfl, hall⟩
      obtain ⟨r, ks, rfl, _, hks, hr'⟩ := N1.at hxv
      have bk := bts ks (List.mem_of_getElem? hks)
      have bl := bk.1
      refine ⟨_, rfl, _, _, rfl, .inl (SqL.of hr'), _, rfl, (by omega), (by rw [vI_len]; omega), ?_⟩
      rw [Int.toNat_natCast, vI_len]
      refine for_range (lo := 0) (n := ks.length) (fun j σ H5 => ∃ v6 : Option V, σ = [some (.ref x), some (.ref y), some (.ref z), v, v4, some (.ref r), v6, none] ∧ H5 = H4 ∧ RsI ks j) ⟨v6, rfl, rfl, fun j a h => absurd h (by omega), fun j a b h => absurd h (by omega)⟩ ?_ ?_
      · rintro j σ H5 hj ⟨v6, rfl, rfl, R⟩
        have e1 : atI (vI ks) (0 + (j : Int)) = some (.int ks[j]) := atI_of (by omega) (by rw [z0]; exact vI_get (List.getElem?_eq_getElem hj))
        have bj := bk.2 ks[j] (List.getElem_mem hj)
        have mt := List.mem_of_getElem? hks
        refine ⟨_, rfl, _, rfl, _, _, _, _, rfl, rfl, SqL.of hr', e1, _, _, rfl, rfl, _, rfl, ?_⟩
        refine ite2D (fun h => iteT (k2 (fun F => ?_) _ s1)) (fun h39 => ?_)
        · have := ((F.hti ks mt).2 _ (List.getElem_mem hj)).2; omega
        refine ⟨_, rfl, _, _, rfl, rfl, _, rfl, ?_⟩
        by_cases h0 : j = 0
        · subst h0
          refine iteDn (by omega) ?_
          exact iteF ⟨_, rfl, rfl, R.step hj ⟨by omega, by omega⟩ fun j a hj => absurd hj (by omega)⟩
        · have hj1 : j - 1 < ks.length := by omega
          have e2 : atI (vI ks) (0 + (j : Int) - 1) = some (.int ks[j - 1]) := atI_of (by omega) (by rw [show (0 + (j : Int) - 1).toNat = j - 1 by omega]; exact vI_get (List.getElem?_eq_getElem hj1))
          refine iteDp (by omega) ?_
          refine ⟨_, rfl, _, rfl, _, _, rfl, rfl, _, _, _, _, rfl, rfl, SqL.of hr', e2, _, rfl, _, rfl, _, _, _, _, rfl, rfl, SqL.of hr', e1, _, _, rfl, rfl, _, rfl, ?_⟩
          refine ite2D (fun h => k2 (fun F => ?_) _ s1) (fun h => ?_)
          · have := (F.hti ks mt).1 (j - 1) ks[j - 1] ks[j] (List.getElem?_eq_getElem hj1) (by rw [show j - 1 + 1 = j by omega]; exact List.getElem?_eq_getElem hj)
            omega
          · refine ⟨_, rfl, rfl, R.step hj ⟨by omega, by omega⟩ fun j' a hj' ha => ?_⟩
            have : j' = j - 1 := by omega
            subst this
            rw [List.getElem?_eq_getElem hj1] at ha
            cases ha
            omega
      · rintro σ H5 ⟨v6, rfl, rfl, R⟩
        refine ⟨_, _, rfl, rfl, fun ks' hk => ?_⟩
        rw [List.take_add_one, hks] at hk
        rcases List.mem_append.mp hk with hk | hk
        · exact hall ks' hk
        · have : ks' = ks := by simpa using hk
          rw [this]
          exact R.all
    rintro σ H4 ⟨v5, v6, rfl, rfl, hti⟩
    rw [List.length_map, rl, List.take_length] at hti
    refine ⟨_, rfl, _, rfl, ⟨_, SqL.of hz1⟩, for_list (K := K) (a := z) (xs := vI tr) (fun i σ H5 => ∃ v7 : Option V, σ = [some (.ref x), some (.ref y), some (.ref z), v, v4, v5, v6, v7] ∧ H5 = H4 ∧ ∀ a ∈ tr.take i, a < (tss.length : Int)) ⟨none, rfl, rfl, fun a ha => by simp at ha⟩ (fun i σ H5 _ ⟨_, _, e, _⟩ => by rw [e]; exact SqL.of hz1) ?_ ?_⟩
    · rintro i xv σ H5 hxv ⟨v7, rfl, rfl, hall⟩
      obtain ⟨a, ha, rfl⟩ := vI_got hxv
      refine ⟨_, rfl, _, rfl, _, _, rfl, .inl (SqL.of N1.h), _, _, rfl, rfl, _, rfl, ?_⟩
      rw [List.length_map, rl]
      refine ite2D (fun h => k2 (fun F => ?_) _ s1) (fun h => ⟨_, rfl, rfl, fun b hb => ?_⟩)
      · have := (F.htr a (List.mem_of_getElem? ha)).2; omega
      · rw [List.take_add_one, ha] at hb
        rcases List.mem_append.mp hb with hb | hb
        · exact hall b hb
        · have : b = a := by simpa using hb
          omega
    rintro σ H5 ⟨v7, rfl, rfl, htr⟩
    rw [vI_len, List.take_length] at htr
    exact k1 ⟨d1.1, d1.2, d2.1, d2.2, d3.1, d3.2, fun a ha => ⟨(bth.2 a ha).1, hth a ha⟩, hti, fun a ha => ⟨(btr.2 a ha).1, htr a ha⟩⟩ _ s1
end
def W3 (wd : Str) : Prop := wd = "NoRow" ∨ wd = "TooLarge" ∨ wd = "NoDraft"
theorem rk_word {u : List Nat} {wd : Str} {ks : List Int} (h : Rk u wd ks) : wd = "" ∨ wd = "NoRow" ∨ wd = "TooLarge" := by
  cases h
  · exact .inl rfl
  · exact .inr (.inl rfl)
  · exact .inr (.inr rfl)
theorem fw_word : ∀ (ws : List Str), (∀ w ∈ ws, w = "" ∨ w = "NoRow" ∨ w = "TooLarge") → fw ws = "" ∨ W3 (fw ws)
  | [], _ => .inl rfl
  | w :: r, h => by
    unfold fw
    split
    · exact fw_word r fun x hx => h x (List.mem_cons_of_mem _ hx)
    · rcases h w List.mem_cons_self with z | z | z
      · exact .inl z
      · exact .inr (.inl z)
      · exact .inr (.inr (.inl z))
theorem w3_ne {wd : Str} (h : W3 wd) : wd ≠ "" := by
  rcases h with rfl | rfl | rfl <;> decide +kernel
def wds (r0 : Rc) (rs : List Rc) (r2 : Rc) : List Str := r0.wd :: rs.map Rc.wd ++ [r2.wd]
structure Due (r0 : Rc) (rs : List Rc) (r2 : Rc) (wd : Str) : Prop where
  a : fw (wds r0 rs r2) ≠ "" → wd = fw (wds r0 rs r2)
  b : fw (wds r0 rs r2) = "" → Ft r0.ks (rs.map Rc.ks) r2.ks → wd = ""
  c : fw (wds r0 rs r2) = "" → ¬ Ft r0.ks (rs.map Rc.ks) r2.ks → wd = "NoDraft"
section
variable {P : Program} {w : World} {K : PySem.W.Frag} {mg : Str → Option Value} {base : Heap} {t : Adr}
theorem sub_cls (T : Txt K mg t) {wd : Str} (h : W3 wd) : Sub K (clsW t wd) t.e_WeaveError := by
  rcases h with rfl | rfl | rfl
  · rw [cls_no]; exact T.x_NoRow.sub T.r_NoRow_WeaveError
  · rw [cls_big]; exact T.x_TooLarge.sub T.r_TooLarge_WeaveError
  · rw [cls_dr]; exact T.x_NoDraft.sub T.r_NoDraft_WeaveError
def sp_cgt (t : Adr) : Sp := fun vs H Q _ => (∃ (r0 : Rc) (rs : List Rc) (r2 : Rc) (wd : Str), vs = [.str (tx (drT r0 rs r2))] ∧ r0.Ok ∧ rs ≠ [] ∧ rs.length ≤ 100 ∧ (∀ r ∈ rs, r.Ok) ∧ r2.Ok ∧ (drT r0 rs r2).length ≤ 1000000 ∧ Due r0 rs r2 wd ∧
    (W3 wd → ∀ (e p : Addr) (H' : Hp), Same H H' → H' e = some (exH (clsW t wd) e) → H' p = some (.tup [.ref e, .non]) → Q (.ref p) H') ∧
    (wd = "" → Ft r0.ks (rs.map Rc.ks) r2.ks → ∀ (p d dx a b c : Addr) (qs : List Addr) (H' : Hp), Same H H' → IsD t H' d dx a b c qs r0.ks (rs.map Rc.ks) r2.ks → H' p = some (.tup [.non, .ref d]) → Q (.ref p) H')) ∨
  (∃ (u : List Nat), vs = [.str (tx u)] ∧ u.length ≤ 1000000 ∧ (∀ ws, ws ≠ [] → jnS [32, 47, 32] ws = u → AllC [32, 47, 32] ws → ws.length ≠ 3) ∧ ∀ (e p : Addr) (H' : Hp), Same H H' → H' e = some (exH (clsW t "NoDraft") e) → H' p = some (.tup [.ref e, .non]) → Q (.ref p) H')
theorem ok_law_caught (T : Txt K mg t) : FnOk P w K mg base CX0 43 t.f_law_caught t.d_law_caught ["text"] (sp_cgt t) := by
  have G_read_draft : FnOk P w K mg base (CX1 P w) 42 t.f_read_draft t.d_read_draft _ _ := fn_or (okx_read_draft3 T) (okx_read_draftN T)
  refine T.law_caught.F.ok sc_law_caught (fun vs H Q E h => ?_) (fun cdv A outer s H vs Q E hr h => ?_)
  · rcases h with ⟨r0, rs, r2, wd, rfl, _⟩ | ⟨u, rfl, _⟩ <;> rfl
  · rcases h with ⟨r0, rs, r2, wd, rfl, O0, ne, l1, Os, O2, l2, D, kE, kQ⟩ | ⟨u, rfl, lu, h3, kE⟩
    · refine ⟨_, (pss_cons (ps_set (i := 1) sc_law_caught.nd rfl (Or.inl rfl) pe_non)
      (pss_cons (ps_set (i := 2) sc_law_caught.nd rfl (Or.inl rfl) pe_non)
      (pss_cons (ps_try (j := 3) ⟨rfl, rfl, rfl⟩ rfl (psxs_one (psx_set (i := 2) sc_law_caught.nd rfl (Or.inl rfl) (pex_call (G_read_draft.mono (by decide)) hr rfl T.read_draft.m T.read_draft.F.kp T.read_draft.b .nil (pa_cons (pv 0) pa_nil)))) sc_law_caught.nd rfl rfl rfl T.k_WeaveError T.x_WeaveError.q has_base (fun _ => (pss_one (ps_set (i := 1) sc_law_caught.nd rfl (Or.inl rfl) (pv 3)))))
      (pss_one (ps_ret (pe_tup (pa_cons (pv 1) (pa_cons (pv 2) pa_nil)))))))), ?_⟩
      refine ⟨_, rfl, .inl ⟨r0, rs, r2, rfl, O0, ne, l1, Os, O2, l2, fun wd' H1 hf hw s1 => ?_, fun hf => ⟨fun F d dx a b c qs H1 s1 DD => ?_, fun nF H1 s1 => ?_⟩⟩⟩
      · have hws : ∀ w ∈ wds r0 rs r2, w = "" ∨ w = "NoRow" ∨ w = "TooLarge" := fun x hx => by
          rcases List.mem_append.mp hx with hx | hx
          · rcases List.mem_cons.mp hx with z | z
            · rw [z]; exact rk_word O0.k
            · obtain ⟨r, hr', rfl⟩ := List.mem_map.mp z
              exact rk_word (Os r hr').k
          · rw [List.mem_singleton.mp hx]; exact rk_word O2.k
        have h3 : W3 wd' := by
          rcases fw_word _ hws with z | z
          · exact absurd (hf.symm.trans z) hw
          · rw [← hf]; exact z
        have ew : wd = wd' := by
          have := D.a (fun z => hw (hf.symm.trans z))
          rw [this]; exact hf
        subst ew
        refine ⟨_, rfl, sub_cls T h3, fun ea nea => ?_⟩
        refine ⟨_, rfl, _, rfl, _, rfl, (by show 2 ≤ sizeLine; decide), fun p hp => ?_⟩
        exact kE h3 ea p _ ((s1.new nea).new hp) ((Same.upd hp) _ _ upd_same) upd_same
      · refine ⟨_, rfl, _, rfl, (by show 2 ≤ sizeLine; decide), fun p hp => ?_⟩
        exact kQ (D.b hf F) F p d dx a b c qs _ (s1.new hp) (DD.same (Same.upd hp)) upd_same
      · have ew := D.c hf nF
        subst ew
        have h3 : W3 "NoDraft" := .inr (.inr rfl)
        rw [← cls_dr t]
        refine ⟨_, rfl, sub_cls T h3, fun ea nea => ?_⟩
        refine ⟨_, rfl, _, rfl, _, rfl, (by show 2 ≤ sizeLine; decide), fun p hp => ?_⟩
        exact kE h3 ea p _ ((s1.new nea).new hp) ((Same.upd hp) _ _ upd_same) upd_same
    · refine ⟨_, (pss_cons (ps_set (i := 1) sc_law_caught.nd rfl (Or.inl rfl) pe_non)
      (pss_cons (ps_set (i := 2) sc_law_caught.nd rfl (Or.inl rfl) pe_non)
      (pss_cons (ps_try (j := 3) ⟨rfl, rfl, rfl⟩ rfl (psxs_one (psx_set (i := 2) sc_law_caught.nd rfl (Or.inl rfl) (pex_call (G_read_draft.mono (by decide)) hr rfl T.read_draft.m T.read_draft.F.kp T.read_draft.b .nil (pa_cons (pv 0) pa_nil)))) sc_law_caught.nd rfl rfl rfl T.k_WeaveError T.x_WeaveError.q has_base (fun _ => (pss_one (ps_set (i := 1) sc_law_caught.nd rfl (Or.inl rfl) (pv 3)))))
      (pss_one (ps_ret (pe_tup (pa_cons (pv 1) (pa_cons (pv 2) pa_nil)))))))), ?_⟩
      refine ⟨_, rfl, .inr ⟨u, rfl, lu, h3, fun H1 s1 => ?_⟩⟩
      rw [← cls_dr t]
      refine ⟨_, rfl, sub_cls T (.inr (.inr rfl)), fun ea nea => ?_⟩
      refine ⟨_, rfl, _, rfl, _, rfl, (by show 2 ≤ sizeLine; decide), fun p hp => ?_⟩
      exact kE ea p _ ((s1.new nea).new hp) ((Same.upd hp) _ _ upd_same) upd_same
def sp_refA (t : Adr) (wd : Str) : Sp := fun vs H Q _ => ∃ e, vs = [.ref e, .str wd] ∧ H e = some (exH (clsW t wd) e) ∧ ∀ H', Q (.bl true) H'
theorem ok_refN (T : Txt K mg t) : FnOk P w K mg base CX0 2 t.f_law_refused t.d_law_refused ["caught", "word"] (sp_refA t "NoRow") := by
  have G_NoRow_called : FnOk P w K mg base CX0 1 t.f_NoRow_called t.d_NoRow_called _ _ := ok_NoRow_called T
  refine T.law_refused.F.ok sc_law_refused (fun vs H Q E h => ?_) (fun cdv A outer s H vs Q E hr h => ?_)
  · obtain ⟨e, rfl, _⟩ := h
    rfl
  · obtain ⟨e, rfl, he, k⟩ := h
    rw [cls_no] at he
    refine ⟨_, (pss_cons (ps_if (PW.pt (pw_or (pt_not (pt_val (pe_callB (call_isx (K := K)) rfl T.b_isinstance bt_isinstance (pa_cons (pv 0) (pa_cons (pe_bltn (v := .ty "ValueError") rfl T.b_ValueError bt_ValueError rfl) pa_nil))))) (pw_or1 (pt_cmpR op_ne (pe_methE (pv 0) T.x_NoRow.c T.m_NoRow.m (G_NoRow_called.mono (by decide)) hr T.m_NoRow.b pass0) (pv 1) (nomark _)))))
        (pss_one (ps_ret pe_bl))
        pss_nil)
      (pss_cons (ps_set (i := 2) sc_law_refused.nd rfl (Or.inl rfl) (pe_lst (pa_cons (pe_callB (call_isx (K := K)) rfl T.b_isinstance bt_isinstance (pa_cons (pv 0) (pa_cons (pe_glob (v := .ref t.e_NoDraft) rfl T.k_NoDraft rfl) pa_nil))) (pa_cons (pe_callB (call_isx (K := K)) rfl T.b_isinstance bt_isinstance (pa_cons (pv 0) (pa_cons (pe_glob (v := .ref t.e_NoRow) rfl T.k_NoRow rfl) pa_nil))) (pa_cons (pe_callB (call_isx (K := K)) rfl T.b_isinstance bt_isinstance (pa_cons (pv 0) (pa_cons (pe_glob (v := .ref t.e_TooLarge) rfl T.k_TooLarge rfl) pa_nil))) pa_nil)))))
      (pss_one (ps_ret (pe_cmpR (op_eqLK (K := K) (hr.units0)) (pv 2) (pe_lst (pa_cons (pe_cmpR op_eq (pv 1) pe_str (nomark _)) (pa_cons (pe_cmpR op_eq (pv 1) pe_str (nomark _)) (pa_cons (pe_cmpR op_eq (pv 1) pe_str (nomark _)) pa_nil)))) (nomark _)))))), ?_⟩
    refine ⟨_, rfl, e, t.e_NoRow, true, he, T.x_NoRow.c, .inl ⟨_, rfl, kit_ve T.x_NoRow⟩, _, rfl, iteF ?_⟩
    refine ⟨_, rfl, e, rfl, he, _, rfl, _, rfl, rfl, _, rfl, ?_⟩
    refine iteNS rfl ?_
    refine ⟨_, rfl, e, t.e_NoRow, false, he, T.x_NoRow.c, .inr ⟨t.e_NoDraft, rfl, kit_ref T.r_NoRow_NoRow T.x_NoDraft T.r_NoRow_NoDraft⟩, _, rfl, e, t.e_NoRow, true, he, T.x_NoRow.c, .inr ⟨t.e_NoRow, rfl, kit_ref T.r_NoRow_NoRow T.x_NoRow T.r_NoRow_NoRow⟩, _, rfl, e, t.e_NoRow, false, he, T.x_NoRow.c, .inr ⟨t.e_TooLarge, rfl, kit_ref T.r_NoRow_NoRow T.x_TooLarge T.r_NoRow_TooLarge⟩, ?_⟩
    refine ⟨(by show 3 ≤ sizeLine; decide), fun l1 n1 => ?_⟩
    have h1 : (upd H l1 (.lst [.bl false, .bl true, .bl false])) l1 = some (.lst [.bl false, .bl true, .bl false]) := upd_same
    generalize upd H l1 (.lst [.bl false, .bl true, .bl false]) = H1 at h1 ⊢
    have e1 : decide ((V.str "NoRow" : V) = V.str "NoDraft") = false := by decide +kernel
    have e2 : decide ((V.str "NoRow" : V) = V.str "NoRow") = true := by decide +kernel
    have e3 : decide ((V.str "NoRow" : V) = V.str "TooLarge") = false := by decide +kernel
    refine ⟨_, rfl, _, rfl, rfl, _, rfl, rfl, _, rfl, rfl, ?_⟩
    rw [e1, e2, e3]
    refine ⟨(by show 3 ≤ sizeLine; decide), fun l2 n2 => ?_⟩
    exact ⟨_, _, _, _, rfl, rfl, SqL.of ((Same.upd n2) _ _ h1), SqL.of upd_same, rfl, rfl, k _⟩
theorem ok_refL (T : Txt K mg t) : FnOk P w K mg base CX0 2 t.f_law_refused t.d_law_refused ["caught", "word"] (sp_refA t "TooLarge") := by
  have G_TooLarge_called : FnOk P w K mg base CX0 1 t.f_TooLarge_called t.d_TooLarge_called _ _ := ok_TooLarge_called T
  refine T.law_refused.F.ok sc_law_refused (fun vs H Q E h => ?_) (fun cdv A outer s H vs Q E hr h => ?_)
  · obtain ⟨e, rfl, _⟩ := h
    rfl
  · obtain ⟨e, rfl, he, k⟩ := h
    rw [cls_big] at he
    refine ⟨_, (pss_cons (ps_if (PW.pt (pw_or (pt_not (pt_val (pe_callB (call_isx (K := K)) rfl T.b_isinstance bt_isinstance (pa_cons (pv 0) (pa_cons (pe_bltn (v := .ty "ValueError") rfl T.b_ValueError bt_ValueError rfl) pa_nil))))) (pw_or1 (pt_cmpR op_ne (pe_methE (pv 0) T.x_TooLarge.c T.m_TooLarge.m (G_TooLarge_called.mono (by decide)) hr T.m_TooLarge.b pass0) (pv 1) (nomark _)))))
        (pss_one (ps_ret pe_bl))
        pss_nil)
      (pss_cons (ps_set (i := 2) sc_law_refused.nd rfl (Or.inl rfl) (pe_lst (pa_cons (pe_callB (call_isx (K := K)) rfl T.b_isinstance bt_isinstance (pa_cons (pv 0) (pa_cons (pe_glob (v := .ref t.e_NoDraft) rfl T.k_NoDraft rfl) pa_nil))) (pa_cons (pe_callB (call_isx (K := K)) rfl T.b_isinstance bt_isinstance (pa_cons (pv 0) (pa_cons (pe_glob (v := .ref t.e_NoRow) rfl T.k_NoRow rfl) pa_nil))) (pa_cons (pe_callB (call_isx (K := K)) rfl T.b_isinstance bt_isinstance (pa_cons (pv 0) (pa_cons (pe_glob (v := .ref t.e_TooLarge) rfl T.k_TooLarge rfl) pa_nil))) pa_nil)))))
      (pss_one (ps_ret (pe_cmpR (op_eqLK (K := K) (hr.units0)) (pv 2) (pe_lst (pa_cons (pe_cmpR op_eq (pv 1) pe_str (nomark _)) (pa_cons (pe_cmpR op_eq (pv 1) pe_str (nomark _)) (pa_cons (pe_cmpR op_eq (pv 1) pe_str (nomark _)) pa_nil)))) (nomark _)))))), ?_⟩
    refine ⟨_, rfl, e, t.e_TooLarge, true, he, T.x_TooLarge.c, .inl ⟨_, rfl, kit_ve T.x_TooLarge⟩, _, rfl, iteF ?_⟩
    refine ⟨_, rfl, e, rfl, he, _, rfl, _, rfl, rfl, _, rfl, ?_⟩
    refine iteNS rfl ?_
    refine ⟨_, rfl, e, t.e_TooLarge, false, he, T.x_TooLarge.c, .inr ⟨t.e_NoDraft, rfl, kit_ref T.r_TooLarge_TooLarge T.x_NoDraft T.r_TooLarge_NoDraft⟩, _, rfl, e, t.e_TooLarge, false, he, T.x_TooLarge.c, .inr ⟨t.e_NoRow, rfl, kit_ref T.r_TooLarge_TooLarge T.x_NoRow T.r_TooLarge_NoRow⟩, _, rfl, e, t.e_TooLarge, true, he, T.x_TooLarge.c, .inr ⟨t.e_TooLarge, rfl, kit_ref T.r_TooLarge_TooLarge T.x_TooLarge T.r_TooLarge_TooLarge⟩, ?_⟩
    refine ⟨(by show 3 ≤ sizeLine; decide), fun l1 n1 => ?_⟩
    have h1 : (upd H l1 (.lst [.bl false, .bl false, .bl true])) l1 = some (.lst [.bl false, .bl false, .bl true]) := upd_same
    generalize upd H l1 (.lst [.bl false, .bl false, .bl true]) = H1 at h1 ⊢
    have e1 : decide ((V.str "TooLarge" : V) = V.str "NoDraft") = false := by decide +kernel
    have e2 : decide ((V.str "TooLarge" : V) = V.str "NoRow") = false := by decide +kernel
    have e3 : decide ((V.str "TooLarge" : V) = V.str "TooLarge") = true := by decide +kernel
    refine ⟨_, rfl, _, rfl, rfl, _, rfl, rfl, _, rfl, rfl, ?_⟩
    rw [e1, e2, e3]
    refine ⟨(by show 3 ≤ sizeLine; decide), fun l2 n2 => ?_⟩
    exact ⟨_, _, _, _, rfl, rfl, SqL.of ((Same.upd n2) _ _ h1), SqL.of upd_same, rfl, rfl, k _⟩
theorem ok_refD (T : Txt K mg t) : FnOk P w K mg base CX0 2 t.f_law_refused t.d_law_refused ["caught", "word"] (sp_refA t "NoDraft") := by
  have G_NoDraft_called : FnOk P w K mg base CX0 1 t.f_NoDraft_called t.d_NoDraft_called _ _ := ok_NoDraft_called T
  refine T.law_refused.F.ok sc_law_refused (fun vs H Q E h => ?_) (fun cdv A outer s H vs Q E hr h => ?_)
  · obtain ⟨e, rfl, _⟩ := h
    rfl
  · obtain ⟨e, rfl, he, k⟩ := h
    rw [cls_dr] at he
    refine ⟨_, (pss_cons (ps_if (PW.pt (pw_or (pt_not (pt_val (pe_callB (call_isx (K := K)) rfl T.b_isinstance bt_isinstance (pa_cons (pv 0) (pa_cons (pe_bltn (v := .ty "ValueError") rfl T.b_ValueError bt_ValueError rfl) pa_nil))))) (pw_or1 (pt_cmpR op_ne (pe_methE (pv 0) T.x_NoDraft.c T.m_NoDraft.m (G_NoDraft_called.mono (by decide)) hr T.m_NoDraft.b pass0) (pv 1) (nomark _)))))
        (pss_one (ps_ret pe_bl))
        pss_nil)
      (pss_cons (ps_set (i := 2) sc_law_refused.nd rfl (Or.inl rfl) (pe_lst (pa_cons (pe_callB (call_isx (K := K)) rfl T.b_isinstance bt_isinstance (pa_cons (pv 0) (pa_cons (pe_glob (v := .ref t.e_NoDraft) rfl T.k_NoDraft rfl) pa_nil))) (pa_cons (pe_callB (call_isx (K := K)) rfl T.b_isinstance bt_isinstance (pa_cons (pv 0) (pa_cons (pe_glob (v := .ref t.e_NoRow) rfl T.k_NoRow rfl) pa_nil))) (pa_cons (pe_callB (call_isx (K := K)) rfl T.b_isinstance bt_isinstance (pa_cons (pv 0) (pa_cons (pe_glob (v := .ref t.e_TooLarge) rfl T.k_TooLarge rfl) pa_nil))) pa_nil)))))
      (pss_one (ps_ret (pe_cmpR (op_eqLK (K := K) (hr.units0)) (pv 2) (pe_lst (pa_cons (pe_cmpR op_eq (pv 1) pe_str (nomark _)) (pa_cons (pe_cmpR op_eq (pv 1) pe_str (nomark _)) (pa_cons (pe_cmpR op_eq (pv 1) pe_str (nomark _)) pa_nil)))) (nomark _)))))), ?_⟩
    refine ⟨_, rfl, e, t.e_NoDraft, true, he, T.x_NoDraft.c, .inl ⟨_, rfl, kit_ve T.x_NoDraft⟩, _, rfl, iteF ?_⟩
    refine ⟨_, rfl, e, rfl, he, _, rfl, _, rfl, rfl, _, rfl, ?_⟩
    refine iteNS rfl ?_
    refine ⟨_, rfl, e, t.e_NoDraft, true, he, T.x_NoDraft.c, .inr ⟨t.e_NoDraft, rfl, kit_ref T.r_NoDraft_NoDraft T.x_NoDraft T.r_NoDraft_NoDraft⟩, _, rfl, e, t.e_NoDraft, false, he, T.x_NoDraft.c, .inr ⟨t.e_NoRow, rfl, kit_ref T.r_NoDraft_NoDraft T.x_NoRow T.r_NoDraft_NoRow⟩, _, rfl, e, t.e_NoDraft, false, he, T.x_NoDraft.c, .inr ⟨t.e_TooLarge, rfl, kit_ref T.r_NoDraft_NoDraft T.x_TooLarge T.r_NoDraft_TooLarge⟩, ?_⟩
    refine ⟨(by show 3 ≤ sizeLine; decide), fun l1 n1 => ?_⟩
    have h1 : (upd H l1 (.lst [.bl true, .bl false, .bl false])) l1 = some (.lst [.bl true, .bl false, .bl false]) := upd_same
    generalize upd H l1 (.lst [.bl true, .bl false, .bl false]) = H1 at h1 ⊢
    have e1 : decide ((V.str "NoDraft" : V) = V.str "NoDraft") = true := by decide +kernel
    have e2 : decide ((V.str "NoDraft" : V) = V.str "NoRow") = false := by decide +kernel
    have e3 : decide ((V.str "NoDraft" : V) = V.str "TooLarge") = false := by decide +kernel
    refine ⟨_, rfl, _, rfl, rfl, _, rfl, rfl, _, rfl, rfl, ?_⟩
    rw [e1, e2, e3]
    refine ⟨(by show 3 ≤ sizeLine; decide), fun l2 n2 => ?_⟩
    exact ⟨_, _, _, _, rfl, rfl, SqL.of ((Same.upd n2) _ _ h1), SqL.of upd_same, rfl, rfl, k _⟩
def sp_ref (t : Adr) : Sp := fun vs H Q _ => ∃ (e : Addr) (wd : Str), vs = [.ref e, .str wd] ∧ W3 wd ∧ H e = some (exH (clsW t wd) e) ∧ ∀ H', Q (.bl true) H'
theorem ok_law_refused (T : Txt K mg t) : FnOk P w K mg base CX0 2 t.f_law_refused t.d_law_refused ["caught", "word"] (sp_ref t) := (fn_or (ok_refN T) (fn_or (ok_refL T) (ok_refD T))).imp fun vs H Q E ⟨e, wd, ev, h3, he, k⟩ => by
  rcases h3 with rfl | rfl | rfl
  · exact .inl ⟨e, ev, he, k⟩
  · exact .inr (.inl ⟨e, ev, he, k⟩)
  · exact .inr (.inr ⟨e, ev, he, k⟩)
end
theorem cut_mid {xs : List V} (h : 1 ≤ xs.length) : cutV xs (some 1) (some (-1)) = (xs.drop 1).dropLast := by
  unfold cutV
  have e1 : HT.sIx xs.length 0 (some (1 : Int)) = 1 := by
    have := HT.sIx_nat xs.length 0 1
    rw [Nat.min_eq_left h] at this
    exact this
  have e2 : HT.sIx xs.length xs.length (some (-1)) = xs.length - 1 := by
    show (if (-1 : Int) < 0 then ((-1 : Int) + (xs.length : Int)).toNat else min (-1 : Int).toNat xs.length) = _
    rw [if_pos (by decide)]
    omega
  rw [e1, e2, List.dropLast_eq_take, List.length_drop]
theorem cut_mid3 {a b : V} {m : List V} : cutV (a :: m ++ [b]) (some 1) (some (-1)) = m := by
  rw [cut_mid (by simp)]
  simp
structure Rws (H : Hp) (R : Addr) (ts : List Addr) (rs : List Rc) : Prop where
  h : H R = some (.lst (ts.map V.ref))
  l : ts.length = rs.length
  at_ : ∀ (j : Nat) (a : Addr) (r : Rc), ts[j]? = some a → rs[j]? = some r → AtR H a r
  ok : ∀ r ∈ rs, r.Ok
theorem Rws.same {H H' : Hp} {R : Addr} {ts : List Addr} {rs : List Rc} (h : Rws H R ts rs) (s : Same H H') : Rws H' R ts rs := ⟨s _ _ h.h, h.l, fun j a r e1 e2 => (h.at_ j a r e1 e2).same s, h.ok⟩
theorem split3 {α : Type} {l : List α} (h : 3 ≤ l.length) : ∃ a m b, l = a :: m ++ [b] ∧ m ≠ [] := by
  match l, h with
  | a :: r, h =>
    rcases List.eq_nil_or_concat r with e | ⟨m, b, e⟩
    · rw [e] at h; simp at h
    · refine ⟨a, m, b, by rw [e]; simp, fun z => ?_⟩
      rw [e, z] at h
      simp at h
theorem Rws.parts {H : Hp} {R : Addr} {ts : List Addr} {rs : List Rc} (h : Rws H R ts rs) (h3 : 3 ≤ rs.length) : ∃ t0 tm t2 r0 rm r2, ts = t0 :: tm ++ [t2] ∧ rs = r0 :: rm ++ [r2] ∧ rm ≠ [] ∧ tm.length = rm.length ∧ AtR H t0 r0 ∧ AtR H t2 r2 ∧ (∀ (j : Nat) (a : Addr) (r : Rc), tm[j]? = some a → rm[j]? = some r → AtR H a r) := by
  obtain ⟨t0, tm, t2, et, _⟩ := split3 (l := ts) (by rw [h.l]; exact h3)
  obtain ⟨r0, rm, r2, er, nr⟩ := split3 h3
  have hl := h.l
  rw [et, er] at hl
  simp only [List.length_append, List.length_cons, List.length_nil] at hl
  subst et er
  refine ⟨t0, tm, t2, r0, rm, r2, rfl, rfl, nr, by omega, h.at_ 0 t0 r0 rfl rfl, ?_, fun j a r e1 e2 => ?_⟩
  · refine h.at_ (tm.length + 1) t2 r2 ?_ ?_
    · rw [List.cons_append, List.getElem?_cons_succ, List.getElem?_append_right (Nat.le_refl _), Nat.sub_self]; rfl
    · rw [List.cons_append, List.getElem?_cons_succ, List.getElem?_append_right (by omega), show tm.length - rm.length = 0 by omega]; rfl
  · refine h.at_ (j + 1) a r ?_ ?_
    · rw [List.cons_append, List.getElem?_cons_succ, List.getElem?_append_left (List.getElem?_eq_some_iff.mp e1).1]; exact e1
    · rw [List.cons_append, List.getElem?_cons_succ, List.getElem?_append_left (List.getElem?_eq_some_iff.mp e2).1]; exact e2
theorem atI_lst {xs : List V} {x : V} : atI (xs ++ [x]) (-1) = some x := by
  unfold atI ixN
  rw [if_neg (by decide), List.length_append, List.length_singleton, if_pos (by omega)]
  show (some _).bind _ = _
  rw [Option.bind_some]
  first
    | (rw [show (((xs.length + 1 : Nat) : Int) + -1).toNat = xs.length by omega]; simp)
    | (rw [show (-1 + ((xs.length + 1 : Nat) : Int)).toNat = xs.length by omega]; simp)
section
variable {P : Program} {w : World} {K : PySem.W.Frag} {mg : Str → Option Value} {base : Heap} {t : Adr}
theorem nb_ok {r : Rc} (h : r.Ok) : Nb r.ks := ⟨h.l, h.n⟩
def sp_due : Sp := fun vs H Q _ => ∃ (R t0 t2 : Addr) (tm : List Addr) (r0 r2 : Rc) (rm : List Rc), vs = [.ref R] ∧ Rws H R (t0 :: tm ++ [t2]) (r0 :: rm ++ [r2]) ∧ rm ≠ [] ∧ rm.length ≤ 8 ∧ ∀ (wd : Str) (H' : Hp), Due r0 rm r2 wd → Same H H' → Q (.str wd) H'
theorem ok_law_due (T : Txt K mg t) : FnOk P w K mg base CX0 2 t.f_law_due t.d_law_due ["rows"] sp_due := by
  have G_law_fits : FnOk P w K mg base CX0 1 t.f_law_fits t.d_law_fits _ _ := ok_law_fits T
  refine T.law_due.F.ok sc_law_due (fun vs H Q E h => ?_) (fun cdv A outer s H vs Q E hr h => ?_)
  · obtain ⟨R, t0, t2, tm, r0, r2, rm, rfl, _⟩ := h
    rfl
  · obtain ⟨R, t0, t2, tm, r0, r2, rm, rfl, W, ne, l8, k⟩ := h
    have hsz : sizeLine = 16777216 := sizeLine_eq
    have wl := W.l
    simp only [List.length_append, List.length_cons, List.length_nil] at wl
    have A0 : AtR H t0 r0 := W.at_ 0 t0 r0 rfl rfl
    have A2 : AtR H t2 r2 := W.at_ (tm.length + 1) t2 r2 (by rw [List.cons_append, List.getElem?_cons_succ, List.getElem?_append_right (Nat.le_refl _), Nat.sub_self]; rfl) (by rw [List.cons_append, List.getElem?_cons_succ, List.getElem?_append_right (by omega), show tm.length - rm.length = 0 by omega]; rfl)
    have Am : ∀ (j : Nat) (a : Addr) (r : Rc), tm[j]? = some a → rm[j]? = some r → AtR H a r := fun j a r e1 e2 => W.at_ (j + 1) a r (by rw [List.cons_append, List.getElem?_cons_succ, List.getElem?_append_left (List.getElem?_eq_some_iff.mp e1).1]; exact e1) (by rw [List.cons_append, List.getElem?_cons_succ, List.getElem?_append_left (List.getElem?_eq_some_iff.mp e2).1]; exact e2)
    have O0 := W.ok r0 (by simp)
    have O2 := W.ok r2 (by simp)
    have Om : ∀ r ∈ rm, r.Ok := fun r hr' => W.ok r (by simp [hr'])
    have ew : (r0 :: rm ++ [r2]).map Rc.wd = wds r0 rm r2 := by unfold wds; simp
    refine ⟨_, (pss_cons (ps_for PassesOwn.never rfl (pi_listK (K := K) (pv 0)) (pg_name (i := 1) sc_law_due.nd rfl (Or.inl rfl))
        (pss_one (ps_if (pt_cmpR op_ne (pe_ix (ix_tupK (K := K)) (pv 1) pe_int (fun _ _ => rfl)) pe_str (nomark _))
          (pss_one (ps_ret (pe_ix (ix_tupK (K := K)) (pv 1) pe_int (fun _ _ => rfl))))
          pss_nil)))
      (pss_cons (ps_if (pt_val (pe_call (G_law_fits.mono (by decide)) hr rfl T.law_fits.m T.law_fits.F.kp T.law_fits.b .nil pass0 (pa_cons (pe_ix (ix_tupK (K := K)) (pe_ix (ix_listK (K := K)) (pv 0) pe_int (fun _ _ => rfl)) pe_int (fun _ _ => rfl)) (pa_cons (pe_comp (CompOk.mk (caps := []) (Nc := ["row"]) rfl (by decide +kernel) (by decide +kernel) (comp_fr (sc0 := defScope s_law_due) rfl (by decide +kernel)) rfl rfl rfl (by decide +kernel) (fun _ _ h => by simp at h)) rfl (pi_listK (K := K) (pe_slice (sl_listK (K := K)) (pv 0) (po_some pe_int) (po_some (pe_un un_neg pe_int)))) (fun _ _ _ _ _ => .nil) (fun _ _ _ _ _ => (pe_ix (ix_tupK (K := K)) (pv 0) pe_int (fun _ _ => rfl)))) (pa_cons (pe_ix (ix_tupK (K := K)) (pe_ix (ix_listK (K := K)) (pv 0) (pe_un un_neg pe_int) (fun _ _ => rfl)) pe_int (fun _ _ => rfl)) pa_nil)))))
        (pss_one (ps_ret pe_str))
        pss_nil)
      (pss_one (ps_ret pe_str)))), ?_⟩
    refine ⟨_, rfl, _, rfl, ⟨_, SqL.of W.h⟩, for_list (K := K) (a := R) (xs := (t0 :: tm ++ [t2]).map V.ref) (fun i σ H2 => ∃ v : Option V, σ = [some (.ref R), v] ∧ H2 = H ∧ ∀ w ∈ ((r0 :: rm ++ [r2]).take i).map Rc.wd, w = "") ⟨none, rfl, rfl, fun w hw => by simp at hw⟩ (fun i σ H2 _ ⟨_, _, e, _⟩ => by rw [e]; exact SqL.of W.h) ?_ ?_⟩
    · rintro i xv σ H2 hxv ⟨v, rfl, rfl, hall⟩
      rw [List.getElem?_map] at hxv
      obtain ⟨a, ha, rfl⟩ := Option.map_eq_some_iff.mp hxv
      have hi : i < (r0 :: rm ++ [r2]).length := by have := (List.getElem?_eq_some_iff.mp ha).1; rw [W.l] at this; exact this
      obtain ⟨r, hr'⟩ : ∃ r, (r0 :: rm ++ [r2])[i]? = some r := ⟨_, List.getElem?_eq_getElem hi⟩
      obtain ⟨l, h1, h2⟩ := W.at_ i a r ha hr'
      refine ⟨_, rfl, _, _, _, _, rfl, rfl, SqT.of h1, rfl, rfl, _, rfl, ?_⟩
      have er : (r0 :: rm ++ [r2]).map Rc.wd = ((r0 :: rm ++ [r2]).take i).map Rc.wd ++ r.wd :: ((r0 :: rm ++ [r2]).drop (i + 1)).map Rc.wd := by
        rw [← List.map_cons, ← List.map_append]
        congr 1
        have e1 : (r0 :: rm ++ [r2])[i] = r := (List.getElem?_eq_some_iff.mp hr').2
        rw [← e1, ← List.drop_eq_getElem_cons hi, List.take_append_drop]
      by_cases c : r.wd = ""
      · refine iteNS (by rw [c]) ⟨_, rfl, rfl, fun w hw => ?_⟩
        rw [List.take_add_one, hr', List.map_append] at hw
        rcases List.mem_append.mp hw with hw | hw
        · exact hall w hw
        · have : w = r.wd := by simpa using hw
          rw [this]; exact c
      · refine iteNp (fun z => c (V.str.inj z)) ?_
        refine ⟨_, rfl, _, _, _, _, rfl, rfl, SqT.of h1, rfl, k r.wd H2 ?_ (.refl _)⟩
        have ef : fw (wds r0 rm r2) = r.wd := by rw [← ew, er]; exact fw_hit _ _ hall c
        exact ⟨fun _ => ef.symm, fun z => absurd (ef.symm.trans z) c, fun z => absurd (ef.symm.trans z) c⟩
    rintro σ H2 ⟨v, rfl, rfl, hall⟩
    rw [List.length_map, W.l, List.take_length, ew] at hall
    have ef : fw (wds r0 rm r2) = "" := by
      have := fw_app (wds r0 rm r2) [] hall
      rw [List.append_nil] at this
      exact this
    obtain ⟨l0, p0, q0⟩ := A0
    obtain ⟨l2, p2, q2⟩ := A2
    have e0 : atI ((t0 :: tm ++ [t2]).map V.ref) 0 = some (.ref t0) := atI_of (by decide) rfl
    have e2 : atI ((t0 :: tm ++ [t2]).map V.ref) (-1) = some (.ref t2) := by rw [List.map_append]; exact atI_lst
    refine ⟨_, rfl, _, _, _, _, rfl, rfl, SqL.of W.h, e0, _, _, _, _, rfl, rfl, SqT.of p0, rfl, ?_⟩
    refine ⟨_, rfl, _, rfl, _, rfl, _, rfl, _, _, rfl, SqL.of W.h, fun S nS => ?_⟩
    rw [show (t0 :: tm ++ [t2]).map V.ref = V.ref t0 :: tm.map V.ref ++ [V.ref t2] by simp, cut_mid3]
    have s1 : Same H2 (upd H2 S (.lst (tm.map V.ref))) := .upd nS
    have hS : (upd H2 S (.lst (tm.map V.ref))) S = some (.lst (tm.map V.ref)) := upd_same
    generalize upd H2 S (.lst (tm.map V.ref)) = H3 at s1 hS ⊢
    refine ⟨_, rfl, ⟨_, SqL.of hS⟩, comp_list (K := K) (a := S) (xs := tm.map V.ref) (fun i ys H4 => H4 = H3 ∧ ∃ ls : List Addr, ys = ls.map V.ref ∧ ls.length = i ∧ ∀ (j : Nat) (a : Addr) (ks : List Int), ls[j]? = some a → (rm.map Rc.ks)[j]? = some ks → H3 a = some (.lst (vI ks))) ⟨rfl, [], rfl, rfl, fun j a ks h => by simp at h⟩ ?_ ?_ ?_ ?_⟩
    · rintro i ys H4 hi ⟨rfl, ls, rfl, ll, _⟩
      refine ⟨SqL.of hS, ?_⟩
      rw [List.length_map]
      omega
    · rw [List.length_map]; omega
    · rintro i xv ys H4 hi hxv ⟨rfl, ls, rfl, ll, hls⟩
      rw [List.getElem?_map] at hxv
      obtain ⟨a, ha, rfl⟩ := Option.map_eq_some_iff.mp hxv
      have hi' : i < rm.length := by have := (List.getElem?_eq_some_iff.mp ha).1; omega
      obtain ⟨l, h1, h2⟩ := (Am i a _ ha (List.getElem?_eq_getElem hi')).same s1
      refine CTurn.no ⟨_, rfl, _, _, _, _, rfl, rfl, SqT.of h1, rfl, CN.of hi ⟨rfl, ls ++ [l], by rw [List.map_append]; rfl, by rw [List.length_append, ll]; rfl, fun j b ks g1 g2 => ?_⟩⟩
      by_cases hj : j < ls.length
      · rw [List.getElem?_append_left hj] at g1
        exact hls j b ks g1 g2
      · have hj2 : j = i := by
          have := (List.getElem?_eq_some_iff.mp g1).1
          rw [List.length_append, List.length_singleton] at this
          omega
        subst hj2
        rw [List.getElem?_append_right (by omega), show j - ls.length = 0 by omega] at g1
        rw [List.getElem?_map, List.getElem?_eq_getElem hi'] at g2
        cases g1
        cases g2
        exact h2
    rintro ys H4 Y ⟨rfl, ls, rfl, ll, hls⟩ nY
    rw [List.length_map] at ll
    have s2 : Same H4 (upd H4 Y (.lst (ls.map V.ref))) := .upd nY
    have hY : NL (upd H4 Y (.lst (ls.map V.ref))) Y ls (rm.map Rc.ks) := ⟨upd_same, by rw [List.length_map]; omega, fun j a ks g1 g2 => s2 _ _ (hls j a ks g1 g2)⟩
    generalize upd H4 Y (.lst (ls.map V.ref)) = H5 at s2 hY ⊢
    have u5 := s1.trans s2
    refine ⟨_, rfl, _, rfl, _, _, _, _, rfl, rfl, SqL.of (u5 _ _ W.h), e2, _, _, _, _, rfl, rfl, SqT.of (u5 _ _ p2), rfl, ?_⟩
    refine ⟨l0, Y, l2, ls, r0.ks, rm.map Rc.ks, r2.ks, rfl, u5 _ _ q0, hY, u5 _ _ q2, nb_ok O0, fun ks hk => ?_, by rw [List.length_map]; omega, nb_ok O2, fun F H6 s6 => ?_, fun nF H6 s6 => ?_⟩
    · obtain ⟨r, hr', rfl⟩ := List.mem_map.mp hk
      exact nb_ok (Om r hr')
    · refine ⟨_, rfl, iteT ?_⟩
      exact k "" H6 ⟨fun z => absurd ef z, fun _ _ => rfl, fun _ z => absurd F z⟩ (u5.trans s6)
    · refine ⟨_, rfl, iteF ?_⟩
      exact k "NoDraft" H6 ⟨fun z => absurd ef z, fun _ z => absurd z nF, fun _ _ => rfl⟩ (u5.trans s6)
end
theorem join_jnS (sp : List Nat) : ∀ us : List (List Nat), Txt.join (tx sp) (us.map tx) = tx (jnS sp us)
  | [] => by simp [Txt.join, Builtin.Str.glued, tx, Str.empty, jnS]
  | u :: us => by
    have key : ∀ (us : List (List Nat)) (u : List Nat), u ++ (us.map fun y => sp ++ y).flatten = jnS sp (u :: us) := fun us => by
      induction us with
      | nil => intro u; simp [jnS]
      | cons v r ih =>
        intro u
        rw [List.map_cons, List.flatten_cons, List.append_assoc, ih v]
        rfl
    rw [tx_joinS, key]
theorem jnS_len (sp : List Nat) {B : Nat} : ∀ us : List (List Nat), (∀ u ∈ us, u.length ≤ B) → (jnS sp us).length ≤ us.length * (B + sp.length)
  | [], _ => Nat.zero_le _
  | [u], h => by
    have := h u List.mem_cons_self
    show u.length ≤ 1 * (B + sp.length)
    omega
  | u :: v :: r, h => by
    have h1 := h u List.mem_cons_self
    have h2 := jnS_len sp (v :: r) fun x hx => h x (List.mem_cons_of_mem _ hx)
    show (u ++ (sp ++ jnS sp (v :: r))).length ≤ ((v :: r).length + 1) * (B + sp.length)
    rw [List.length_append, List.length_append, Nat.add_mul]
    omega
theorem lens_sum {B : Nat} : ∀ us : List (List Nat), (∀ u ∈ us, u.length ≤ B) → ((us.map tx).map (·.length)).sum ≤ us.length * B
  | [], _ => Nat.zero_le _
  | u :: r, h => by
    have h1 := h u List.mem_cons_self
    have h2 := lens_sum r fun x hx => h x (List.mem_cons_of_mem _ hx)
    rw [List.map_cons, List.map_cons, List.sum_cons, tx_len, List.length_cons, Nat.add_mul]
    omega
theorem allC_len {ws ws' : List (List Nat)} (h : ws ≠ []) (h' : ws' ≠ []) (c : AllC [32, 47, 32] ws) (c' : AllC [32, 47, 32] ws') (e : jnS [32, 47, 32] ws' = jnS [32, 47, 32] ws) : ws'.length = ws.length := by
  have a := splitG_is (sp := [32, 47, 32]) (by decide) (by decide) h c
  have b := splitG_is (sp := [32, 47, 32]) (by decide) (by decide) h' c'
  rw [e, a] at b
  have := congrArg List.length b
  rw [List.length_map, List.length_map] at this
  exact this.symm
theorem bare3 {u0 J u2 s1 s2 : List Nat} (h0 : 47 ∉ u0) (hJ : 47 ∉ J) (h2 : 47 ∉ u2) (g1 : 47 ∉ s1) (g2 : 47 ∉ s2) {a b c : List Nat} (e : jnS [32, 47, 32] [a, b, c] = jnS (s1 ++ 47 :: s2) [u0, J, u2]) : a ++ [32] = u0 ++ s1 ∧ 32 :: c = s2 ++ u2 := by
  have e' : (a ++ [32]) ++ 47 :: ((32 :: b ++ [32]) ++ 47 :: (32 :: c)) = (u0 ++ s1) ++ 47 :: ((s2 ++ J ++ s1) ++ 47 :: (s2 ++ u2)) := by
    have : jnS [32, 47, 32] [a, b, c] = (a ++ [32]) ++ 47 :: ((32 :: b ++ [32]) ++ 47 :: (32 :: c)) := by simp [jnS]
    rw [← this, e]
    simp [jnS]
  have cnt := congrArg (List.count 47) e'
  have z0 := List.count_eq_zero.mpr h0
  have zJ := List.count_eq_zero.mpr hJ
  have z2 := List.count_eq_zero.mpr h2
  have y1 := List.count_eq_zero.mpr g1
  have y2 := List.count_eq_zero.mpr g2
  have c32 : ∀ l : List Nat, List.count 47 (32 :: l) = List.count 47 l := fun l => List.count_cons_of_ne (by decide)
  simp only [List.count_append, List.count_cons_self, c32, List.count_nil, z0, zJ, z2, y1, y2] at cnt
  have na : 47 ∉ a := List.count_eq_zero.mp (by omega)
  have nb : 47 ∉ b := List.count_eq_zero.mp (by omega)
  have nc : 47 ∉ c := List.count_eq_zero.mp (by omega)
  have q := sep_eq (c := 47) (w := a ++ [32]) (v := u0 ++ s1) (fun z => by
    rcases List.mem_append.mp z with z | z
    · exact na z
    · simp at z) (fun z => (List.mem_append.mp z).elim h0 g1) e'
  have q2 := sep_eq (c := 47) (w := 32 :: b ++ [32]) (v := s2 ++ J ++ s1) (fun z => by
    simp only [List.cons_append, List.mem_cons, List.mem_append, List.not_mem_nil, or_false] at z
    rcases z with z | z | z
    · cases z
    · exact nb z
    · cases z) (fun z => by
    rcases List.mem_append.mp z with z | z
    · exact (List.mem_append.mp z).elim g2 hJ
    · exact g1 z) q.2
  exact ⟨q.1, q2.2⟩
def Pl (r : Rc) : Prop := r.u = nT r.ks ∧ Nb r.ks
theorem pl47 {r : Rc} (h : Pl r) : 47 ∉ r.u := by rw [h.1]; exact fb_no (fb_nT h.2) (by decide) (by decide)
theorem jn_47 : ∀ (us : List (List Nat)), (∀ u ∈ us, 47 ∉ u) → 47 ∉ jnS [44, 32] us
  | [], _ => by simp [jnS]
  | [u], h => h u List.mem_cons_self
  | u :: v :: r, h => fun z => by
    rcases List.mem_append.mp (show 47 ∈ u ++ ([44, 32] ++ jnS [44, 32] (v :: r)) from z) with z | z
    · exact h u List.mem_cons_self z
    · rcases List.mem_append.mp z with z | z
      · simp at z
      · exact jn_47 (v :: r) (fun x hx => h x (List.mem_cons_of_mem _ hx)) z
def Pw (u0 J u2 : List Nat) (wd : Str) (way : Int) (n : Int) (ws : List (List Nat)) (wd' : Str) : Prop :=
  (ws = [u0, J, u2] ∧ wd' = wd ∧ ¬ (1 ≤ way ∧ way ≤ n)) ∨ ((1 ≤ way ∧ way ≤ n) ∧ ws ≠ [] ∧ ws.length ≠ 3 ∧ ws.length ≤ 4 ∧ (∀ w ∈ ws, Cln [32, 47, 32] w ∧ w.length ≤ 21000) ∧ wd' = "NoDraft")
def Not3 (u : List Nat) : Prop := ∀ ws, ws ≠ [] → jnS [32, 47, 32] ws = u → AllC [32, 47, 32] ws → ws.length ≠ 3
theorem not3_bare {r0 r2 : Rc} {rm : List Rc} (h0 : Pl r0) (hm : ∀ r ∈ rm, Pl r) (h2 : Pl r2) {s1 s2 : List Nat} (hs : (s1 = [] ∧ 47 ∉ s2) ∨ (s1 = [32] ∧ s2 = [])) : Not3 (jnS (s1 ++ 47 :: s2) [r0.u, jnS [44, 32] (rm.map Rc.u), r2.u]) := fun ws ne e hC l3 => by
  match ws, l3 with
  | [a, b, c], _ =>
    have g1 : 47 ∉ s1 := by
      rcases hs with hs | hs <;> rw [hs.1] <;> simp
    have g2 : 47 ∉ s2 := by
      rcases hs with hs | hs
      · exact hs.2
      · rw [hs.2]; simp
    have q := bare3 (pl47 h0) (jn_47 _ fun u hu => by
      obtain ⟨r, hr, rfl⟩ := List.mem_map.mp hu
      exact pl47 (hm r hr)) (pl47 h2) g1 g2 e
    rcases hs with hs | hs
    · have e1 := q.1
      rw [hs.1, List.append_nil] at e1
      have := nT_last h0.2 32 (by rw [← h0.1, ← e1]; simp)
      omega
    · have e2 := q.2
      rw [hs.2, List.nil_append] at e2
      have := nT_first h2.2 32 (by rw [← h2.1, ← e2]; rfl)
      omega
theorem Rws.set {H : Hp} {R p : Addr} {ts : List Addr} {rs : List Rc} {r : Rc} {j : Nat} (h : Rws H R ts rs) (hp : AtR H p r) (ho : r.Ok) (hn : ∀ (a : Addr) (x : Rc), AtR H a x → a ≠ R ∧ ∀ l, H l = some (.lst (vI x.ks)) → l ≠ R) : Rws (upd H R (.lst ((ts.set j p).map V.ref))) R (ts.set j p) (rs.set j r) := by
  have ln := h.l
  have keep : ∀ (a : Addr) (x : Rc), AtR H a x → AtR (upd H R (.lst ((ts.set j p).map V.ref))) a x := fun a x hx => by
    obtain ⟨n1, n2⟩ := hn a x hx
    obtain ⟨l, e1, e2⟩ := hx
    exact ⟨l, by rw [upd_ne n1]; exact e1, by rw [upd_ne (n2 l e2)]; exact e2⟩
  refine ⟨upd_same, by rw [List.length_set, List.length_set, ln], fun i a x e1 e2 => ?_, fun x hx => ?_⟩
  · rw [List.getElem?_set] at e1 e2
    by_cases hj : j = i
    · subst hj
      by_cases hi : j < ts.length
      · rw [if_pos rfl, if_pos hi] at e1
        rw [if_pos rfl, if_pos (by omega)] at e2
        cases e1
        cases e2
        exact keep _ _ hp
      · rw [if_pos rfl, if_neg hi] at e1
        cases e1
    · rw [if_neg hj] at e1 e2
      exact keep _ _ (h.at_ i a x e1 e2)
  · rcases List.mem_or_eq_of_mem_set hx with hx | hx
    · exact h.ok x hx
    · rw [hx]; exact ho
theorem Rws.other {H : Hp} {R : Addr} {ts : List Addr} {rs : List Rc} (h : Rws H R ts rs) (h3 : 1 ≤ rs.length) : ∀ (a : Addr) (x : Rc), AtR H a x → a ≠ R ∧ ∀ l, H l = some (.lst (vI x.ks)) → l ≠ R := fun a x hx => by
  have ho := h.h
  have hl := h.l
  refine ⟨fun z => ?_, fun l e z => ?_⟩
  · obtain ⟨l, e1, _⟩ := hx
    rw [z, ho] at e1
    cases e1
  · rw [z, ho] at e
    injection e with e
    injection e with e
    cases ts with
    | nil => simp at hl; omega
    | cons b ts => cases hk : x.ks <;> rw [hk] at e <;> cases e
section
variable {P : Program} {w : World} {K : PySem.W.Frag} {mg : Str → Option Value} {base : Heap} {t : Adr}
def sp_law (K : PySem.W.Frag) : Sp := fun vs H Q _ => ∃ (a : Addr) (ns : List Int), vs = [.ref a] ∧ SqL K H a (vI ns) ∧ ns.length ≤ 63 ∧ ∀ H', Q (.bl true) H'
theorem sp_law_holds {K : PySem.W.Frag} {H : Hp} {a : Addr} {ns : List Int} (hl : ns.length ≤ 63) (hS : SqL K H a (ns.map V.int)) : sp_law K [.ref a] H (fun v _ => v = .bl true) fun _ _ _ => False := ⟨a, ns, rfl, hS, hl, fun _ => rfl⟩
theorem by_restU {G : Prop} {R : St → Hp → Prop} (C : St → Hp → Prop) (main : (∀ σ H2, C σ H2 → R σ H2) → G) (rest : ∀ σ H2, C σ H2 → R σ H2) : G := main rest
theorem ok_law (T : Txt K mg t) : FnOk P w K mg base CX0 44 t.f_law t.d_law ["script"] (sp_law K) := by
  have G_law_numbers : FnOk P w K mg base CX0 1 t.f_law_numbers t.d_law_numbers _ _ := ok_law_numbers T
  have G_law_rows_by : FnOk P w K mg base CX0 2 t.f_law_rows_by t.d_law_rows_by _ _ := ok_law_rows_by T
  have G_law_written : FnOk P w K mg base CX0 1 t.f_law_written t.d_law_written _ _ := ok_law_written T
  have G_law_exchanged : FnOk P w K mg base CX0 2 t.f_law_exchanged t.d_law_exchanged _ _ := ok_law_exchanged T
  have G_law_due : FnOk P w K mg base CX0 2 t.f_law_due t.d_law_due _ _ := ok_law_due T
  have G_law_caught : FnOk P w K mg base CX0 43 t.f_law_caught t.d_law_caught _ _ := ok_law_caught T
  have G_law_refused : FnOk P w K mg base CX0 2 t.f_law_refused t.d_law_refused _ _ := ok_law_refused T
  have G_law_draft_same : FnOk P w K mg base CX0 2 t.f_law_draft_same t.d_law_draft_same _ _ := ok_law_draft_same T
  refine T.law.F.ok sc_law (fun vs H Q E h => ?_) (fun cdv A outer s H vs Q E hr h => ?_)
  · obtain ⟨a, ns, rfl, _⟩ := h
    rfl
  · obtain ⟨a, sc, rfl, hS, hl, k⟩ := h
    have hsz : sizeLine = 16777216 := sizeLine_eq
    refine ⟨_, (pss_cons (ps_set (i := 1) sc_law.nd rfl (Or.inl rfl) (pe_call (G_law_numbers.mono (by decide)) hr rfl T.law_numbers.m T.law_numbers.F.kp T.law_numbers.b .nil pass0 (pa_cons (pv 0) (pa_cons pe_int pa_nil))))
      (pss_cons (ps_setC (i := 2) (CompOk.mk (caps := []) (Nc := ["row"]) rfl (by decide +kernel) (by decide +kernel) (comp_fr (sc0 := defScope s_law) rfl (by decide +kernel)) rfl rfl rfl (by decide +kernel) (fun _ _ h => by simp at h)) rfl sc_law.nd rfl rfl (pi_listK (K := K) (pe_call (G_law_rows_by.mono (by decide)) hr rfl T.law_rows_by.m T.law_rows_by.F.kp T.law_rows_by.b .nil pass0 (pa_cons (pv 1) pa_nil))) (fun _ _ _ _ _ => .nil) (fun _ _ _ _ _ => (pe_tup (pa_cons (pe_call (G_law_written.mono (by decide)) hr rfl T.law_written.m T.law_written.F.kp T.law_written.b .nil pass0 (pa_cons (pv 0) pa_nil)) (pa_cons pe_str (pa_cons (pv 0) pa_nil))))) rfl)
      (pss_cons (ps_for PassesOwn.never rfl (pi_range1 rfl T.b_range (pa_cons (pe_op op_mod (pe_ix (ix_listK (K := K)) (pv 1) pe_int (fun _ _ => rfl)) pe_int) pa_nil)) (pg_name (i := 3) sc_law.nd rfl (Or.inl rfl))
        (pss_cons (ps_set (i := 4) sc_law.nd rfl (Or.inl rfl) (pe_op op_mod (pe_op op_fdiv (pe_ix (ix_listK (K := K)) (pv 1) pe_int (fun _ _ => rfl)) (pe_op op_add (pe_op op_mul (pv 3) pe_int) pe_int)) (pe_callB (call_len_seqK (K := K)) rfl T.b_len bt_len (pa_cons (pv 2) pa_nil))))
        (pss_one (ps_asg (pe_call (G_law_exchanged.mono (by decide)) hr rfl T.law_exchanged.m T.law_exchanged.F.kp T.law_exchanged.b .nil pass0 (pa_cons (pe_ix (ix_tupK (K := K)) (pe_ix (ix_listK (K := K)) (pv 2) (pv 4) (fun _ _ => rfl)) pe_int (fun _ _ => rfl)) (pa_cons (pe_op op_mod (pe_op op_mul (pe_ix (ix_listK (K := K)) (pv 1) (pe_op op_add pe_int (pv 3)) (fun _ _ => rfl)) pe_int) (pe_op op_pow pe_int pe_int)) pa_nil))) (pg_sub (pv 2) (pv 4) set_list)))))
      (pss_cons (ps_set (i := 5) sc_law.nd rfl (Or.inl rfl) (pe_lst (pa_cons (pe_ix (ix_tupK (K := K)) (pe_ix (ix_listK (K := K)) (pv 2) pe_int (fun _ _ => rfl)) pe_int (fun _ _ => rfl)) (pa_cons (pe_bmK (K := K) PySem.F.plainAttrs_str PySem.F.slot_str_join PySem.F.type_str_join (mt_joinK (K := K)) pe_str (pa_cons (pe_comp (CompOk.mk (caps := []) (Nc := ["row"]) rfl (by decide +kernel) (by decide +kernel) (comp_fr (sc0 := defScope s_law) rfl (by decide +kernel)) rfl rfl rfl (by decide +kernel) (fun _ _ h => by simp at h)) rfl (pi_listK (K := K) (pe_slice (sl_listK (K := K)) (pv 2) (po_some pe_int) (po_some (pe_un un_neg pe_int)))) (fun _ _ _ _ _ => .nil) (fun _ _ _ _ _ => (pe_ix (ix_tupK (K := K)) (pv 0) pe_int (fun _ _ => rfl)))) pa_nil)) (pa_cons (pe_ix (ix_tupK (K := K)) (pe_ix (ix_listK (K := K)) (pv 2) (pe_un un_neg pe_int) (fun _ _ => rfl)) pe_int (fun _ _ => rfl)) pa_nil)))))
      (pss_cons (ps_set (i := 6) sc_law.nd rfl (Or.inl rfl) (pe_call (G_law_due.mono (by decide)) hr rfl T.law_due.m T.law_due.F.kp T.law_due.b .nil pass0 (pa_cons (pv 2) pa_nil)))
      (pss_cons (ps_set (i := 7) sc_law.nd rfl (Or.inl rfl) (pe_op op_mod (pe_op op_fdiv (pe_ix (ix_listK (K := K)) (pv 1) pe_int (fun _ _ => rfl)) pe_int) pe_int))
      (pss_cons (ps_if (pt_cmpR op_eq (pv 7) pe_int (nomark _))
        (pss_cons (ps_expr (pe_bm0K (K := K) PySem.F.plainAttrs_list PySem.F.slot_list_pop PySem.F.type_list_pop mt_pop (pv 5)))
        (pss_one (ps_set (i := 6) sc_law.nd rfl (Or.inl rfl) pe_str)))
        pss_nil)
      (pss_cons (ps_if (pt_cmpR op_eq (pv 7) pe_int (nomark _))
        (pss_cons (ps_expr (pe_bmK (K := K) PySem.F.plainAttrs_list PySem.F.slot_list_append PySem.F.type_list_append mt_append (pv 5) (pa_cons pe_str pa_nil)))
        (pss_one (ps_set (i := 6) sc_law.nd rfl (Or.inl rfl) pe_str)))
        pss_nil)
      (pss_cons (ps_if (pt_cmpR op_eq (pv 7) pe_int (nomark _))
        (pss_cons (ps_set (i := 5) sc_law.nd rfl (Or.inl rfl) (pe_slice (sl_listK (K := K)) (pv 5) po_none (po_some pe_int)))
        (pss_one (ps_set (i := 6) sc_law.nd rfl (Or.inl rfl) pe_str)))
        pss_nil)
      (pss_cons (ps_set (i := 8) sc_law.nd rfl (Or.inl rfl) (pe_bmK (K := K) PySem.F.plainAttrs_str PySem.F.slot_str_join PySem.F.type_str_join (mt_joinK (K := K)) pe_str (pa_cons (pv 5) pa_nil)))
      (pss_cons (ps_if (PW.pt (pw_and (pt_cmpR op_gt (pv 7) pe_int (nomark _)) (pw_and1 (pt_cmpR op_eq (pe_op op_mod (pe_ix (ix_listK (K := K)) (pv 1) pe_int (fun _ _ => rfl)) pe_int) pe_int (nomark _)))))
        (pss_cons (ps_set (i := 8) sc_law.nd rfl (Or.inl rfl) (pe_bmK (K := K) PySem.F.plainAttrs_str PySem.F.slot_str_join PySem.F.type_str_join (mt_joinK (K := K)) (pe_ix (ix_listK (K := K)) (pe_lst (pa_cons pe_str (pa_cons pe_str (pa_cons pe_str pa_nil)))) (pe_op op_mod (pe_op op_fdiv (pe_ix (ix_listK (K := K)) (pv 1) pe_int (fun _ _ => rfl)) pe_int) pe_int) (fun _ _ => rfl)) (pa_cons (pv 5) pa_nil)))
        (pss_one (ps_set (i := 6) sc_law.nd rfl (Or.inl rfl) pe_str)))
        pss_nil)
      (pss_cons (ps_set (i := 9) sc_law.nd rfl (Or.inl rfl) (pe_call (G_law_caught.mono (by decide)) hr rfl T.law_caught.m T.law_caught.F.kp T.law_caught.b .nil pass0 (pa_cons (pv 8) pa_nil)))
      (pss_cons (ps_if (pt_cmpR op_ne (pv 6) pe_str (nomark _))
        (pss_one (ps_ret (pe_and (pe_cmpR op_notN (pe_ix (ix_tupK (K := K)) (pv 9) pe_int (fun _ _ => rfl)) pe_non (nomark _)) (pe_one (pe_call (G_law_refused.mono (by decide)) hr rfl T.law_refused.m T.law_refused.F.kp T.law_refused.b .nil pass0 (pa_cons (pe_ix (ix_tupK (K := K)) (pv 9) pe_int (fun _ _ => rfl)) (pa_cons (pv 6) pa_nil)))))))
        pss_nil)
      (pss_cons (ps_if (PW.pt (pw_or (pt_cmpR op_notN (pe_ix (ix_tupK (K := K)) (pv 9) pe_int (fun _ _ => rfl)) pe_non (nomark _)) (pw_or1 (pt_not (pt_val (pe_callB (call_isiK (K := K)) rfl T.b_isinstance bt_isinstance (pa_cons (pe_ix (ix_tupK (K := K)) (pv 9) pe_int (fun _ _ => rfl)) (pa_cons (pe_glob (v := .ref t.e_Draft) rfl T.k_Draft rfl) pa_nil))))))))
        (pss_one (ps_ret pe_bl))
        pss_nil)
      (pss_one (ps_ret (pe_call (G_law_draft_same.mono (by decide)) hr rfl T.law_draft_same.m T.law_draft_same.F.kp T.law_draft_same.b .nil pass0 (pa_cons (pe_ix (ix_tupK (K := K)) (pv 9) pe_int (fun _ _ => rfl)) (pa_cons (pe_ix (ix_tupK (K := K)) (pe_ix (ix_listK (K := K)) (pv 2) pe_int (fun _ _ => rfl)) pe_int (fun _ _ => rfl)) (pa_cons (pe_comp (CompOk.mk (caps := []) (Nc := ["row"]) rfl (by decide +kernel) (by decide +kernel) (comp_fr (sc0 := defScope s_law) rfl (by decide +kernel)) rfl rfl rfl (by decide +kernel) (fun _ _ h => by simp at h)) rfl (pi_listK (K := K) (pe_slice (sl_listK (K := K)) (pv 2) (po_some pe_int) (po_some (pe_un un_neg pe_int)))) (fun _ _ _ _ _ => .nil) (fun _ _ _ _ _ => (pe_ix (ix_tupK (K := K)) (pv 0) pe_int (fun _ _ => rfl)))) (pa_cons (pe_ix (ix_tupK (K := K)) (pe_ix (ix_listK (K := K)) (pv 2) (pe_un un_neg pe_int) (fun _ _ => rfl)) pe_int (fun _ _ => rfl)) pa_nil))))))))))))))))))))), ?_⟩
    refine ⟨_, rfl, a, sc, 40, rfl, hS, hl, by decide, by decide, fun q0 ns H1 s1 nq0 hq0 n40 nn0 => ?_⟩
    refine ⟨_, rfl, q0, ns, rfl, hq0, n40, nn0, fun F qs kss H2 s2 N k3 k10 kb => ?_⟩
    have ql := N.l
    refine ⟨_, rfl, ⟨_, SqL.of N.h⟩, comp_list (K := K) (a := F) (xs := qs.map V.ref) (fun i ys H3 => Same H2 H3 ∧ ∃ ts : List Addr, ys = ts.map V.ref ∧ ts.length = i ∧ ∀ (j : Nat) (p : Addr) (ks : List Int), ts[j]? = some p → kss[j]? = some ks → AtR H3 p ⟨nT ks, "", ks⟩) ⟨.refl _, [], rfl, rfl, fun j p ks h => by simp at h⟩ ?_ ?_ ?_ ?_⟩
    · rintro i ys H3 hi ⟨s3, ts, rfl, tl, _⟩
      exact ⟨SqL.of (s3 _ _ N.h), by rw [List.length_map]; omega⟩
    · rw [List.length_map]; omega
    · rintro i xv ys H3 hi hxv ⟨s3, ts, rfl, tl, hts⟩
      obtain ⟨r, ks, rfl, _, hks, hr'⟩ := (N.same s3).at hxv
      refine CTurn.no ?_
      refine ⟨_, rfl, r, ks, rfl, SqL.of hr', kb ks (List.mem_of_getElem? hks), fun H4 s4 => ?_⟩
      refine ⟨_, rfl, (by show 3 ≤ sizeLine; omega), fun p hp => ?_⟩
      have s5 : Same H4 (upd H4 p (.tup [.str (tx (nT ks)), .str "", .ref r])) := .upd hp
      refine CN.of hi ⟨(s3.trans s4).trans s5, ts ++ [p], by rw [List.map_append]; rfl, by rw [List.length_append, tl]; rfl, fun j b ks' g1 g2 => ?_⟩
      by_cases hj : j < ts.length
      · rw [List.getElem?_append_left hj] at g1
        exact ((hts j b ks' g1 g2).same s4).same s5
      · have hj2 : j = i := by
          have := (List.getElem?_eq_some_iff.mp g1).1
          rw [List.length_append, List.length_singleton] at this
          omega
        subst hj2
        rw [List.getElem?_append_right (by omega), show j - ts.length = 0 by omega] at g1
        rw [hks] at g2
        cases g1
        cases g2
        exact ⟨r, upd_same, s5 _ _ (s4 _ _ hr')⟩
    rintro ys H3 R ⟨s3, ts0, rfl, tl0, hts0⟩ nR
    rw [List.length_map] at tl0
    have s4 : Same H3 (upd H3 R (.lst (ts0.map V.ref))) := .upd nR
    have W0 : Rws (upd H3 R (.lst (ts0.map V.ref))) R ts0 (kss.map fun ks => ⟨nT ks, "", ks⟩) := by
      refine ⟨upd_same, by rw [List.length_map]; omega, fun j p r g1 g2 => ?_, fun r hr' => ?_⟩
      · rw [List.getElem?_map] at g2
        obtain ⟨ks, hk, rfl⟩ := Option.map_eq_some_iff.mp g2
        exact (hts0 j p ks g1 hk).same s4
      · obtain ⟨ks, hk, rfl⟩ := List.mem_map.mp hr'
        have b := kb ks hk
        exact ⟨.good (wr_nT b), cl_nT b, b.1, b.2⟩
    have P0 : ∀ r ∈ kss.map (fun ks => (⟨nT ks, "", ks⟩ : Rc)), Pl r := fun r hr' => by
      obtain ⟨ks, hk, rfl⟩ := List.mem_map.mp hr'
      exact ⟨rfl, kb ks hk⟩
    have l0 : (kss.map fun ks => (⟨nT ks, "", ks⟩ : Rc)).length = kss.length := List.length_map _
    generalize (kss.map fun ks => (⟨nT ks, "", ks⟩ : Rc)) = rs0 at W0 P0 l0
    have u4 := ((s1.trans s2).trans s3).trans s4
    have hq4 := s4 _ _ (s3 _ _ (s2 _ _ hq0))
    have nR0 : H R = none := ((s1.trans s2).trans s3).free nR
    generalize upd H3 R (.lst (ts0.map V.ref)) = H4 at W0 u4 hq4 s4 ⊢
    refine at_set (σ' := [some (.ref a), some (.ref q0), some (.ref R), none, none, none, none, none, none, none]) rfl ?_
    have a1 : atI (vI ns) 1 = some (.int ns[1]) := at_num (i := 1) (by omega)
    have a2 : atI (vI ns) 2 = some (.int ns[2]) := at_num (i := 2) (by omega)
    obtain ⟨m3, em3, hm3⟩ := mod_nat ns[1] (m := 3) (by decide)
    refine ⟨_, rfl, _, _, _, _, rfl, rfl, SqL.of hq4, a1, _, _, rfl, rfl, (by show (0 : Int) < 3; decide), ns[1] % 3, rfl, by omega, by omega, ?_⟩
    refine for_range (lo := 0) (n := (ns[1] % 3).toNat) (fun i σ H5 => ∃ (v3 v4 : Option V) (ts : List Addr) (rs : List Rc), σ = [some (.ref a), some (.ref q0), some (.ref R), v3, v4, none, none, none, none, none] ∧ Same H H5 ∧ Rws H5 R ts rs ∧ rs.length = kss.length ∧ (i = 0 → ∀ r ∈ rs, Pl r) ∧ H5 q0 = some (.lst (vI ns))) ⟨none, none, ts0, rs0, rfl, u4, W0, l0, fun _ => P0, hq4⟩ ?_ ?_
    · rintro i σ H5 hi ⟨v3, v4, ts, rs, rfl, s5, W, rl, _, hq5⟩
      have wl := W.l
      refine ⟨_, rfl, _, _, _, _, rfl, rfl, SqL.of hq5, a2, _, rfl, _, _, rfl, rfl, .inr ⟨by decide, by decide⟩, _, _, rfl, rfl, _, _, rfl, rfl, ⟨(by show (0 : Int) < (0 + (i : Int)) * 40 + 1; omega), (by show (0 + (i : Int)) * 40 + 1 < 1073741824; omega)⟩, _, rfl, _, _, rfl, .inl (SqL.of W.h), _, _, rfl, rfl, (by show (0 : Int) < ((ts.map V.ref).length : Int); rw [List.length_map]; omega), ?_⟩
      obtain ⟨j, ej, hj⟩ := mod_nat (ns[2] / ((0 + (i : Int)) * 40 + 1)) (m := ((ts.map V.ref).length : Int)) (by rw [List.length_map]; omega)
      rw [List.length_map] at hj
      refine at_set (σ' := [some (.ref a), some (.ref q0), some (.ref R), some (.int (0 + (i : Int))), some (.int (j : Int)), none, none, none, none, none]) (by rw [← ej]; rfl) ?_
      have hjt : j < ts.length := by omega
      have hjr : j < rs.length := by omega
      obtain ⟨l, h1, h2⟩ := W.at_ j ts[j] rs[j] (List.getElem?_eq_getElem hjt) (List.getElem?_eq_getElem hjr)
      have ea : atI (ts.map V.ref) (j : Int) = some (.ref ts[j]) := atI_of (by omega) (by rw [Int.toNat_natCast, List.getElem?_map, List.getElem?_eq_getElem hjt]; rfl)
      have hi3 : 3 + i < ns.length := by omega
      have e3 : atI (vI ns) (3 + (0 + (i : Int))) = some (.int ns[3 + i]) := by
        have := at_num hi3
        rw [show ((3 + i : Nat) : Int) = 3 + (0 + (i : Int)) by omega] at this
        exact this
      refine ⟨_, rfl, _, rfl, _, _, _, _, rfl, rfl, SqL.of W.h, ea, _, _, _, _, rfl, rfl, SqT.of h1, rfl, _, rfl, _, rfl, _, _, rfl, rfl, _, _, _, _, rfl, rfl, SqL.of hq5, e3, _, _, rfl, rfl, .inr ⟨by decide, by decide⟩, _, _, rfl, rfl, ⟨by decide, by decide, by decide⟩, _, _, rfl, rfl, (by show (0 : Int) < 10 ^ 60; decide), ?_⟩
      have Oj := W.ok rs[j] (List.getElem_mem hjr)
      refine ⟨l, rs[j].ks, _, rfl, h2, nb_ok Oj, fun p r H6 s6 np Or Ar => ?_⟩
      have W6 := W.same s6
      refine ⟨_, rfl, _, rfl, _, _, _, j, rfl, rfl, W6.h, ixN_of (by omega) (by rw [List.length_map]; omega), ?_⟩
      have W7 := W6.set (j := j) Ar Or (W6.other (by omega))
      rw [List.map_set] at W7
      refine ⟨_, _, ts.set j p, rs.set j r, rfl, (s5.trans s6).over nR0, W7, by rw [List.length_set]; exact rl, fun z => by omega, ?_⟩
      rw [upd_ne (fun z => ?_)]
      · exact s6 _ _ hq5
      · have := W.h
        rw [← z, hq5] at this
        injection this with this
        injection this with this
        cases ts with
        | nil => simp at hjt
        | cons b ts => cases ns <;> cases this
    rintro σ H5 ⟨v3, v4, ts, rs, rfl, s5, W, rl, hPl, hq5⟩
    obtain ⟨t0, tm, t2, r0, rm, r2, rfl, rfl, nem, tml, A0, A2, Am⟩ := W.parts (by omega)
    have O0 := W.ok r0 (by simp)
    have O2 := W.ok r2 (by simp)
    have Om : ∀ r ∈ rm, r.Ok := fun r hr' => W.ok r (by simp [hr'])
    have rml : rm.length ≤ 8 := by
      simp only [List.length_append, List.length_cons, List.length_nil] at rl
      omega
    have lu0 := O0.c.l
    have lu2 := O2.c.l
    have Cm : ∀ u ∈ rm.map Rc.u, Cl2 u := fun u hu => by
      obtain ⟨r, hr', rfl⟩ := List.mem_map.mp hu
      exact (Om r hr').c
    have jb := jnS_len [44, 32] (B := 2500) (rm.map Rc.u) fun u hu => (Cm u hu).l
    rw [List.length_map] at jb
    simp only [List.length_cons, List.length_nil] at jb
    have JL : (jnS [44, 32] (rm.map Rc.u)).length ≤ 21000 := by omega
    obtain ⟨l0', p0, x0⟩ := A0
    obtain ⟨l2', p2, x2⟩ := A2
    have e0 : atI ((t0 :: tm ++ [t2]).map V.ref) 0 = some (.ref t0) := atI_of (by decide) rfl
    have e2 : atI ((t0 :: tm ++ [t2]).map V.ref) (-1) = some (.ref t2) := by rw [List.map_append]; exact atI_lst
    refine ⟨_, rfl, _, _, _, _, rfl, rfl, SqL.of W.h, e0, _, _, _, _, rfl, rfl, SqT.of p0, rfl, ?_⟩
    refine ⟨rfl, _, rfl, _, rfl, _, rfl, _, rfl, _, _, rfl, SqL.of W.h, fun S nS => ?_⟩
    rw [show (t0 :: tm ++ [t2]).map V.ref = V.ref t0 :: tm.map V.ref ++ [V.ref t2] by simp, cut_mid3]
    have s6 : Same H5 (upd H5 S (.lst (tm.map V.ref))) := .upd nS
    have hS6 : (upd H5 S (.lst (tm.map V.ref))) S = some (.lst (tm.map V.ref)) := upd_same
    generalize upd H5 S (.lst (tm.map V.ref)) = H6 at s6 hS6 ⊢
    refine ⟨_, rfl, ⟨_, SqL.of hS6⟩, comp_list (K := K) (a := S) (xs := tm.map V.ref) (fun i ys H7 => H7 = H6 ∧ ys = vS ((rm.map Rc.u).take i)) ⟨rfl, rfl⟩ ?_ ?_ ?_ ?_⟩
    · rintro i ys H7 hi ⟨rfl, rfl⟩
      refine ⟨SqL.of hS6, ?_⟩
      rw [vS_len, List.length_take, List.length_map]
      omega
    · rw [List.length_map]; omega
    · rintro i xv ys H7 hi hxv ⟨rfl, rfl⟩
      rw [List.getElem?_map] at hxv
      obtain ⟨b, hb, rfl⟩ := Option.map_eq_some_iff.mp hxv
      have hi' : i < rm.length := by have := (List.getElem?_eq_some_iff.mp hb).1; omega
      obtain ⟨l, h1, h2⟩ := (Am i b _ hb (List.getElem?_eq_getElem hi')).same s6
      refine CTurn.no ⟨_, rfl, _, _, _, _, rfl, rfl, SqT.of h1, rfl, ?_⟩
      show CN (tm.map V.ref).length _ i (vS ((rm.map Rc.u).take i) ++ [.str (tx (rm[i]).u)]) H7
      rw [vS_app]
      refine CN.of hi ⟨rfl, ?_⟩
      rw [List.take_add_one, List.getElem?_map, List.getElem?_eq_getElem hi']
      rfl
    rintro ys H7 Y ⟨rfl, rfl⟩ nY
    rw [List.length_map, tml, ← List.length_map (f := Rc.u), List.take_length]
    have s7 : Same H7 (upd H7 Y (.lst (vS (rm.map Rc.u)))) := .upd nY
    refine ⟨_, _, (rm.map Rc.u).map tx, rfl, rfl, SqL.of (by rw [upd_same, vS_map]), ?_, ?_⟩
    · have := lens_sum (B := 2500) (rm.map Rc.u) fun u hu => (Cm u hu).l
      rw [List.length_map] at this
      rw [List.length_map, List.length_map, st_ties, tx_len]
      simp only [List.length_cons, List.length_nil]
      omega
    rw [st_ties, join_jnS]
    have u7 := s6.trans s7
    generalize upd H7 Y (.lst (vS (rm.map Rc.u))) = H8 at s7 u7 ⊢
    refine ⟨_, rfl, _, rfl, _, _, _, _, rfl, rfl, SqL.of (u7 _ _ W.h), e2, _, _, _, _, rfl, rfl, SqT.of (u7 _ _ p2), rfl, ?_⟩
    refine ⟨(by show 3 ≤ sizeLine; omega), fun p np => ?_⟩
    have s9 : Same H8 (upd H8 p (.lst (vS [r0.u, jnS [44, 32] (rm.map Rc.u), r2.u]))) := .upd np
    have hp9 : (upd H8 p (.lst (vS [r0.u, jnS [44, 32] (rm.map Rc.u), r2.u]))) p = some (.lst (vS [r0.u, jnS [44, 32] (rm.map Rc.u), r2.u])) := upd_same
    have np5 : H5 p = none := u7.free np
    show gName _ _ _ (upd H8 p (.lst (vS [r0.u, jnS [44, 32] (rm.map Rc.u), r2.u]))) _
    generalize upd H8 p (.lst (vS [r0.u, jnS [44, 32] (rm.map Rc.u), r2.u])) = H9 at s9 hp9 ⊢
    refine at_set (σ' := [some (.ref a), some (.ref q0), some (.ref R), v3, v4, some (.ref p), none, none, none, none]) rfl ?_
    have u9 := u7.trans s9
    have W9 := W.same u9
    refine ⟨_, rfl, R, t0, t2, tm, r0, r2, rm, rfl, W9, nem, rml, fun wd H10 D s10 => ?_⟩
    refine at_set (σ' := [some (.ref a), some (.ref q0), some (.ref R), v3, v4, some (.ref p), some (.str wd), none, none, none]) rfl ?_
    have u10 := u9.trans s10
    have hq10 := u10 _ _ hq5
    have hp10 := s10 _ _ hp9
    refine ⟨_, rfl, _, _, _, _, rfl, rfl, SqL.of hq10, a1, _, _, rfl, rfl, ⟨by decide, by decide⟩, _, _, rfl, rfl, (by show (0 : Int) < 10; decide), ?_⟩
    obtain ⟨way, ew⟩ : ∃ way, way = ns[1] / 3 % 10 := ⟨_, rfl⟩
    refine at_set (σ' := [some (.ref a), some (.ref q0), some (.ref R), v3, v4, some (.ref p), some (.str wd), some (.int way), none, none]) (by rw [ew]; rfl) ?_
    have c0 : Cln [32, 47, 32] r0.u ∧ r0.u.length ≤ 21000 := ⟨cln_parts O0.c.a.at, by omega⟩
    have cJ : Cln [32, 47, 32] (jnS [44, 32] (rm.map Rc.u)) ∧ (jnS [44, 32] (rm.map Rc.u)).length ≤ 21000 := ⟨cln_parts (jn47 _ Cm).1.at, JL⟩
    have c2 : Cln [32, 47, 32] r2.u ∧ r2.u.length ≤ 21000 := ⟨cln_parts O2.c.a.at, by omega⟩
    have np10 : H5 p = none := np5
    have drT_eq : drT r0 rm r2 = jnS [32, 47, 32] [r0.u, jnS [44, 32] (rm.map Rc.u), r2.u] := rfl
    generalize hJ : jnS [44, 32] (rm.map Rc.u) = J at hp10 cJ JL drT_eq
    apply by_restU (fun σ H' => ∃ (p' : Addr) (ws : List (List Nat)) (wd' : Str), σ = [some (.ref a), some (.ref q0), some (.ref R), v3, v4, some (.ref p'), some (.str wd'), some (.int way), none, none] ∧ Same H5 H' ∧ H5 p' = none ∧ H' p' = some (.lst (vS ws)) ∧ Pw r0.u J r2.u wd way 1 ws wd')
    · intro rest
      refine ⟨_, rfl, rfl, _, rfl, ?_⟩
      refine ite2D ?tt ?ff
      case ff =>
        intro cw
        obtain ⟨σ9, e9⟩ : ∃ σ9 : St, σ9 = [some (.ref a), some (.ref q0), some (.ref R), v3, v4, some (.ref p), some (.str wd), some (.int way), none, none] := ⟨_, rfl⟩
        rw [← e9]
        exact rest σ9 H10 ⟨p, _, wd, e9, u10, np10, hp10, .inl ⟨rfl, rfl, fun z => cw (by rw [show way = 1 by omega])⟩⟩
      case tt =>
        intro cw
        have cw' : way = 1 := by injection cw
        refine ⟨_, rfl, .inl ⟨rfl, _, SqL.of hp10⟩, _, _, _, rfl, rfl, hp10, rfl, ?_⟩
        obtain ⟨H9', eH⟩ : ∃ H9', H9' = upd H10 p (.lst (vS [r0.u, J, r2.u]).dropLast) := ⟨_, rfl⟩
        rw [← eH]
        refine rest _ H9' ⟨p, [r0.u, J], "NoDraft", rfl, by rw [eH]; exact u10.over np10, np10, by rw [eH]; exact upd_same, .inr ⟨⟨by omega, by omega⟩, by simp, by simp, by simp, fun w hw => ?_, rfl⟩⟩
        simp only [List.mem_cons, List.not_mem_nil, or_false] at hw
        rcases hw with z | z <;> rw [z]
        · exact c0
        · exact cJ
    rintro σ H11 ⟨p11, ws11, wd11, rfl, u11, np11, hp11, Q11⟩
    apply by_restU (fun σ H' => ∃ (p' : Addr) (ws : List (List Nat)) (wd' : Str), σ = [some (.ref a), some (.ref q0), some (.ref R), v3, v4, some (.ref p'), some (.str wd'), some (.int way), none, none] ∧ Same H5 H' ∧ H5 p' = none ∧ H' p' = some (.lst (vS ws)) ∧ Pw r0.u J r2.u wd way 2 ws wd')
    · intro rest
      refine ⟨_, rfl, rfl, _, rfl, ?_⟩
      refine ite2D ?tt ?ff
      case ff =>
        intro cw
        obtain ⟨σ9, e9⟩ : ∃ σ9 : St, σ9 = [some (.ref a), some (.ref q0), some (.ref R), v3, v4, some (.ref p11), some (.str wd11), some (.int way), none, none] := ⟨_, rfl⟩
        rw [← e9]
        refine rest σ9 H11 ⟨p11, ws11, wd11, e9, u11, np11, hp11, ?_⟩
        have cw' : way ≠ 2 := fun z => cw (by rw [z])
        rcases Q11 with ⟨x1, x2, x3⟩ | ⟨⟨y1, y2⟩, x⟩
        · exact .inl ⟨x1, x2, fun z => x3 ⟨z.1, by omega⟩⟩
        · exact .inr ⟨⟨y1, by omega⟩, x⟩
      case tt =>
        intro cw
        have cw' : way = 2 := by injection cw
        rcases Q11 with ⟨ew11, _, _⟩ | ⟨⟨_, _⟩, _⟩
        · rw [ew11] at hp11
          refine ⟨_, rfl, .inl ⟨rfl, _, SqL.of hp11⟩, _, _, _, rfl, rfl, hp11, (by show 3 < sizeLine; omega), ?_⟩
          have e48 : (("0" : Str)) = tx [48] := by decide +kernel
          obtain ⟨H9', eH⟩ : ∃ H9', H9' = upd H11 p11 (.lst (vS [r0.u, J, r2.u] ++ [V.str "0"])) := ⟨_, rfl⟩
          rw [← eH]
          refine rest _ H9' ⟨p11, [r0.u, J, r2.u, [48]], "NoDraft", rfl, by rw [eH]; exact u11.over np11, np11, by rw [eH, upd_same, e48]; rfl, .inr ⟨⟨by omega, by omega⟩, by simp, by simp, by simp, fun w hw => ?_, rfl⟩⟩
          simp only [List.mem_cons, List.not_mem_nil, or_false] at hw
          rcases hw with z | z | z | z <;> rw [z]
          · exact c0
          · exact cJ
          · exact c2
          · exact ⟨cln_parts (c47_of (by simp)).at, by simp⟩
        · omega
    rintro σ H12 ⟨p12, ws12, wd12, rfl, u12, np12, hp12, Q12⟩
    apply by_restU (fun σ H' => ∃ (p' : Addr) (ws : List (List Nat)) (wd' : Str), σ = [some (.ref a), some (.ref q0), some (.ref R), v3, v4, some (.ref p'), some (.str wd'), some (.int way), none, none] ∧ Same H5 H' ∧ H5 p' = none ∧ H' p' = some (.lst (vS ws)) ∧ Pw r0.u J r2.u wd way 3 ws wd')
    · intro rest
      refine ⟨_, rfl, rfl, _, rfl, ?_⟩
      refine ite2D ?tt ?ff
      case ff =>
        intro cw
        obtain ⟨σ9, e9⟩ : ∃ σ9 : St, σ9 = [some (.ref a), some (.ref q0), some (.ref R), v3, v4, some (.ref p12), some (.str wd12), some (.int way), none, none] := ⟨_, rfl⟩
        rw [← e9]
        refine rest σ9 H12 ⟨p12, ws12, wd12, e9, u12, np12, hp12, ?_⟩
        have cw' : way ≠ 3 := fun z => cw (by rw [z])
        rcases Q12 with ⟨x1, x2, x3⟩ | ⟨⟨y1, y2⟩, x⟩
        · exact .inl ⟨x1, x2, fun z => x3 ⟨z.1, by omega⟩⟩
        · exact .inr ⟨⟨y1, by omega⟩, x⟩
      case tt =>
        intro cw
        have cw' : way = 3 := by injection cw
        rcases Q12 with ⟨ew12, _, _⟩ | ⟨⟨_, _⟩, _⟩
        · rw [ew12] at hp12
          refine ⟨_, rfl, _, rfl, _, _, rfl, SqL.of hp12, fun d nd => ?_⟩
          obtain ⟨H9', eH⟩ : ∃ H9', H9' = upd H12 d (.lst (cutV (vS [r0.u, J, r2.u]) none (some 1))) := ⟨_, rfl⟩
          rw [← eH]
          refine at_set (σ' := [some (.ref a), some (.ref q0), some (.ref R), v3, v4, some (.ref d), some (.str wd12), some (.int way), none, none]) rfl ?_
          refine rest _ H9' ⟨d, [r0.u], "NoDraft", rfl, by rw [eH]; exact u12.new nd, u12.free nd, by rw [eH]; exact upd_same, .inr ⟨⟨by omega, by omega⟩, by simp, by simp, by simp, fun w hw => ?_, rfl⟩⟩
          rw [List.mem_singleton.mp hw]
          exact c0
        · omega
    rintro σ H13 ⟨p13, ws13, wd13, rfl, u13, np13, hp13, Q13⟩
    have l13 : ws13.length ≤ 4 ∧ ∀ w ∈ ws13, w.length ≤ 21000 := by
      rcases Q13 with ⟨x1, _⟩ | ⟨_, _, _, x4, x5, _⟩
      · rw [x1]
        refine ⟨by simp, fun w hw => ?_⟩
        simp only [List.mem_cons, List.not_mem_nil, or_false] at hw
        rcases hw with z | z | z <;> rw [z]
        · exact c0.2
        · exact cJ.2
        · exact c2.2
      · exact ⟨x4, fun w hw => (x5 w hw).2⟩
    have ls13 := lens_sum (B := 21000) ws13 l13.2
    have jl13 := jnS_len [32, 47, 32] (B := 21000) ws13 l13.2
    simp only [List.length_cons, List.length_nil] at jl13
    refine ⟨rfl, _, rfl, _, _, ws13.map tx, rfl, rfl, SqL.of (by rw [hp13, vS_map]), ?_, ?_⟩
    · rw [List.length_map, st_parts, tx_len]
      simp only [List.length_cons, List.length_nil]
      omega
    rw [st_parts, join_jnS]
    refine at_set (σ' := [some (.ref a), some (.ref q0), some (.ref R), v3, v4, some (.ref p13), some (.str wd13), some (.int way), some (.str (tx (jnS [32, 47, 32] ws13))), none]) rfl ?_
    have hq13 := u13 _ _ hq5
    have n3_13 : ¬ (1 ≤ way ∧ way ≤ 3) ∧ ws13 = [r0.u, J, r2.u] ∧ wd13 = wd ∨ Not3 (jnS [32, 47, 32] ws13) ∧ wd13 = "NoDraft" ∧ way ≤ 3 := by
      rcases Q13 with ⟨x1, x2, x3⟩ | ⟨y, ne, n3, _, x5, x6⟩
      · exact .inl ⟨x3, x1, x2⟩
      · refine .inr ⟨fun ws' ne' e' c' l' => ?_, x6, y.2⟩
        have := allC_len ne ne' (allC_of fun w hw => (x5 w hw).1) c' e'
        omega
    have hC : ∀ σ9 : St, σ9 = [some (.ref a), some (.ref q0), some (.ref R), v3, v4, some (.ref p13), some (.str wd13), some (.int way), some (.str (tx (jnS [32, 47, 32] ws13))), none] → ∃ (u : List Nat) (wd' : Str), σ9 = [some (.ref a), some (.ref q0), some (.ref R), v3, v4, some (.ref p13), some (.str wd'), some (.int way), some (.str (tx u)), none] ∧ Same H5 H13 ∧ u.length ≤ 1000000 ∧ ((u = drT r0 rm r2 ∧ wd' = wd) ∨ (Not3 u ∧ wd' = "NoDraft")) := fun σ9 e9 => ⟨jnS [32, 47, 32] ws13, wd13, e9, u13, by omega, by
      rcases n3_13 with ⟨_, x1, x2⟩ | ⟨x1, x2, _⟩
      · exact .inl ⟨by rw [x1, drT_eq], x2⟩
      · exact .inr ⟨x1, x2⟩⟩
    apply by_restU (fun σ H' => ∃ (u : List Nat) (wd' : Str), σ = [some (.ref a), some (.ref q0), some (.ref R), v3, v4, some (.ref p13), some (.str wd'), some (.int way), some (.str (tx u)), none] ∧ Same H5 H' ∧ u.length ≤ 1000000 ∧ ((u = drT r0 rm r2 ∧ wd' = wd) ∨ (Not3 u ∧ wd' = "NoDraft")))
    · intro rest
      refine ⟨_, rfl, _, _, rfl, rfl, _, rfl, ?_⟩
      refine ite2D ?tt ?ff
      case ff =>
        intro _
        refine iteF ?_
        obtain ⟨σ9, e9⟩ : ∃ σ9 : St, σ9 = [some (.ref a), some (.ref q0), some (.ref R), v3, v4, some (.ref p13), some (.str wd13), some (.int way), some (.str (tx (jnS [32, 47, 32] ws13))), none] := ⟨_, rfl⟩
        rw [← e9]
        exact rest σ9 H13 (hC σ9 e9)
      case tt =>
        intro c7
        refine ⟨_, rfl, _, _, _, _, rfl, rfl, SqL.of hq13, a1, _, _, rfl, rfl, (by show (0 : Int) < 3; decide), rfl, _, rfl, ?_⟩
        refine ite2D ?tt2 ?ff2
        case ff2 => exact fun _ => rest _ H13 (hC _ rfl)
        case tt2 =>
          intro cm
          have cm' : ns[1] % 3 = 0 := by injection cm
          rcases n3_13 with ⟨_, x1, x2⟩ | ⟨_, _, y⟩
          · have pl := hPl (by rw [cm']; rfl)
            have P0 : Pl r0 := pl r0 (by simp)
            have P2 : Pl r2 := pl r2 (by simp)
            have Pm : ∀ r ∈ rm, Pl r := fun r hr' => pl r (by simp [hr'])
            refine ⟨(by show 3 ≤ sizeLine; omega), fun L3 nL3 => ?_⟩
            have hL3 : (upd H13 L3 (.lst [.str "/", .str " /", .str "/ "])) L3 = some (.lst [.str "/", .str " /", .str "/ "]) := upd_same
            have s14 : Same H13 (upd H13 L3 (.lst [.str "/", .str " /", .str "/ "])) := .upd nL3
            obtain ⟨H14, eH14⟩ : ∃ H14, H14 = upd H13 L3 (.lst [.str "/", .str " /", .str "/ "]) := ⟨_, rfl⟩
            rw [← eH14] at hL3 s14
            rw [← eH14]
            have hq14 := s14 _ _ hq13
            have hp14 := s14 _ _ hp13
            obtain ⟨j, ej, hj⟩ := mod_nat (ns[1] / 30) (m := 3) (by decide)
            have hj3 : j = 0 ∨ j = 1 ∨ j = 2 := by omega
            have e47 : (("/" : Str)) = tx [47] := by decide +kernel
            have e3247 : ((" /" : Str)) = tx [32, 47] := by decide +kernel
            have e4732 : (("/ " : Str)) = tx [47, 32] := by decide +kernel
            have ek : ∃ (s1 s2 : List Nat) (z : Str), atI [V.str "/", V.str " /", V.str "/ "] (ns[1] / 30 % 3) = some (.str z) ∧ z = tx (s1 ++ 47 :: s2) ∧ (s1 ++ 47 :: s2).length ≤ 2 ∧ ((s1 = [] ∧ 47 ∉ s2) ∨ (s1 = [32] ∧ s2 = [])) := by
              rw [ej]
              rcases hj3 with rfl | rfl | rfl
              · exact ⟨[], [], "/", rfl, e47, by simp, .inl ⟨rfl, by simp⟩⟩
              · exact ⟨[32], [], " /", rfl, e3247, by simp, .inr ⟨rfl, rfl⟩⟩
              · exact ⟨[], [32], "/ ", rfl, e4732, by simp, .inl ⟨rfl, by simp⟩⟩
            obtain ⟨b1, b2, z, ez, e1, lz, hb⟩ := ek
            refine ⟨_, rfl, _, _, _, _, rfl, rfl, SqL.of hq14, a1, _, _, rfl, rfl, ⟨by decide, by decide⟩, _, _, rfl, rfl, (by show (0 : Int) < 3; decide), _, _, _, _, rfl, rfl, SqL.of hL3, ez, ?_⟩
            have jl := jnS_len (b1 ++ 47 :: b2) (B := 21000) ws13 l13.2
            have l4 : ws13.length * (21000 + (b1 ++ 47 :: b2).length) ≤ 4 * 21002 := Nat.mul_le_mul l13.1 (by omega)
            refine ⟨rfl, _, rfl, _, _, ws13.map tx, rfl, rfl, SqL.of (by rw [hp14, vS_map]), ?_, ?_⟩
            · rw [List.length_map, e1, tx_len]
              have := Nat.mul_le_mul (show ws13.length - 1 ≤ 4 by omega) lz
              have := Nat.mul_le_mul l13.1 lz
              omega
            rw [e1, join_jnS]
            refine rest _ H14 ⟨jnS (b1 ++ 47 :: b2) ws13, "NoDraft", rfl, u13.trans s14, by omega, .inr ⟨?_, rfl⟩⟩
            rw [x1, ← hJ]
            exact not3_bare P0 Pm P2 hb
          · omega
    rintro σ H14 ⟨u, wd14, rfl, u14, lu, QQ⟩
    have W14 := W.same u14
    have hw3 : wd = "" ∨ W3 wd := by
      by_cases c : fw (wds r0 rm r2) = ""
      · by_cases cf : Ft r0.ks (rm.map Rc.ks) r2.ks
        · exact .inl (D.b c cf)
        · exact .inr (.inr (.inr (D.c c cf)))
      · rw [D.a c]
        refine fw_word _ fun x hx => ?_
        rcases List.mem_append.mp hx with hx | hx
        · rcases List.mem_cons.mp hx with z | z
          · rw [z]; exact rk_word O0.k
          · obtain ⟨r, hr', rfl⟩ := List.mem_map.mp z
            exact rk_word (Om r hr').k
        · rw [List.mem_singleton.mp hx]; exact rk_word O2.k
    have ne3 : ∀ {x : Str}, W3 x → ¬ (V.str x = V.str "") := fun h z => w3_ne h (V.str.inj z)
    rcases QQ with ⟨rfl, rfl⟩ | ⟨N3, rfl⟩
    · refine ⟨_, rfl, .inl ⟨r0, rm, r2, wd14, rfl, O0, nem, by omega, Om, O2, lu, D, fun h3 e p9 H15 s15 he hp9' => ?_, fun ew F p9 d dx da db dc dqs H15 s15 DD hp9' => ?_⟩⟩
      · refine at_set (σ' := [some (.ref a), some (.ref q0), some (.ref R), v3, v4, some (.ref p13), some (.str wd14), some (.int way), some (.str (tx (drT r0 rm r2))), some (.ref p9)]) rfl ?_
        refine ⟨_, rfl, rfl, _, rfl, iteNp (ne3 h3) ?_⟩
        refine ⟨_, rfl, _, _, _, _, rfl, rfl, SqT.of hp9', rfl, rfl, _, rfl, iteT ?_⟩
        exact ⟨_, rfl, _, _, _, _, rfl, rfl, SqT.of hp9', rfl, _, rfl, e, wd14, rfl, h3, he, k⟩
      · refine at_set (σ' := [some (.ref a), some (.ref q0), some (.ref R), v3, v4, some (.ref p13), some (.str wd14), some (.int way), some (.str (tx (drT r0 rm r2))), some (.ref p9)]) rfl ?_
        refine ⟨_, rfl, rfl, _, rfl, iteNS (by rw [ew]) ?_⟩
        refine ⟨_, rfl, _, _, _, _, rfl, rfl, SqT.of hp9', rfl, rfl, _, rfl, iteF ?_⟩
        refine ⟨_, rfl, _, _, _, _, rfl, rfl, SqT.of hp9', rfl, _, _, true, T.is_Draft.ty T.o_Draft.c DD.o, .inr ⟨_, rfl, if_pos (beq_self_eq_true _)⟩, _, rfl, iteF ?_⟩
        have u15 := u14.trans s15
        refine ⟨_, rfl, _, _, _, _, rfl, rfl, SqT.of hp9', rfl, ?_⟩
        refine ⟨_, rfl, _, _, _, _, rfl, rfl, SqL.of (u15 _ _ W.h), e0, _, _, _, _, rfl, rfl, SqT.of (u15 _ _ p0), rfl, ?_⟩
        refine ⟨_, rfl, _, rfl, _, rfl, _, rfl, _, _, rfl, SqL.of (u15 _ _ W.h), fun S' nS' => ?_⟩
        rw [show (t0 :: tm ++ [t2]).map V.ref = V.ref t0 :: tm.map V.ref ++ [V.ref t2] by simp, cut_mid3]
        have s16 : Same H15 (upd H15 S' (.lst (tm.map V.ref))) := .upd nS'
        have hS16 : (upd H15 S' (.lst (tm.map V.ref))) S' = some (.lst (tm.map V.ref)) := upd_same
        generalize upd H15 S' (.lst (tm.map V.ref)) = H16 at s16 hS16 ⊢
        refine ⟨_, rfl, ⟨_, SqL.of hS16⟩, comp_list (K := K) (a := S') (xs := tm.map V.ref) (fun i ys H17 => H17 = H16 ∧ ∃ ls : List Addr, ys = ls.map V.ref ∧ ls.length = i ∧ ∀ (j : Nat) (b : Addr) (ks : List Int), ls[j]? = some b → (rm.map Rc.ks)[j]? = some ks → H16 b = some (.lst (vI ks))) ⟨rfl, [], rfl, rfl, fun j b ks h => by simp at h⟩ ?_ ?_ ?_ ?_⟩
        · rintro i ys H17 hi ⟨rfl, ls, rfl, ll, _⟩
          refine ⟨SqL.of hS16, ?_⟩
          rw [List.length_map]
          omega
        · rw [List.length_map]; omega
        · rintro i xv ys H17 hi hxv ⟨rfl, ls, rfl, ll, hls⟩
          rw [List.getElem?_map] at hxv
          obtain ⟨b, hb, rfl⟩ := Option.map_eq_some_iff.mp hxv
          have hi' : i < rm.length := by have := (List.getElem?_eq_some_iff.mp hb).1; omega
          obtain ⟨l, h1, h2⟩ := (Am i b _ hb (List.getElem?_eq_getElem hi')).same (u15.trans s16)
          refine CTurn.no ⟨_, rfl, _, _, _, _, rfl, rfl, SqT.of h1, rfl, CN.of hi ⟨rfl, ls ++ [l], by rw [List.map_append]; rfl, by rw [List.length_append, ll]; rfl, fun j b' ks g1 g2 => ?_⟩⟩
          by_cases hj : j < ls.length
          · rw [List.getElem?_append_left hj] at g1
            exact hls j b' ks g1 g2
          · have hj2 : j = i := by
              have := (List.getElem?_eq_some_iff.mp g1).1
              rw [List.length_append, List.length_singleton] at this
              omega
            subst hj2
            rw [List.getElem?_append_right (by omega), show j - ls.length = 0 by omega] at g1
            rw [List.getElem?_map, List.getElem?_eq_getElem hi'] at g2
            cases g1
            cases g2
            exact h2
        rintro ys H17 Y' ⟨rfl, ls, rfl, ll, hls⟩ nY'
        rw [List.length_map] at ll
        have s18 : Same H17 (upd H17 Y' (.lst (ls.map V.ref))) := .upd nY'
        have hY' : NL (upd H17 Y' (.lst (ls.map V.ref))) Y' ls (rm.map Rc.ks) := ⟨upd_same, by rw [List.length_map]; omega, fun j b ks g1 g2 => s18 _ _ (hls j b ks g1 g2)⟩
        generalize upd H17 Y' (.lst (ls.map V.ref)) = H18 at s18 hY' ⊢
        have s68 := s16.trans s18
        have u18 := u15.trans s68
        refine ⟨_, rfl, _, rfl, _, _, _, _, rfl, rfl, SqL.of (u18 _ _ W.h), e2, _, _, _, _, rfl, rfl, SqT.of (u18 _ _ p2), rfl, ?_⟩
        exact ⟨d, dx, da, db, dc, l0', Y', l2', dqs, ls, r0.ks, rm.map Rc.ks, r2.ks, rfl, DD.same s68, u18 _ _ x0, hY', u18 _ _ x2, F, k _⟩
    · have h3 : W3 "NoDraft" := .inr (.inr rfl)
      refine ⟨_, rfl, .inr ⟨u, rfl, lu, N3, fun e p9 H15 s15 he hp9' => ?_⟩⟩
      refine at_set (σ' := [some (.ref a), some (.ref q0), some (.ref R), v3, v4, some (.ref p13), some (.str "NoDraft"), some (.int way), some (.str (tx u)), some (.ref p9)]) rfl ?_
      refine ⟨_, rfl, rfl, _, rfl, iteNp (ne3 h3) ?_⟩
      refine ⟨_, rfl, _, _, _, _, rfl, rfl, SqT.of hp9', rfl, rfl, _, rfl, iteT ?_⟩
      exact ⟨_, rfl, _, _, _, _, rfl, rfl, SqT.of hp9', rfl, _, rfl, e, "NoDraft", rfl, h3, he, k⟩
end
theorem law_mk {P : Program} {w : World} {K : PySem.W.Frag} {h : Heap} {mg : Str → Option Value} {fa : Addr} {f_check_setting : Addr} {od_check_setting an_check_setting : Option Addr} {sl_check_setting : Array (Option Value)} {oc_check_setting kV_check_setting dc_check_setting pm_check_setting cd_check_setting ct_check_setting : Value}
    {f_check_count : Addr} {od_check_count an_check_count : Option Addr} {sl_check_count : Array (Option Value)} {oc_check_count kV_check_count dc_check_count pm_check_count cd_check_count ct_check_count : Value}
    {f_check_shaft : Addr} {od_check_shaft an_check_shaft : Option Addr} {sl_check_shaft : Array (Option Value)} {oc_check_shaft kV_check_shaft dc_check_shaft pm_check_shaft cd_check_shaft ct_check_shaft : Value}
    {f_check_tie : Addr} {od_check_tie an_check_tie : Option Addr} {sl_check_tie : Array (Option Value)} {oc_check_tie kV_check_tie dc_check_tie pm_check_tie cd_check_tie ct_check_tie : Value}
    {f_check_treading : Addr} {od_check_treading an_check_treading : Option Addr} {sl_check_treading : Array (Option Value)} {oc_check_treading kV_check_treading dc_check_treading pm_check_treading cd_check_treading ct_check_treading : Value}
    {f_number_of : Addr} {od_number_of an_number_of : Option Addr} {sl_number_of : Array (Option Value)} {oc_number_of kV_number_of dc_number_of pm_number_of cd_number_of ct_number_of : Value}
    {f_unfolded : Addr} {od_unfolded an_unfolded : Option Addr} {sl_unfolded : Array (Option Value)} {oc_unfolded kV_unfolded dc_unfolded pm_unfolded cd_unfolded ct_unfolded : Value}
    {f_whole_size : Addr} {od_whole_size an_whole_size : Option Addr} {sl_whole_size : Array (Option Value)} {oc_whole_size kV_whole_size dc_whole_size pm_whole_size cd_whole_size ct_whole_size : Value}
    {f_all_numbers : Addr} {od_all_numbers an_all_numbers : Option Addr} {sl_all_numbers : Array (Option Value)} {oc_all_numbers kV_all_numbers dc_all_numbers pm_all_numbers cd_all_numbers ct_all_numbers : Value}
    {f_steps_between : Addr} {od_steps_between an_steps_between : Option Addr} {sl_steps_between : Array (Option Value)} {oc_steps_between kV_steps_between dc_steps_between pm_steps_between cd_steps_between ct_steps_between : Value}
    {f_read_row : Addr} {od_read_row an_read_row : Option Addr} {sl_read_row : Array (Option Value)} {oc_read_row kV_read_row dc_read_row pm_read_row cd_read_row ct_read_row : Value}
    {f_read_items : Addr} {od_read_items an_read_items : Option Addr} {sl_read_items : Array (Option Value)} {oc_read_items kV_read_items dc_read_items pm_read_items cd_read_items ct_read_items : Value}
    {f_read_item : Addr} {od_read_item an_read_item : Option Addr} {sl_read_item : Array (Option Value)} {oc_read_item kV_read_item dc_read_item pm_read_item cd_read_item ct_read_item : Value}
    {f_read_times : Addr} {od_read_times an_read_times : Option Addr} {sl_read_times : Array (Option Value)} {oc_read_times kV_read_times dc_read_times pm_read_times cd_read_times ct_read_times : Value}
    {f_read_path : Addr} {od_read_path an_read_path : Option Addr} {sl_read_path : Array (Option Value)} {oc_read_path kV_read_path dc_read_path pm_read_path cd_read_path ct_read_path : Value}
    {f_read_number : Addr} {od_read_number an_read_number : Option Addr} {sl_read_number : Array (Option Value)} {oc_read_number kV_read_number dc_read_number pm_read_number cd_read_number ct_read_number : Value}
    {f_read_draft : Addr} {od_read_draft an_read_draft : Option Addr} {sl_read_draft : Array (Option Value)} {oc_read_draft kV_read_draft dc_read_draft pm_read_draft cd_read_draft ct_read_draft : Value}
    {f_law_numbers : Addr} {od_law_numbers an_law_numbers : Option Addr} {sl_law_numbers : Array (Option Value)} {oc_law_numbers kV_law_numbers dc_law_numbers pm_law_numbers cd_law_numbers ct_law_numbers : Value}
    {f_law_subset : Addr} {od_law_subset an_law_subset : Option Addr} {sl_law_subset : Array (Option Value)} {oc_law_subset kV_law_subset dc_law_subset pm_law_subset cd_law_subset ct_law_subset : Value}
    {f_law_numbers_same : Addr} {od_law_numbers_same an_law_numbers_same : Option Addr} {sl_law_numbers_same : Array (Option Value)} {oc_law_numbers_same kV_law_numbers_same dc_law_numbers_same pm_law_numbers_same cd_law_numbers_same ct_law_numbers_same : Value}
    {f_law_draft_same : Addr} {od_law_draft_same an_law_draft_same : Option Addr} {sl_law_draft_same : Array (Option Value)} {oc_law_draft_same kV_law_draft_same dc_law_draft_same pm_law_draft_same cd_law_draft_same ct_law_draft_same : Value}
    {f_law_written : Addr} {od_law_written an_law_written : Option Addr} {sl_law_written : Array (Option Value)} {oc_law_written kV_law_written dc_law_written pm_law_written cd_law_written ct_law_written : Value}
    {f_law_exchanged : Addr} {od_law_exchanged an_law_exchanged : Option Addr} {sl_law_exchanged : Array (Option Value)} {oc_law_exchanged kV_law_exchanged dc_law_exchanged pm_law_exchanged cd_law_exchanged ct_law_exchanged : Value}
    {f_law_rows_by : Addr} {od_law_rows_by an_law_rows_by : Option Addr} {sl_law_rows_by : Array (Option Value)} {oc_law_rows_by kV_law_rows_by dc_law_rows_by pm_law_rows_by cd_law_rows_by ct_law_rows_by : Value}
    {f_law_fits : Addr} {od_law_fits an_law_fits : Option Addr} {sl_law_fits : Array (Option Value)} {oc_law_fits kV_law_fits dc_law_fits pm_law_fits cd_law_fits ct_law_fits : Value}
    {f_law_due : Addr} {od_law_due an_law_due : Option Addr} {sl_law_due : Array (Option Value)} {oc_law_due kV_law_due dc_law_due pm_law_due cd_law_due ct_law_due : Value}
    {f_law_caught : Addr} {od_law_caught an_law_caught : Option Addr} {sl_law_caught : Array (Option Value)} {oc_law_caught kV_law_caught dc_law_caught pm_law_caught cd_law_caught ct_law_caught : Value}
    {f_law_refused : Addr} {od_law_refused an_law_refused : Option Addr} {sl_law_refused : Array (Option Value)} {oc_law_refused kV_law_refused dc_law_refused pm_law_refused cd_law_refused ct_law_refused : Value}
    {f_law : Addr} {od_law an_law : Option Addr} {sl_law : Array (Option Value)} {oc_law kV_law dc_law pm_law cd_law ct_law : Value}
    {q_MOST_STRANDS : Tok}
    {q_MOST_SHAFTS : Tok}
    {q_FIGURES : Tok}
    {q_MOST_NUMBERS : Tok}
    {q_MOST_DEEP : Tok}
    {q_BETWEEN_PARTS : Tok}
    {q_BETWEEN_TIES : Tok}
    {e_WeaveError : Addr}
    {e_NoRow : Addr}
    {e_TooLarge : Addr}
    {e_NoDraft : Addr}
    {f_WeaveError_called : Addr} {od_WeaveError_called an_WeaveError_called : Option Addr} {sl_WeaveError_called : Array (Option Value)} {oc_WeaveError_called kV_WeaveError_called dc_WeaveError_called pm_WeaveError_called cd_WeaveError_called ct_WeaveError_called : Value}
    {f_NoRow_called : Addr} {od_NoRow_called an_NoRow_called : Option Addr} {sl_NoRow_called : Array (Option Value)} {oc_NoRow_called kV_NoRow_called dc_NoRow_called pm_NoRow_called cd_NoRow_called ct_NoRow_called : Value}
    {f_TooLarge_called : Addr} {od_TooLarge_called an_TooLarge_called : Option Addr} {sl_TooLarge_called : Array (Option Value)} {oc_TooLarge_called kV_TooLarge_called dc_TooLarge_called pm_TooLarge_called cd_TooLarge_called ct_TooLarge_called : Value}
    {f_NoDraft_called : Addr} {od_NoDraft_called an_NoDraft_called : Option Addr} {sl_NoDraft_called : Array (Option Value)} {oc_NoDraft_called kV_NoDraft_called dc_NoDraft_called pm_NoDraft_called cd_NoDraft_called ct_NoDraft_called : Value}
    {e_Draft : Addr}
    {e_Reader : Addr}
    {e_Path : Addr}
    {e_Times : Addr}
    {f_Draft___init__ : Addr} {od_Draft___init__ an_Draft___init__ : Option Addr} {sl_Draft___init__ : Array (Option Value)} {oc_Draft___init__ kV_Draft___init__ dc_Draft___init__ pm_Draft___init__ cd_Draft___init__ ct_Draft___init__ : Value}
    {f_Reader___init__ : Addr} {od_Reader___init__ an_Reader___init__ : Option Addr} {sl_Reader___init__ : Array (Option Value)} {oc_Reader___init__ kV_Reader___init__ dc_Reader___init__ pm_Reader___init__ cd_Reader___init__ ct_Reader___init__ : Value}
    {f_Reader_ended : Addr} {od_Reader_ended an_Reader_ended : Option Addr} {sl_Reader_ended : Array (Option Value)} {oc_Reader_ended kV_Reader_ended dc_Reader_ended pm_Reader_ended cd_Reader_ended ct_Reader_ended : Value}
    {f_Reader_took : Addr} {od_Reader_took an_Reader_took : Option Addr} {sl_Reader_took : Array (Option Value)} {oc_Reader_took kV_Reader_took dc_Reader_took pm_Reader_took cd_Reader_took ct_Reader_took : Value}
    {f_Reader_stretch : Addr} {od_Reader_stretch an_Reader_stretch : Option Addr} {sl_Reader_stretch : Array (Option Value)} {oc_Reader_stretch kV_Reader_stretch dc_Reader_stretch pm_Reader_stretch cd_Reader_stretch ct_Reader_stretch : Value}
    {f_Reader_number : Addr} {od_Reader_number an_Reader_number : Option Addr} {sl_Reader_number : Array (Option Value)} {oc_Reader_number kV_Reader_number dc_Reader_number pm_Reader_number cd_Reader_number ct_Reader_number : Value}
    {f_Path___init__ : Addr} {od_Path___init__ an_Path___init__ : Option Addr} {sl_Path___init__ : Array (Option Value)} {oc_Path___init__ kV_Path___init__ dc_Path___init__ pm_Path___init__ cd_Path___init__ ct_Path___init__ : Value}
    {f_Path_size : Addr} {od_Path_size an_Path_size : Option Addr} {sl_Path_size : Array (Option Value)} {oc_Path_size kV_Path_size dc_Path_size pm_Path_size cd_Path_size ct_Path_size : Value}
    {f_Path_numbers : Addr} {od_Path_numbers an_Path_numbers : Option Addr} {sl_Path_numbers : Array (Option Value)} {oc_Path_numbers kV_Path_numbers dc_Path_numbers pm_Path_numbers cd_Path_numbers ct_Path_numbers : Value}
    {f_Times___init__ : Addr} {od_Times___init__ an_Times___init__ : Option Addr} {sl_Times___init__ : Array (Option Value)} {oc_Times___init__ kV_Times___init__ dc_Times___init__ pm_Times___init__ cd_Times___init__ ct_Times___init__ : Value}
    {f_Times_size : Addr} {od_Times_size an_Times_size : Option Addr} {sl_Times_size : Array (Option Value)} {oc_Times_size kV_Times_size dc_Times_size pm_Times_size cd_Times_size ct_Times_size : Value}
    {f_Times_numbers : Addr} {od_Times_numbers an_Times_numbers : Option Addr} {sl_Times_numbers : Array (Option Value)} {oc_Times_numbers kV_Times_numbers dc_Times_numbers pm_Times_numbers cd_Times_numbers ct_Times_numbers : Value}
    (X : K.In h) (G : h.Ns mainGlobals mg) (hfa : mg "law" = some (.ref fa))
    (a_check_setting : PySem.W.nsIn K mainGlobals "check_setting" = some (some (.ref f_check_setting)))
    (l_check_setting : K.lookup f_check_setting = some ⟨oc_check_setting, od_check_setting, .func (PySem.W.fnOf "check_setting" "check_setting" (defArgs s_check_setting) (defBody s_check_setting) (defScope s_check_setting) .none kV_check_setting dc_check_setting pm_check_setting an_check_setting cd_check_setting ct_check_setting), sl_check_setting⟩)
    (c_check_setting : PySem.W.codeIn K cd_check_setting "check_setting" = true)
    (k_check_setting : PySem.W.keepIn K (.ref f_check_setting) = true)
    (a_check_count : PySem.W.nsIn K mainGlobals "check_count" = some (some (.ref f_check_count)))
    (l_check_count : K.lookup f_check_count = some ⟨oc_check_count, od_check_count, .func (PySem.W.fnOf "check_count" "check_count" (defArgs s_check_count) (defBody s_check_count) (defScope s_check_count) .none kV_check_count dc_check_count pm_check_count an_check_count cd_check_count ct_check_count), sl_check_count⟩)
    (c_check_count : PySem.W.codeIn K cd_check_count "check_count" = true)
    (k_check_count : PySem.W.keepIn K (.ref f_check_count) = true)
    (a_check_shaft : PySem.W.nsIn K mainGlobals "check_shaft" = some (some (.ref f_check_shaft)))
    (l_check_shaft : K.lookup f_check_shaft = some ⟨oc_check_shaft, od_check_shaft, .func (PySem.W.fnOf "check_shaft" "check_shaft" (defArgs s_check_shaft) (defBody s_check_shaft) (defScope s_check_shaft) .none kV_check_shaft dc_check_shaft pm_check_shaft an_check_shaft cd_check_shaft ct_check_shaft), sl_check_shaft⟩)
    (c_check_shaft : PySem.W.codeIn K cd_check_shaft "check_shaft" = true)
    (k_check_shaft : PySem.W.keepIn K (.ref f_check_shaft) = true)
    (a_check_tie : PySem.W.nsIn K mainGlobals "check_tie" = some (some (.ref f_check_tie)))
    (l_check_tie : K.lookup f_check_tie = some ⟨oc_check_tie, od_check_tie, .func (PySem.W.fnOf "check_tie" "check_tie" (defArgs s_check_tie) (defBody s_check_tie) (defScope s_check_tie) .none kV_check_tie dc_check_tie pm_check_tie an_check_tie cd_check_tie ct_check_tie), sl_check_tie⟩)
    (c_check_tie : PySem.W.codeIn K cd_check_tie "check_tie" = true)
    (k_check_tie : PySem.W.keepIn K (.ref f_check_tie) = true)
    (a_check_treading : PySem.W.nsIn K mainGlobals "check_treading" = some (some (.ref f_check_treading)))
    (l_check_treading : K.lookup f_check_treading = some ⟨oc_check_treading, od_check_treading, .func (PySem.W.fnOf "check_treading" "check_treading" (defArgs s_check_treading) (defBody s_check_treading) (defScope s_check_treading) .none kV_check_treading dc_check_treading pm_check_treading an_check_treading cd_check_treading ct_check_treading), sl_check_treading⟩)
    (c_check_treading : PySem.W.codeIn K cd_check_treading "check_treading" = true)
    (k_check_treading : PySem.W.keepIn K (.ref f_check_treading) = true)
    (a_number_of : PySem.W.nsIn K mainGlobals "number_of" = some (some (.ref f_number_of)))
    (l_number_of : K.lookup f_number_of = some ⟨oc_number_of, od_number_of, .func (PySem.W.fnOf "number_of" "number_of" (defArgs s_number_of) (defBody s_number_of) (defScope s_number_of) .none kV_number_of dc_number_of pm_number_of an_number_of cd_number_of ct_number_of), sl_number_of⟩)
    (c_number_of : PySem.W.codeIn K cd_number_of "number_of" = true)
    (k_number_of : PySem.W.keepIn K (.ref f_number_of) = true)
    (a_unfolded : PySem.W.nsIn K mainGlobals "unfolded" = some (some (.ref f_unfolded)))
    (l_unfolded : K.lookup f_unfolded = some ⟨oc_unfolded, od_unfolded, .func (PySem.W.fnOf "unfolded" "unfolded" (defArgs s_unfolded) (defBody s_unfolded) (defScope s_unfolded) .none kV_unfolded dc_unfolded pm_unfolded an_unfolded cd_unfolded ct_unfolded), sl_unfolded⟩)
    (c_unfolded : PySem.W.codeIn K cd_unfolded "unfolded" = true)
    (k_unfolded : PySem.W.keepIn K (.ref f_unfolded) = true)
    (a_whole_size : PySem.W.nsIn K mainGlobals "whole_size" = some (some (.ref f_whole_size)))
    (l_whole_size : K.lookup f_whole_size = some ⟨oc_whole_size, od_whole_size, .func (PySem.W.fnOf "whole_size" "whole_size" (defArgs s_whole_size) (defBody s_whole_size) (defScope s_whole_size) .none kV_whole_size dc_whole_size pm_whole_size an_whole_size cd_whole_size ct_whole_size), sl_whole_size⟩)
    (c_whole_size : PySem.W.codeIn K cd_whole_size "whole_size" = true)
    (k_whole_size : PySem.W.keepIn K (.ref f_whole_size) = true)
    (a_all_numbers : PySem.W.nsIn K mainGlobals "all_numbers" = some (some (.ref f_all_numbers)))
    (l_all_numbers : K.lookup f_all_numbers = some ⟨oc_all_numbers, od_all_numbers, .func (PySem.W.fnOf "all_numbers" "all_numbers" (defArgs s_all_numbers) (defBody s_all_numbers) (defScope s_all_numbers) .none kV_all_numbers dc_all_numbers pm_all_numbers an_all_numbers cd_all_numbers ct_all_numbers), sl_all_numbers⟩)
    (c_all_numbers : PySem.W.codeIn K cd_all_numbers "all_numbers" = true)
    (k_all_numbers : PySem.W.keepIn K (.ref f_all_numbers) = true)
    (a_steps_between : PySem.W.nsIn K mainGlobals "steps_between" = some (some (.ref f_steps_between)))
    (l_steps_between : K.lookup f_steps_between = some ⟨oc_steps_between, od_steps_between, .func (PySem.W.fnOf "steps_between" "steps_between" (defArgs s_steps_between) (defBody s_steps_between) (defScope s_steps_between) .none kV_steps_between dc_steps_between pm_steps_between an_steps_between cd_steps_between ct_steps_between), sl_steps_between⟩)
    (c_steps_between : PySem.W.codeIn K cd_steps_between "steps_between" = true)
    (k_steps_between : PySem.W.keepIn K (.ref f_steps_between) = true)
    (a_read_row : PySem.W.nsIn K mainGlobals "read_row" = some (some (.ref f_read_row)))
    (l_read_row : K.lookup f_read_row = some ⟨oc_read_row, od_read_row, .func (PySem.W.fnOf "read_row" "read_row" (defArgs s_read_row) (defBody s_read_row) (defScope s_read_row) .none kV_read_row dc_read_row pm_read_row an_read_row cd_read_row ct_read_row), sl_read_row⟩)
    (c_read_row : PySem.W.codeIn K cd_read_row "read_row" = true)
    (k_read_row : PySem.W.keepIn K (.ref f_read_row) = true)
    (a_read_items : PySem.W.nsIn K mainGlobals "read_items" = some (some (.ref f_read_items)))
    (l_read_items : K.lookup f_read_items = some ⟨oc_read_items, od_read_items, .func (PySem.W.fnOf "read_items" "read_items" (defArgs s_read_items) (defBody s_read_items) (defScope s_read_items) .none kV_read_items dc_read_items pm_read_items an_read_items cd_read_items ct_read_items), sl_read_items⟩)
    (c_read_items : PySem.W.codeIn K cd_read_items "read_items" = true)
    (k_read_items : PySem.W.keepIn K (.ref f_read_items) = true)
    (a_read_item : PySem.W.nsIn K mainGlobals "read_item" = some (some (.ref f_read_item)))
    (l_read_item : K.lookup f_read_item = some ⟨oc_read_item, od_read_item, .func (PySem.W.fnOf "read_item" "read_item" (defArgs s_read_item) (defBody s_read_item) (defScope s_read_item) .none kV_read_item dc_read_item pm_read_item an_read_item cd_read_item ct_read_item), sl_read_item⟩)
    (c_read_item : PySem.W.codeIn K cd_read_item "read_item" = true)
    (k_read_item : PySem.W.keepIn K (.ref f_read_item) = true)
    (a_read_times : PySem.W.nsIn K mainGlobals "read_times" = some (some (.ref f_read_times)))
    (l_read_times : K.lookup f_read_times = some ⟨oc_read_times, od_read_times, .func (PySem.W.fnOf "read_times" "read_times" (defArgs s_read_times) (defBody s_read_times) (defScope s_read_times) .none kV_read_times dc_read_times pm_read_times an_read_times cd_read_times ct_read_times), sl_read_times⟩)
    (c_read_times : PySem.W.codeIn K cd_read_times "read_times" = true)
    (k_read_times : PySem.W.keepIn K (.ref f_read_times) = true)
    (a_read_path : PySem.W.nsIn K mainGlobals "read_path" = some (some (.ref f_read_path)))
    (l_read_path : K.lookup f_read_path = some ⟨oc_read_path, od_read_path, .func (PySem.W.fnOf "read_path" "read_path" (defArgs s_read_path) (defBody s_read_path) (defScope s_read_path) .none kV_read_path dc_read_path pm_read_path an_read_path cd_read_path ct_read_path), sl_read_path⟩)
    (c_read_path : PySem.W.codeIn K cd_read_path "read_path" = true)
    (k_read_path : PySem.W.keepIn K (.ref f_read_path) = true)
    (a_read_number : PySem.W.nsIn K mainGlobals "read_number" = some (some (.ref f_read_number)))
    (l_read_number : K.lookup f_read_number = some ⟨oc_read_number, od_read_number, .func (PySem.W.fnOf "read_number" "read_number" (defArgs s_read_number) (defBody s_read_number) (defScope s_read_number) .none kV_read_number dc_read_number pm_read_number an_read_number cd_read_number ct_read_number), sl_read_number⟩)
    (c_read_number : PySem.W.codeIn K cd_read_number "read_number" = true)
    (k_read_number : PySem.W.keepIn K (.ref f_read_number) = true)
    (a_read_draft : PySem.W.nsIn K mainGlobals "read_draft" = some (some (.ref f_read_draft)))
    (l_read_draft : K.lookup f_read_draft = some ⟨oc_read_draft, od_read_draft, .func (PySem.W.fnOf "read_draft" "read_draft" (defArgs s_read_draft) (defBody s_read_draft) (defScope s_read_draft) .none kV_read_draft dc_read_draft pm_read_draft an_read_draft cd_read_draft ct_read_draft), sl_read_draft⟩)
    (c_read_draft : PySem.W.codeIn K cd_read_draft "read_draft" = true)
    (k_read_draft : PySem.W.keepIn K (.ref f_read_draft) = true)
    (a_law_numbers : PySem.W.nsIn K mainGlobals "_law_numbers" = some (some (.ref f_law_numbers)))
    (l_law_numbers : K.lookup f_law_numbers = some ⟨oc_law_numbers, od_law_numbers, .func (PySem.W.fnOf "_law_numbers" "_law_numbers" (defArgs s_law_numbers) (defBody s_law_numbers) (defScope s_law_numbers) .none kV_law_numbers dc_law_numbers pm_law_numbers an_law_numbers cd_law_numbers ct_law_numbers), sl_law_numbers⟩)
    (c_law_numbers : PySem.W.codeIn K cd_law_numbers "_law_numbers" = true)
    (k_law_numbers : PySem.W.keepIn K (.ref f_law_numbers) = true)
    (a_law_subset : PySem.W.nsIn K mainGlobals "_law_subset" = some (some (.ref f_law_subset)))
    (l_law_subset : K.lookup f_law_subset = some ⟨oc_law_subset, od_law_subset, .func (PySem.W.fnOf "_law_subset" "_law_subset" (defArgs s_law_subset) (defBody s_law_subset) (defScope s_law_subset) .none kV_law_subset dc_law_subset pm_law_subset an_law_subset cd_law_subset ct_law_subset), sl_law_subset⟩)
    (c_law_subset : PySem.W.codeIn K cd_law_subset "_law_subset" = true)
    (k_law_subset : PySem.W.keepIn K (.ref f_law_subset) = true)
    (a_law_numbers_same : PySem.W.nsIn K mainGlobals "_law_numbers_same" = some (some (.ref f_law_numbers_same)))
    (l_law_numbers_same : K.lookup f_law_numbers_same = some ⟨oc_law_numbers_same, od_law_numbers_same, .func (PySem.W.fnOf "_law_numbers_same" "_law_numbers_same" (defArgs s_law_numbers_same) (defBody s_law_numbers_same) (defScope s_law_numbers_same) .none kV_law_numbers_same dc_law_numbers_same pm_law_numbers_same an_law_numbers_same cd_law_numbers_same ct_law_numbers_same), sl_law_numbers_same⟩)
    (c_law_numbers_same : PySem.W.codeIn K cd_law_numbers_same "_law_numbers_same" = true)
    (k_law_numbers_same : PySem.W.keepIn K (.ref f_law_numbers_same) = true)
    (a_law_draft_same : PySem.W.nsIn K mainGlobals "_law_draft_same" = some (some (.ref f_law_draft_same)))
    (l_law_draft_same : K.lookup f_law_draft_same = some ⟨oc_law_draft_same, od_law_draft_same, .func (PySem.W.fnOf "_law_draft_same" "_law_draft_same" (defArgs s_law_draft_same) (defBody s_law_draft_same) (defScope s_law_draft_same) .none kV_law_draft_same dc_law_draft_same pm_law_draft_same an_law_draft_same cd_law_draft_same ct_law_draft_same), sl_law_draft_same⟩)
    (c_law_draft_same : PySem.W.codeIn K cd_law_draft_same "_law_draft_same" = true)
    (k_law_draft_same : PySem.W.keepIn K (.ref f_law_draft_same) = true)
    (a_law_written : PySem.W.nsIn K mainGlobals "_law_written" = some (some (.ref f_law_written)))
    (l_law_written : K.lookup f_law_written = some ⟨oc_law_written, od_law_written, .func (PySem.W.fnOf "_law_written" "_law_written" (defArgs s_law_written) (defBody s_law_written) (defScope s_law_written) .none kV_law_written dc_law_written pm_law_written an_law_written cd_law_written ct_law_written), sl_law_written⟩)
    (c_law_written : PySem.W.codeIn K cd_law_written "_law_written" = true)
    (k_law_written : PySem.W.keepIn K (.ref f_law_written) = true)
    (a_law_exchanged : PySem.W.nsIn K mainGlobals "_law_exchanged" = some (some (.ref f_law_exchanged)))
    (l_law_exchanged : K.lookup f_law_exchanged = some ⟨oc_law_exchanged, od_law_exchanged, .func (PySem.W.fnOf "_law_exchanged" "_law_exchanged" (defArgs s_law_exchanged) (defBody s_law_exchanged) (defScope s_law_exchanged) .none kV_law_exchanged dc_law_exchanged pm_law_exchanged an_law_exchanged cd_law_exchanged ct_law_exchanged), sl_law_exchanged⟩)
    (c_law_exchanged : PySem.W.codeIn K cd_law_exchanged "_law_exchanged" = true)
    (k_law_exchanged : PySem.W.keepIn K (.ref f_law_exchanged) = true)
    (a_law_rows_by : PySem.W.nsIn K mainGlobals "_law_rows_by" = some (some (.ref f_law_rows_by)))
    (l_law_rows_by : K.lookup f_law_rows_by = some ⟨oc_law_rows_by, od_law_rows_by, .func (PySem.W.fnOf "_law_rows_by" "_law_rows_by" (defArgs s_law_rows_by) (defBody s_law_rows_by) (defScope s_law_rows_by) .none kV_law_rows_by dc_law_rows_by pm_law_rows_by an_law_rows_by cd_law_rows_by ct_law_rows_by), sl_law_rows_by⟩)
    (c_law_rows_by : PySem.W.codeIn K cd_law_rows_by "_law_rows_by" = true)
    (k_law_rows_by : PySem.W.keepIn K (.ref f_law_rows_by) = true)
    (a_law_fits : PySem.W.nsIn K mainGlobals "_law_fits" = some (some (.ref f_law_fits)))
    (l_law_fits : K.lookup f_law_fits = some ⟨oc_law_fits, od_law_fits, .func (PySem.W.fnOf "_law_fits" "_law_fits" (defArgs s_law_fits) (defBody s_law_fits) (defScope s_law_fits) .none kV_law_fits dc_law_fits pm_law_fits an_law_fits cd_law_fits ct_law_fits), sl_law_fits⟩)
    (c_law_fits : PySem.W.codeIn K cd_law_fits "_law_fits" = true)
    (k_law_fits : PySem.W.keepIn K (.ref f_law_fits) = true)
    (a_law_due : PySem.W.nsIn K mainGlobals "_law_due" = some (some (.ref f_law_due)))
    (l_law_due : K.lookup f_law_due = some ⟨oc_law_due, od_law_due, .func (PySem.W.fnOf "_law_due" "_law_due" (defArgs s_law_due) (defBody s_law_due) (defScope s_law_due) .none kV_law_due dc_law_due pm_law_due an_law_due cd_law_due ct_law_due), sl_law_due⟩)
    (c_law_due : PySem.W.codeIn K cd_law_due "_law_due" = true)
    (k_law_due : PySem.W.keepIn K (.ref f_law_due) = true)
    (a_law_caught : PySem.W.nsIn K mainGlobals "_law_caught" = some (some (.ref f_law_caught)))
    (l_law_caught : K.lookup f_law_caught = some ⟨oc_law_caught, od_law_caught, .func (PySem.W.fnOf "_law_caught" "_law_caught" (defArgs s_law_caught) (defBody s_law_caught) (defScope s_law_caught) .none kV_law_caught dc_law_caught pm_law_caught an_law_caught cd_law_caught ct_law_caught), sl_law_caught⟩)
    (c_law_caught : PySem.W.codeIn K cd_law_caught "_law_caught" = true)
    (k_law_caught : PySem.W.keepIn K (.ref f_law_caught) = true)
    (a_law_refused : PySem.W.nsIn K mainGlobals "_law_refused" = some (some (.ref f_law_refused)))
    (l_law_refused : K.lookup f_law_refused = some ⟨oc_law_refused, od_law_refused, .func (PySem.W.fnOf "_law_refused" "_law_refused" (defArgs s_law_refused) (defBody s_law_refused) (defScope s_law_refused) .none kV_law_refused dc_law_refused pm_law_refused an_law_refused cd_law_refused ct_law_refused), sl_law_refused⟩)
    (c_law_refused : PySem.W.codeIn K cd_law_refused "_law_refused" = true)
    (k_law_refused : PySem.W.keepIn K (.ref f_law_refused) = true)
    (a_law : PySem.W.nsIn K mainGlobals "law" = some (some (.ref f_law)))
    (l_law : K.lookup f_law = some ⟨oc_law, od_law, .func (PySem.W.fnOf "law" "law" (defArgs s_law) (defBody s_law) (defScope s_law) .none kV_law dc_law pm_law an_law cd_law ct_law), sl_law⟩)
    (c_law : PySem.W.codeIn K cd_law "law" = true)
    (k_law : PySem.W.keepIn K (.ref f_law) = true)
    (z_ValueError : PySem.W.nsIn K mainGlobals "ValueError" = some none)
    (z_abs : PySem.W.nsIn K mainGlobals "abs" = some none)
    (z_bool : PySem.W.nsIn K mainGlobals "bool" = some none)
    (z_int : PySem.W.nsIn K mainGlobals "int" = some none)
    (z_isinstance : PySem.W.nsIn K mainGlobals "isinstance" = some none)
    (z_len : PySem.W.nsIn K mainGlobals "len" = some none)
    (z_list : PySem.W.nsIn K mainGlobals "list" = some none)
    (z_range : PySem.W.nsIn K mainGlobals "range" = some none)
    (z_str : PySem.W.nsIn K mainGlobals "str" = some none)
    (z_sum : PySem.W.nsIn K mainGlobals "sum" = some none)
    (x_MOST_STRANDS : PySem.W.nsIn K mainGlobals "MOST_STRANDS" = some (some (.int 40 q_MOST_STRANDS)))
    (x_MOST_SHAFTS : PySem.W.nsIn K mainGlobals "MOST_SHAFTS" = some (some (.int 40 q_MOST_SHAFTS)))
    (x_FIGURES : PySem.W.nsIn K mainGlobals "FIGURES" = some (some (.str "0123456789" q_FIGURES)))
    (x_MOST_NUMBERS : PySem.W.nsIn K mainGlobals "MOST_NUMBERS" = some (some (.int 400 q_MOST_NUMBERS)))
    (x_MOST_DEEP : PySem.W.nsIn K mainGlobals "MOST_DEEP" = some (some (.int 8 q_MOST_DEEP)))
    (x_BETWEEN_PARTS : PySem.W.nsIn K mainGlobals "BETWEEN_PARTS" = some (some (.str " / " q_BETWEEN_PARTS)))
    (x_BETWEEN_TIES : PySem.W.nsIn K mainGlobals "BETWEEN_TIES" = some (some (.str ", " q_BETWEEN_TIES)))
    (n_WeaveError : PySem.W.nsIn K mainGlobals "WeaveError" = some (some (.ref e_WeaveError)))
    (n_NoRow : PySem.W.nsIn K mainGlobals "NoRow" = some (some (.ref e_NoRow)))
    (n_TooLarge : PySem.W.nsIn K mainGlobals "TooLarge" = some (some (.ref e_TooLarge)))
    (n_NoDraft : PySem.W.nsIn K mainGlobals "NoDraft" = some (some (.ref e_NoDraft)))
    (y1_WeaveError : PySem.W.excIn K e_WeaveError vE vN = true)
    (y2_WeaveError : PySem.W.findIn K (.ref e_WeaveError) "__getattribute__" = some (some (.builtin "BaseException.__getattribute__")))
    (y3_WeaveError : PySem.W.findIn K (.ref e_WeaveError) "__getattr__" = some none)
    (y4_WeaveError : PySem.W.findIn K (.ref e_WeaveError) "__class__" = some (some (.builtin "object.__class__")))
    (y5_WeaveError : PySem.W.specialIn K (.builtin "object.__class__") "__get__" = some (some (.builtin "getset_descriptor.__get__")))
    (y6_WeaveError : PySem.W.takesIn K (.builtin "object.__class__") = some true)
    (y7_WeaveError : PySem.W.mroIn K e_WeaveError (.type "object") = some true)
    (y8_WeaveError : PySem.W.mroIn K e_WeaveError (.type "BaseException") = some true)
    (y9_WeaveError : PySem.W.isClsIn K e_WeaveError = true)
    (y10_WeaveError : PySem.W.typeIn K (.ref e_WeaveError) = some (.type "type"))
    (y11_WeaveError : PySem.W.mroIn K e_WeaveError (.type "ValueError") = some true)
    (r_WeaveError_WeaveError : PySem.W.mroIn K e_WeaveError (.ref e_WeaveError) = some true)
    (r_WeaveError_NoRow : PySem.W.mroIn K e_WeaveError (.ref e_NoRow) = some false)
    (r_WeaveError_TooLarge : PySem.W.mroIn K e_WeaveError (.ref e_TooLarge) = some false)
    (r_WeaveError_NoDraft : PySem.W.mroIn K e_WeaveError (.ref e_NoDraft) = some false)
    (y1_NoRow : PySem.W.excIn K e_NoRow vE vN = true)
    (y2_NoRow : PySem.W.findIn K (.ref e_NoRow) "__getattribute__" = some (some (.builtin "BaseException.__getattribute__")))
    (y3_NoRow : PySem.W.findIn K (.ref e_NoRow) "__getattr__" = some none)
    (y4_NoRow : PySem.W.findIn K (.ref e_NoRow) "__class__" = some (some (.builtin "object.__class__")))
    (y7_NoRow : PySem.W.mroIn K e_NoRow (.type "object") = some true)
    (y8_NoRow : PySem.W.mroIn K e_NoRow (.type "BaseException") = some true)
    (y9_NoRow : PySem.W.isClsIn K e_NoRow = true)
    (y10_NoRow : PySem.W.typeIn K (.ref e_NoRow) = some (.type "type"))
    (y11_NoRow : PySem.W.mroIn K e_NoRow (.type "ValueError") = some true)
    (r_NoRow_WeaveError : PySem.W.mroIn K e_NoRow (.ref e_WeaveError) = some true)
    (r_NoRow_NoRow : PySem.W.mroIn K e_NoRow (.ref e_NoRow) = some true)
    (r_NoRow_TooLarge : PySem.W.mroIn K e_NoRow (.ref e_TooLarge) = some false)
    (r_NoRow_NoDraft : PySem.W.mroIn K e_NoRow (.ref e_NoDraft) = some false)
    (y1_TooLarge : PySem.W.excIn K e_TooLarge vE vN = true)
    (y2_TooLarge : PySem.W.findIn K (.ref e_TooLarge) "__getattribute__" = some (some (.builtin "BaseException.__getattribute__")))
    (y3_TooLarge : PySem.W.findIn K (.ref e_TooLarge) "__getattr__" = some none)
    (y4_TooLarge : PySem.W.findIn K (.ref e_TooLarge) "__class__" = some (some (.builtin "object.__class__")))
    (y7_TooLarge : PySem.W.mroIn K e_TooLarge (.type "object") = some true)
    (y8_TooLarge : PySem.W.mroIn K e_TooLarge (.type "BaseException") = some true)
    (y9_TooLarge : PySem.W.isClsIn K e_TooLarge = true)
    (y10_TooLarge : PySem.W.typeIn K (.ref e_TooLarge) = some (.type "type"))
    (y11_TooLarge : PySem.W.mroIn K e_TooLarge (.type "ValueError") = some true)
    (r_TooLarge_WeaveError : PySem.W.mroIn K e_TooLarge (.ref e_WeaveError) = some true)
    (r_TooLarge_NoRow : PySem.W.mroIn K e_TooLarge (.ref e_NoRow) = some false)
    (r_TooLarge_TooLarge : PySem.W.mroIn K e_TooLarge (.ref e_TooLarge) = some true)
    (r_TooLarge_NoDraft : PySem.W.mroIn K e_TooLarge (.ref e_NoDraft) = some false)
    (y1_NoDraft : PySem.W.excIn K e_NoDraft vE vN = true)
    (y2_NoDraft : PySem.W.findIn K (.ref e_NoDraft) "__getattribute__" = some (some (.builtin "BaseException.__getattribute__")))
    (y3_NoDraft : PySem.W.findIn K (.ref e_NoDraft) "__getattr__" = some none)
    (y4_NoDraft : PySem.W.findIn K (.ref e_NoDraft) "__class__" = some (some (.builtin "object.__class__")))
    (y7_NoDraft : PySem.W.mroIn K e_NoDraft (.type "object") = some true)
    (y8_NoDraft : PySem.W.mroIn K e_NoDraft (.type "BaseException") = some true)
    (y9_NoDraft : PySem.W.isClsIn K e_NoDraft = true)
    (y10_NoDraft : PySem.W.typeIn K (.ref e_NoDraft) = some (.type "type"))
    (y11_NoDraft : PySem.W.mroIn K e_NoDraft (.type "ValueError") = some true)
    (r_NoDraft_WeaveError : PySem.W.mroIn K e_NoDraft (.ref e_WeaveError) = some true)
    (r_NoDraft_NoRow : PySem.W.mroIn K e_NoDraft (.ref e_NoRow) = some false)
    (r_NoDraft_TooLarge : PySem.W.mroIn K e_NoDraft (.ref e_TooLarge) = some false)
    (r_NoDraft_NoDraft : PySem.W.mroIn K e_NoDraft (.ref e_NoDraft) = some true)
    (fm_WeaveError : PySem.W.findIn K (.ref e_WeaveError) "called" = some (some (.ref f_WeaveError_called)))
    (gm_WeaveError : PySem.W.isFn K (.ref f_WeaveError_called) = true)
    (lm_WeaveError : K.lookup f_WeaveError_called = some ⟨oc_WeaveError_called, od_WeaveError_called, .func (PySem.W.fnOf "called" "WeaveError.called" (defArgs s_WeaveError_called) (defBody s_WeaveError_called) (defScope s_WeaveError_called) .none kV_WeaveError_called dc_WeaveError_called pm_WeaveError_called an_WeaveError_called cd_WeaveError_called ct_WeaveError_called), sl_WeaveError_called⟩)
    (cm_WeaveError : PySem.W.codeIn K cd_WeaveError_called "WeaveError.called" = true)
    (km_WeaveError : PySem.W.keepIn K (.ref f_WeaveError_called) = true)
    (fm_NoRow : PySem.W.findIn K (.ref e_NoRow) "called" = some (some (.ref f_NoRow_called)))
    (gm_NoRow : PySem.W.isFn K (.ref f_NoRow_called) = true)
    (lm_NoRow : K.lookup f_NoRow_called = some ⟨oc_NoRow_called, od_NoRow_called, .func (PySem.W.fnOf "called" "NoRow.called" (defArgs s_NoRow_called) (defBody s_NoRow_called) (defScope s_NoRow_called) .none kV_NoRow_called dc_NoRow_called pm_NoRow_called an_NoRow_called cd_NoRow_called ct_NoRow_called), sl_NoRow_called⟩)
    (cm_NoRow : PySem.W.codeIn K cd_NoRow_called "NoRow.called" = true)
    (km_NoRow : PySem.W.keepIn K (.ref f_NoRow_called) = true)
    (fm_TooLarge : PySem.W.findIn K (.ref e_TooLarge) "called" = some (some (.ref f_TooLarge_called)))
    (gm_TooLarge : PySem.W.isFn K (.ref f_TooLarge_called) = true)
    (lm_TooLarge : K.lookup f_TooLarge_called = some ⟨oc_TooLarge_called, od_TooLarge_called, .func (PySem.W.fnOf "called" "TooLarge.called" (defArgs s_TooLarge_called) (defBody s_TooLarge_called) (defScope s_TooLarge_called) .none kV_TooLarge_called dc_TooLarge_called pm_TooLarge_called an_TooLarge_called cd_TooLarge_called ct_TooLarge_called), sl_TooLarge_called⟩)
    (cm_TooLarge : PySem.W.codeIn K cd_TooLarge_called "TooLarge.called" = true)
    (km_TooLarge : PySem.W.keepIn K (.ref f_TooLarge_called) = true)
    (fm_NoDraft : PySem.W.findIn K (.ref e_NoDraft) "called" = some (some (.ref f_NoDraft_called)))
    (gm_NoDraft : PySem.W.isFn K (.ref f_NoDraft_called) = true)
    (lm_NoDraft : K.lookup f_NoDraft_called = some ⟨oc_NoDraft_called, od_NoDraft_called, .func (PySem.W.fnOf "called" "NoDraft.called" (defArgs s_NoDraft_called) (defBody s_NoDraft_called) (defScope s_NoDraft_called) .none kV_NoDraft_called dc_NoDraft_called pm_NoDraft_called an_NoDraft_called cd_NoDraft_called ct_NoDraft_called), sl_NoDraft_called⟩)
    (cm_NoDraft : PySem.W.codeIn K cd_NoDraft_called "NoDraft.called" = true)
    (km_NoDraft : PySem.W.keepIn K (.ref f_NoDraft_called) = true)
    (n_Draft : PySem.W.nsIn K mainGlobals "Draft" = some (some (.ref e_Draft)))
    (n_Reader : PySem.W.nsIn K mainGlobals "Reader" = some (some (.ref e_Reader)))
    (n_Path : PySem.W.nsIn K mainGlobals "Path" = some (some (.ref e_Path)))
    (n_Times : PySem.W.nsIn K mainGlobals "Times" = some (some (.ref e_Times)))
    (fm_Draft___init__ : PySem.W.findIn K (.ref e_Draft) "__init__" = some (some (.ref f_Draft___init__)))
    (gm_Draft___init__ : PySem.W.isFn K (.ref f_Draft___init__) = true)
    (lm_Draft___init__ : K.lookup f_Draft___init__ = some ⟨oc_Draft___init__, od_Draft___init__, .func (PySem.W.fnOf "__init__" "Draft.__init__" (defArgs s_Draft___init__) (defBody s_Draft___init__) (defScope s_Draft___init__) .none kV_Draft___init__ dc_Draft___init__ pm_Draft___init__ an_Draft___init__ cd_Draft___init__ ct_Draft___init__), sl_Draft___init__⟩)
    (cm_Draft___init__ : PySem.W.codeIn K cd_Draft___init__ "Draft.__init__" = true)
    (km_Draft___init__ : PySem.W.keepIn K (.ref f_Draft___init__) = true)
    (fm_Reader___init__ : PySem.W.findIn K (.ref e_Reader) "__init__" = some (some (.ref f_Reader___init__)))
    (gm_Reader___init__ : PySem.W.isFn K (.ref f_Reader___init__) = true)
    (lm_Reader___init__ : K.lookup f_Reader___init__ = some ⟨oc_Reader___init__, od_Reader___init__, .func (PySem.W.fnOf "__init__" "Reader.__init__" (defArgs s_Reader___init__) (defBody s_Reader___init__) (defScope s_Reader___init__) .none kV_Reader___init__ dc_Reader___init__ pm_Reader___init__ an_Reader___init__ cd_Reader___init__ ct_Reader___init__), sl_Reader___init__⟩)
    (cm_Reader___init__ : PySem.W.codeIn K cd_Reader___init__ "Reader.__init__" = true)
    (km_Reader___init__ : PySem.W.keepIn K (.ref f_Reader___init__) = true)
    (fm_Reader_ended : PySem.W.findIn K (.ref e_Reader) "ended" = some (some (.ref f_Reader_ended)))
    (gm_Reader_ended : PySem.W.isFn K (.ref f_Reader_ended) = true)
    (lm_Reader_ended : K.lookup f_Reader_ended = some ⟨oc_Reader_ended, od_Reader_ended, .func (PySem.W.fnOf "ended" "Reader.ended" (defArgs s_Reader_ended) (defBody s_Reader_ended) (defScope s_Reader_ended) .none kV_Reader_ended dc_Reader_ended pm_Reader_ended an_Reader_ended cd_Reader_ended ct_Reader_ended), sl_Reader_ended⟩)
    (cm_Reader_ended : PySem.W.codeIn K cd_Reader_ended "Reader.ended" = true)
    (km_Reader_ended : PySem.W.keepIn K (.ref f_Reader_ended) = true)
    (fm_Reader_took : PySem.W.findIn K (.ref e_Reader) "took" = some (some (.ref f_Reader_took)))
    (gm_Reader_took : PySem.W.isFn K (.ref f_Reader_took) = true)
    (lm_Reader_took : K.lookup f_Reader_took = some ⟨oc_Reader_took, od_Reader_took, .func (PySem.W.fnOf "took" "Reader.took" (defArgs s_Reader_took) (defBody s_Reader_took) (defScope s_Reader_took) .none kV_Reader_took dc_Reader_took pm_Reader_took an_Reader_took cd_Reader_took ct_Reader_took), sl_Reader_took⟩)
    (cm_Reader_took : PySem.W.codeIn K cd_Reader_took "Reader.took" = true)
    (km_Reader_took : PySem.W.keepIn K (.ref f_Reader_took) = true)
    (fm_Reader_stretch : PySem.W.findIn K (.ref e_Reader) "stretch" = some (some (.ref f_Reader_stretch)))
    (gm_Reader_stretch : PySem.W.isFn K (.ref f_Reader_stretch) = true)
    (lm_Reader_stretch : K.lookup f_Reader_stretch = some ⟨oc_Reader_stretch, od_Reader_stretch, .func (PySem.W.fnOf "stretch" "Reader.stretch" (defArgs s_Reader_stretch) (defBody s_Reader_stretch) (defScope s_Reader_stretch) .none kV_Reader_stretch dc_Reader_stretch pm_Reader_stretch an_Reader_stretch cd_Reader_stretch ct_Reader_stretch), sl_Reader_stretch⟩)
    (cm_Reader_stretch : PySem.W.codeIn K cd_Reader_stretch "Reader.stretch" = true)
    (km_Reader_stretch : PySem.W.keepIn K (.ref f_Reader_stretch) = true)
    (fm_Reader_number : PySem.W.findIn K (.ref e_Reader) "number" = some (some (.ref f_Reader_number)))
    (gm_Reader_number : PySem.W.isFn K (.ref f_Reader_number) = true)
    (lm_Reader_number : K.lookup f_Reader_number = some ⟨oc_Reader_number, od_Reader_number, .func (PySem.W.fnOf "number" "Reader.number" (defArgs s_Reader_number) (defBody s_Reader_number) (defScope s_Reader_number) .none kV_Reader_number dc_Reader_number pm_Reader_number an_Reader_number cd_Reader_number ct_Reader_number), sl_Reader_number⟩)
    (cm_Reader_number : PySem.W.codeIn K cd_Reader_number "Reader.number" = true)
    (km_Reader_number : PySem.W.keepIn K (.ref f_Reader_number) = true)
    (fm_Path___init__ : PySem.W.findIn K (.ref e_Path) "__init__" = some (some (.ref f_Path___init__)))
    (gm_Path___init__ : PySem.W.isFn K (.ref f_Path___init__) = true)
    (lm_Path___init__ : K.lookup f_Path___init__ = some ⟨oc_Path___init__, od_Path___init__, .func (PySem.W.fnOf "__init__" "Path.__init__" (defArgs s_Path___init__) (defBody s_Path___init__) (defScope s_Path___init__) .none kV_Path___init__ dc_Path___init__ pm_Path___init__ an_Path___init__ cd_Path___init__ ct_Path___init__), sl_Path___init__⟩)
    (cm_Path___init__ : PySem.W.codeIn K cd_Path___init__ "Path.__init__" = true)
    (km_Path___init__ : PySem.W.keepIn K (.ref f_Path___init__) = true)
    (fm_Path_size : PySem.W.findIn K (.ref e_Path) "size" = some (some (.ref f_Path_size)))
    (gm_Path_size : PySem.W.isFn K (.ref f_Path_size) = true)
    (lm_Path_size : K.lookup f_Path_size = some ⟨oc_Path_size, od_Path_size, .func (PySem.W.fnOf "size" "Path.size" (defArgs s_Path_size) (defBody s_Path_size) (defScope s_Path_size) .none kV_Path_size dc_Path_size pm_Path_size an_Path_size cd_Path_size ct_Path_size), sl_Path_size⟩)
    (cm_Path_size : PySem.W.codeIn K cd_Path_size "Path.size" = true)
    (km_Path_size : PySem.W.keepIn K (.ref f_Path_size) = true)
    (fm_Path_numbers : PySem.W.findIn K (.ref e_Path) "numbers" = some (some (.ref f_Path_numbers)))
    (gm_Path_numbers : PySem.W.isFn K (.ref f_Path_numbers) = true)
    (lm_Path_numbers : K.lookup f_Path_numbers = some ⟨oc_Path_numbers, od_Path_numbers, .func (PySem.W.fnOf "numbers" "Path.numbers" (defArgs s_Path_numbers) (defBody s_Path_numbers) (defScope s_Path_numbers) .none kV_Path_numbers dc_Path_numbers pm_Path_numbers an_Path_numbers cd_Path_numbers ct_Path_numbers), sl_Path_numbers⟩)
    (cm_Path_numbers : PySem.W.codeIn K cd_Path_numbers "Path.numbers" = true)
    (km_Path_numbers : PySem.W.keepIn K (.ref f_Path_numbers) = true)
    (fm_Times___init__ : PySem.W.findIn K (.ref e_Times) "__init__" = some (some (.ref f_Times___init__)))
    (gm_Times___init__ : PySem.W.isFn K (.ref f_Times___init__) = true)
    (lm_Times___init__ : K.lookup f_Times___init__ = some ⟨oc_Times___init__, od_Times___init__, .func (PySem.W.fnOf "__init__" "Times.__init__" (defArgs s_Times___init__) (defBody s_Times___init__) (defScope s_Times___init__) .none kV_Times___init__ dc_Times___init__ pm_Times___init__ an_Times___init__ cd_Times___init__ ct_Times___init__), sl_Times___init__⟩)
    (cm_Times___init__ : PySem.W.codeIn K cd_Times___init__ "Times.__init__" = true)
    (km_Times___init__ : PySem.W.keepIn K (.ref f_Times___init__) = true)
    (fm_Times_size : PySem.W.findIn K (.ref e_Times) "size" = some (some (.ref f_Times_size)))
    (gm_Times_size : PySem.W.isFn K (.ref f_Times_size) = true)
    (lm_Times_size : K.lookup f_Times_size = some ⟨oc_Times_size, od_Times_size, .func (PySem.W.fnOf "size" "Times.size" (defArgs s_Times_size) (defBody s_Times_size) (defScope s_Times_size) .none kV_Times_size dc_Times_size pm_Times_size an_Times_size cd_Times_size ct_Times_size), sl_Times_size⟩)
    (cm_Times_size : PySem.W.codeIn K cd_Times_size "Times.size" = true)
    (km_Times_size : PySem.W.keepIn K (.ref f_Times_size) = true)
    (fm_Times_numbers : PySem.W.findIn K (.ref e_Times) "numbers" = some (some (.ref f_Times_numbers)))
    (gm_Times_numbers : PySem.W.isFn K (.ref f_Times_numbers) = true)
    (lm_Times_numbers : K.lookup f_Times_numbers = some ⟨oc_Times_numbers, od_Times_numbers, .func (PySem.W.fnOf "numbers" "Times.numbers" (defArgs s_Times_numbers) (defBody s_Times_numbers) (defScope s_Times_numbers) .none kV_Times_numbers dc_Times_numbers pm_Times_numbers an_Times_numbers cd_Times_numbers ct_Times_numbers), sl_Times_numbers⟩)
    (cm_Times_numbers : PySem.W.codeIn K cd_Times_numbers "Times.numbers" = true)
    (km_Times_numbers : PySem.W.keepIn K (.ref f_Times_numbers) = true)
    (o1_Draft : PySem.W.plainGet K e_Draft Str.empty = true)
    (o2_Draft : PySem.W.hasDictIn K e_Draft = true)
    (o3_Draft : PySem.W.plainOver K e_Draft = true)
    (o4_Draft : PySem.W.findIn K (.ref e_Draft) "__setattr__" = some (some (.builtin "object.__setattr__")))
    (o5_Draft : PySem.W.makesIn K e_Draft = true)
    (o8_Draft : PySem.W.keepIn K (.ref e_Draft) = true)
    (na_Draft_threading : PySem.W.findIn K (.ref e_Draft) "threading" = some none)
    (na_Draft_ties : PySem.W.findIn K (.ref e_Draft) "ties" = some none)
    (na_Draft_treading : PySem.W.findIn K (.ref e_Draft) "treading" = some none)
    (o1_Reader : PySem.W.plainGet K e_Reader Str.empty = true)
    (o2_Reader : PySem.W.hasDictIn K e_Reader = true)
    (o3_Reader : PySem.W.plainOver K e_Reader = true)
    (o4_Reader : PySem.W.findIn K (.ref e_Reader) "__setattr__" = some (some (.builtin "object.__setattr__")))
    (o5_Reader : PySem.W.makesIn K e_Reader = true)
    (o8_Reader : PySem.W.keepIn K (.ref e_Reader) = true)
    (na_Reader_text : PySem.W.findIn K (.ref e_Reader) "text" = some none)
    (na_Reader_place : PySem.W.findIn K (.ref e_Reader) "place" = some none)
    (o1_Path : PySem.W.plainGet K e_Path Str.empty = true)
    (o2_Path : PySem.W.hasDictIn K e_Path = true)
    (o3_Path : PySem.W.plainOver K e_Path = true)
    (o4_Path : PySem.W.findIn K (.ref e_Path) "__setattr__" = some (some (.builtin "object.__setattr__")))
    (o5_Path : PySem.W.makesIn K e_Path = true)
    (o8_Path : PySem.W.keepIn K (.ref e_Path) = true)
    (na_Path_stops : PySem.W.findIn K (.ref e_Path) "stops" = some none)
    (o1_Times : PySem.W.plainGet K e_Times Str.empty = true)
    (o2_Times : PySem.W.hasDictIn K e_Times = true)
    (o3_Times : PySem.W.plainOver K e_Times = true)
    (o4_Times : PySem.W.findIn K (.ref e_Times) "__setattr__" = some (some (.builtin "object.__setattr__")))
    (o5_Times : PySem.W.makesIn K e_Times = true)
    (o8_Times : PySem.W.keepIn K (.ref e_Times) = true)
    (na_Times_count : PySem.W.findIn K (.ref e_Times) "count" = some none)
    (na_Times_inner : PySem.W.findIn K (.ref e_Times) "inner" = some none)
    (v1_Draft : PySem.W.findIn K (.ref e_Draft) "__class__" = some (some (.builtin "object.__class__")))
    (v2_Draft : PySem.W.specialIn K (.builtin "object.__class__") "__get__" = some (some (.builtin "getset_descriptor.__get__")))
    (v3_Draft : PySem.W.takesIn K (.builtin "object.__class__") = some true)
    (v4_Draft : PySem.W.mroIn K e_Draft (.type "object") = some true) :
    ∃ fd : FuncData, (∀ (s : Shared) (v : Value), BindsTo s fd ⟨[v], []⟩ [("script", v)]) ∧ ∀ base : Heap, K.In base → base.Ns mainGlobals mg → FnOk P w K mg base CX0 44 fa fd ["script"] (sp_law K) := by
  have T : Txt K mg ⟨e_Draft, e_Reader, e_Path, e_Times, f_Draft___init__, PySem.W.fnOf "__init__" "Draft.__init__" (defArgs s_Draft___init__) (defBody s_Draft___init__) (defScope s_Draft___init__) .none kV_Draft___init__ dc_Draft___init__ pm_Draft___init__ an_Draft___init__ cd_Draft___init__ ct_Draft___init__, f_Reader___init__, PySem.W.fnOf "__init__" "Reader.__init__" (defArgs s_Reader___init__) (defBody s_Reader___init__) (defScope s_Reader___init__) .none kV_Reader___init__ dc_Reader___init__ pm_Reader___init__ an_Reader___init__ cd_Reader___init__ ct_Reader___init__, f_Reader_ended, PySem.W.fnOf "ended" "Reader.ended" (defArgs s_Reader_ended) (defBody s_Reader_ended) (defScope s_Reader_ended) .none kV_Reader_ended dc_Reader_ended pm_Reader_ended an_Reader_ended cd_Reader_ended ct_Reader_ended, f_Reader_took, PySem.W.fnOf "took" "Reader.took" (defArgs s_Reader_took) (defBody s_Reader_took) (defScope s_Reader_took) .none kV_Reader_took dc_Reader_took pm_Reader_took an_Reader_took cd_Reader_took ct_Reader_took, f_Reader_stretch, PySem.W.fnOf "stretch" "Reader.stretch" (defArgs s_Reader_stretch) (defBody s_Reader_stretch) (defScope s_Reader_stretch) .none kV_Reader_stretch dc_Reader_stretch pm_Reader_stretch an_Reader_stretch cd_Reader_stretch ct_Reader_stretch, f_Reader_number, PySem.W.fnOf "number" "Reader.number" (defArgs s_Reader_number) (defBody s_Reader_number) (defScope s_Reader_number) .none kV_Reader_number dc_Reader_number pm_Reader_number an_Reader_number cd_Reader_number ct_Reader_number, f_Path___init__, PySem.W.fnOf "__init__" "Path.__init__" (defArgs s_Path___init__) (defBody s_Path___init__) (defScope s_Path___init__) .none kV_Path___init__ dc_Path___init__ pm_Path___init__ an_Path___init__ cd_Path___init__ ct_Path___init__, f_Path_size, PySem.W.fnOf "size" "Path.size" (defArgs s_Path_size) (defBody s_Path_size) (defScope s_Path_size) .none kV_Path_size dc_Path_size pm_Path_size an_Path_size cd_Path_size ct_Path_size, f_Path_numbers, PySem.W.fnOf "numbers" "Path.numbers" (defArgs s_Path_numbers) (defBody s_Path_numbers) (defScope s_Path_numbers) .none kV_Path_numbers dc_Path_numbers pm_Path_numbers an_Path_numbers cd_Path_numbers ct_Path_numbers, f_Times___init__, PySem.W.fnOf "__init__" "Times.__init__" (defArgs s_Times___init__) (defBody s_Times___init__) (defScope s_Times___init__) .none kV_Times___init__ dc_Times___init__ pm_Times___init__ an_Times___init__ cd_Times___init__ ct_Times___init__, f_Times_size, PySem.W.fnOf "size" "Times.size" (defArgs s_Times_size) (defBody s_Times_size) (defScope s_Times_size) .none kV_Times_size dc_Times_size pm_Times_size an_Times_size cd_Times_size ct_Times_size, f_Times_numbers, PySem.W.fnOf "numbers" "Times.numbers" (defArgs s_Times_numbers) (defBody s_Times_numbers) (defScope s_Times_numbers) .none kV_Times_numbers dc_Times_numbers pm_Times_numbers an_Times_numbers cd_Times_numbers ct_Times_numbers, f_check_setting, PySem.W.fnOf "check_setting" "check_setting" (defArgs s_check_setting) (defBody s_check_setting) (defScope s_check_setting) .none kV_check_setting dc_check_setting pm_check_setting an_check_setting cd_check_setting ct_check_setting, f_check_count, PySem.W.fnOf "check_count" "check_count" (defArgs s_check_count) (defBody s_check_count) (defScope s_check_count) .none kV_check_count dc_check_count pm_check_count an_check_count cd_check_count ct_check_count, f_check_shaft, PySem.W.fnOf "check_shaft" "check_shaft" (defArgs s_check_shaft) (defBody s_check_shaft) (defScope s_check_shaft) .none kV_check_shaft dc_check_shaft pm_check_shaft an_check_shaft cd_check_shaft ct_check_shaft, f_check_tie, PySem.W.fnOf "check_tie" "check_tie" (defArgs s_check_tie) (defBody s_check_tie) (defScope s_check_tie) .none kV_check_tie dc_check_tie pm_check_tie an_check_tie cd_check_tie ct_check_tie, f_check_treading, PySem.W.fnOf "check_treading" "check_treading" (defArgs s_check_treading) (defBody s_check_treading) (defScope s_check_treading) .none kV_check_treading dc_check_treading pm_check_treading an_check_treading cd_check_treading ct_check_treading, f_number_of, PySem.W.fnOf "number_of" "number_of" (defArgs s_number_of) (defBody s_number_of) (defScope s_number_of) .none kV_number_of dc_number_of pm_number_of an_number_of cd_number_of ct_number_of, f_unfolded, PySem.W.fnOf "unfolded" "unfolded" (defArgs s_unfolded) (defBody s_unfolded) (defScope s_unfolded) .none kV_unfolded dc_unfolded pm_unfolded an_unfolded cd_unfolded ct_unfolded, f_whole_size, PySem.W.fnOf "whole_size" "whole_size" (defArgs s_whole_size) (defBody s_whole_size) (defScope s_whole_size) .none kV_whole_size dc_whole_size pm_whole_size an_whole_size cd_whole_size ct_whole_size, f_all_numbers, PySem.W.fnOf "all_numbers" "all_numbers" (defArgs s_all_numbers) (defBody s_all_numbers) (defScope s_all_numbers) .none kV_all_numbers dc_all_numbers pm_all_numbers an_all_numbers cd_all_numbers ct_all_numbers, f_steps_between, PySem.W.fnOf "steps_between" "steps_between" (defArgs s_steps_between) (defBody s_steps_between) (defScope s_steps_between) .none kV_steps_between dc_steps_between pm_steps_between an_steps_between cd_steps_between ct_steps_between, f_read_row, PySem.W.fnOf "read_row" "read_row" (defArgs s_read_row) (defBody s_read_row) (defScope s_read_row) .none kV_read_row dc_read_row pm_read_row an_read_row cd_read_row ct_read_row, f_read_items, PySem.W.fnOf "read_items" "read_items" (defArgs s_read_items) (defBody s_read_items) (defScope s_read_items) .none kV_read_items dc_read_items pm_read_items an_read_items cd_read_items ct_read_items, f_read_item, PySem.W.fnOf "read_item" "read_item" (defArgs s_read_item) (defBody s_read_item) (defScope s_read_item) .none kV_read_item dc_read_item pm_read_item an_read_item cd_read_item ct_read_item, f_read_times, PySem.W.fnOf "read_times" "read_times" (defArgs s_read_times) (defBody s_read_times) (defScope s_read_times) .none kV_read_times dc_read_times pm_read_times an_read_times cd_read_times ct_read_times, f_read_path, PySem.W.fnOf "read_path" "read_path" (defArgs s_read_path) (defBody s_read_path) (defScope s_read_path) .none kV_read_path dc_read_path pm_read_path an_read_path cd_read_path ct_read_path, f_read_number, PySem.W.fnOf "read_number" "read_number" (defArgs s_read_number) (defBody s_read_number) (defScope s_read_number) .none kV_read_number dc_read_number pm_read_number an_read_number cd_read_number ct_read_number, f_read_draft, PySem.W.fnOf "read_draft" "read_draft" (defArgs s_read_draft) (defBody s_read_draft) (defScope s_read_draft) .none kV_read_draft dc_read_draft pm_read_draft an_read_draft cd_read_draft ct_read_draft, f_law_numbers, PySem.W.fnOf "_law_numbers" "_law_numbers" (defArgs s_law_numbers) (defBody s_law_numbers) (defScope s_law_numbers) .none kV_law_numbers dc_law_numbers pm_law_numbers an_law_numbers cd_law_numbers ct_law_numbers, f_law_subset, PySem.W.fnOf "_law_subset" "_law_subset" (defArgs s_law_subset) (defBody s_law_subset) (defScope s_law_subset) .none kV_law_subset dc_law_subset pm_law_subset an_law_subset cd_law_subset ct_law_subset, f_law_numbers_same, PySem.W.fnOf "_law_numbers_same" "_law_numbers_same" (defArgs s_law_numbers_same) (defBody s_law_numbers_same) (defScope s_law_numbers_same) .none kV_law_numbers_same dc_law_numbers_same pm_law_numbers_same an_law_numbers_same cd_law_numbers_same ct_law_numbers_same, f_law_draft_same, PySem.W.fnOf "_law_draft_same" "_law_draft_same" (defArgs s_law_draft_same) (defBody s_law_draft_same) (defScope s_law_draft_same) .none kV_law_draft_same dc_law_draft_same pm_law_draft_same an_law_draft_same cd_law_draft_same ct_law_draft_same, f_law_written, PySem.W.fnOf "_law_written" "_law_written" (defArgs s_law_written) (defBody s_law_written) (defScope s_law_written) .none kV_law_written dc_law_written pm_law_written an_law_written cd_law_written ct_law_written, f_law_exchanged, PySem.W.fnOf "_law_exchanged" "_law_exchanged" (defArgs s_law_exchanged) (defBody s_law_exchanged) (defScope s_law_exchanged) .none kV_law_exchanged dc_law_exchanged pm_law_exchanged an_law_exchanged cd_law_exchanged ct_law_exchanged, f_law_rows_by, PySem.W.fnOf "_law_rows_by" "_law_rows_by" (defArgs s_law_rows_by) (defBody s_law_rows_by) (defScope s_law_rows_by) .none kV_law_rows_by dc_law_rows_by pm_law_rows_by an_law_rows_by cd_law_rows_by ct_law_rows_by, f_law_fits, PySem.W.fnOf "_law_fits" "_law_fits" (defArgs s_law_fits) (defBody s_law_fits) (defScope s_law_fits) .none kV_law_fits dc_law_fits pm_law_fits an_law_fits cd_law_fits ct_law_fits, f_law_due, PySem.W.fnOf "_law_due" "_law_due" (defArgs s_law_due) (defBody s_law_due) (defScope s_law_due) .none kV_law_due dc_law_due pm_law_due an_law_due cd_law_due ct_law_due, f_law_caught, PySem.W.fnOf "_law_caught" "_law_caught" (defArgs s_law_caught) (defBody s_law_caught) (defScope s_law_caught) .none kV_law_caught dc_law_caught pm_law_caught an_law_caught cd_law_caught ct_law_caught, f_law_refused, PySem.W.fnOf "_law_refused" "_law_refused" (defArgs s_law_refused) (defBody s_law_refused) (defScope s_law_refused) .none kV_law_refused dc_law_refused pm_law_refused an_law_refused cd_law_refused ct_law_refused, f_law, PySem.W.fnOf "law" "law" (defArgs s_law) (defBody s_law) (defScope s_law) .none kV_law dc_law pm_law an_law cd_law ct_law, e_WeaveError, f_WeaveError_called, PySem.W.fnOf "called" "WeaveError.called" (defArgs s_WeaveError_called) (defBody s_WeaveError_called) (defScope s_WeaveError_called) .none kV_WeaveError_called dc_WeaveError_called pm_WeaveError_called an_WeaveError_called cd_WeaveError_called ct_WeaveError_called, e_NoRow, f_NoRow_called, PySem.W.fnOf "called" "NoRow.called" (defArgs s_NoRow_called) (defBody s_NoRow_called) (defScope s_NoRow_called) .none kV_NoRow_called dc_NoRow_called pm_NoRow_called an_NoRow_called cd_NoRow_called ct_NoRow_called, e_TooLarge, f_TooLarge_called, PySem.W.fnOf "called" "TooLarge.called" (defArgs s_TooLarge_called) (defBody s_TooLarge_called) (defScope s_TooLarge_called) .none kV_TooLarge_called dc_TooLarge_called pm_TooLarge_called an_TooLarge_called cd_TooLarge_called ct_TooLarge_called, e_NoDraft, f_NoDraft_called, PySem.W.fnOf "called" "NoDraft.called" (defArgs s_NoDraft_called) (defBody s_NoDraft_called) (defScope s_NoDraft_called) .none kV_NoDraft_called dc_NoDraft_called pm_NoDraft_called an_NoDraft_called cd_NoDraft_called ct_NoDraft_called⟩ :=
  ⟨⟨fun_mk (st := s_check_setting) l_check_setting c_check_setting k_check_setting, PySem.W.mg_of X G a_check_setting, (fun_mk (st := s_check_setting) l_check_setting c_check_setting k_check_setting).binds (ps := ["threading", "ties"]) fun _ _ _ _ _ _ us hl => bl2 (fun _ _ => rfl) us hl⟩,
   ⟨fun_mk (st := s_check_count) l_check_count c_check_count k_check_count, PySem.W.mg_of X G a_check_count, (fun_mk (st := s_check_count) l_check_count c_check_count k_check_count).binds (ps := ["count"]) fun _ _ _ _ _ _ us hl => bl1 (fun _ => rfl) us hl⟩,
   ⟨fun_mk (st := s_check_shaft) l_check_shaft c_check_shaft k_check_shaft, PySem.W.mg_of X G a_check_shaft, (fun_mk (st := s_check_shaft) l_check_shaft c_check_shaft k_check_shaft).binds (ps := ["shaft"]) fun _ _ _ _ _ _ us hl => bl1 (fun _ => rfl) us hl⟩,
   ⟨fun_mk (st := s_check_tie) l_check_tie c_check_tie k_check_tie, PySem.W.mg_of X G a_check_tie, (fun_mk (st := s_check_tie) l_check_tie c_check_tie k_check_tie).binds (ps := ["tie"]) fun _ _ _ _ _ _ us hl => bl1 (fun _ => rfl) us hl⟩,
   ⟨fun_mk (st := s_check_treading) l_check_treading c_check_treading k_check_treading, PySem.W.mg_of X G a_check_treading, (fun_mk (st := s_check_treading) l_check_treading c_check_treading k_check_treading).binds (ps := ["treading", "treadles"]) fun _ _ _ _ _ _ us hl => bl2 (fun _ _ => rfl) us hl⟩,
   ⟨fun_mk (st := s_number_of) l_number_of c_number_of k_number_of, PySem.W.mg_of X G a_number_of, (fun_mk (st := s_number_of) l_number_of c_number_of k_number_of).binds (ps := ["figures"]) fun _ _ _ _ _ _ us hl => bl1 (fun _ => rfl) us hl⟩,
   ⟨fun_mk (st := s_unfolded) l_unfolded c_unfolded k_unfolded, PySem.W.mg_of X G a_unfolded, (fun_mk (st := s_unfolded) l_unfolded c_unfolded k_unfolded).binds (ps := ["text"]) fun _ _ _ _ _ _ us hl => bl1 (fun _ => rfl) us hl⟩,
   ⟨fun_mk (st := s_whole_size) l_whole_size c_whole_size k_whole_size, PySem.W.mg_of X G a_whole_size, (fun_mk (st := s_whole_size) l_whole_size c_whole_size k_whole_size).binds (ps := ["row_items"]) fun _ _ _ _ _ _ us hl => bl1 (fun _ => rfl) us hl⟩,
   ⟨fun_mk (st := s_all_numbers) l_all_numbers c_all_numbers k_all_numbers, PySem.W.mg_of X G a_all_numbers, (fun_mk (st := s_all_numbers) l_all_numbers c_all_numbers k_all_numbers).binds (ps := ["row_items"]) fun _ _ _ _ _ _ us hl => bl1 (fun _ => rfl) us hl⟩,
   ⟨fun_mk (st := s_steps_between) l_steps_between c_steps_between k_steps_between, PySem.W.mg_of X G a_steps_between, (fun_mk (st := s_steps_between) l_steps_between c_steps_between k_steps_between).binds (ps := ["start", "stop"]) fun _ _ _ _ _ _ us hl => bl2 (fun _ _ => rfl) us hl⟩,
   ⟨fun_mk (st := s_read_row) l_read_row c_read_row k_read_row, PySem.W.mg_of X G a_read_row, (fun_mk (st := s_read_row) l_read_row c_read_row k_read_row).binds (ps := ["text"]) fun _ _ _ _ _ _ us hl => bl1 (fun _ => rfl) us hl⟩,
   ⟨fun_mk (st := s_read_items) l_read_items c_read_items k_read_items, PySem.W.mg_of X G a_read_items, (fun_mk (st := s_read_items) l_read_items c_read_items k_read_items).binds (ps := ["reader", "depth"]) fun _ _ _ _ _ _ us hl => bl2 (fun _ _ => rfl) us hl⟩,
   ⟨fun_mk (st := s_read_item) l_read_item c_read_item k_read_item, PySem.W.mg_of X G a_read_item, (fun_mk (st := s_read_item) l_read_item c_read_item k_read_item).binds (ps := ["reader", "depth"]) fun _ _ _ _ _ _ us hl => bl2 (fun _ _ => rfl) us hl⟩,
   ⟨fun_mk (st := s_read_times) l_read_times c_read_times k_read_times, PySem.W.mg_of X G a_read_times, (fun_mk (st := s_read_times) l_read_times c_read_times k_read_times).binds (ps := ["reader", "count", "depth"]) fun _ _ _ _ _ _ us hl => bl3 (fun _ _ _ => rfl) us hl⟩,
   ⟨fun_mk (st := s_read_path) l_read_path c_read_path k_read_path, PySem.W.mg_of X G a_read_path, (fun_mk (st := s_read_path) l_read_path c_read_path k_read_path).binds (ps := ["reader", "first"]) fun _ _ _ _ _ _ us hl => bl2 (fun _ _ => rfl) us hl⟩,
   ⟨fun_mk (st := s_read_number) l_read_number c_read_number k_read_number, PySem.W.mg_of X G a_read_number, (fun_mk (st := s_read_number) l_read_number c_read_number k_read_number).binds (ps := ["reader"]) fun _ _ _ _ _ _ us hl => bl1 (fun _ => rfl) us hl⟩,
   ⟨fun_mk (st := s_read_draft) l_read_draft c_read_draft k_read_draft, PySem.W.mg_of X G a_read_draft, (fun_mk (st := s_read_draft) l_read_draft c_read_draft k_read_draft).binds (ps := ["text"]) fun _ _ _ _ _ _ us hl => bl1 (fun _ => rfl) us hl⟩,
   ⟨fun_mk (st := s_law_numbers) l_law_numbers c_law_numbers k_law_numbers, PySem.W.mg_of X G a_law_numbers, (fun_mk (st := s_law_numbers) l_law_numbers c_law_numbers k_law_numbers).binds (ps := ["script", "many"]) fun _ _ _ _ _ _ us hl => bl2 (fun _ _ => rfl) us hl⟩,
   ⟨fun_mk (st := s_law_subset) l_law_subset c_law_subset k_law_subset, PySem.W.mg_of X G a_law_subset, (fun_mk (st := s_law_subset) l_law_subset c_law_subset k_law_subset).binds (ps := ["number"]) fun _ _ _ _ _ _ us hl => bl1 (fun _ => rfl) us hl⟩,
   ⟨fun_mk (st := s_law_numbers_same) l_law_numbers_same c_law_numbers_same k_law_numbers_same, PySem.W.mg_of X G a_law_numbers_same, (fun_mk (st := s_law_numbers_same) l_law_numbers_same c_law_numbers_same k_law_numbers_same).binds (ps := ["found", "due"]) fun _ _ _ _ _ _ us hl => bl2 (fun _ _ => rfl) us hl⟩,
   ⟨fun_mk (st := s_law_draft_same) l_law_draft_same c_law_draft_same k_law_draft_same, PySem.W.mg_of X G a_law_draft_same, (fun_mk (st := s_law_draft_same) l_law_draft_same c_law_draft_same k_law_draft_same).binds (ps := ["draft", "threading", "ties", "treading"]) fun _ _ _ _ _ _ us hl => bl4 (fun _ _ _ _ => rfl) us hl⟩,
   ⟨fun_mk (st := s_law_written) l_law_written c_law_written k_law_written, PySem.W.mg_of X G a_law_written, (fun_mk (st := s_law_written) l_law_written c_law_written k_law_written).binds (ps := ["row"]) fun _ _ _ _ _ _ us hl => bl1 (fun _ => rfl) us hl⟩,
   ⟨fun_mk (st := s_law_exchanged) l_law_exchanged c_law_exchanged k_law_exchanged, PySem.W.mg_of X G a_law_exchanged, (fun_mk (st := s_law_exchanged) l_law_exchanged c_law_exchanged k_law_exchanged).binds (ps := ["row", "number"]) fun _ _ _ _ _ _ us hl => bl2 (fun _ _ => rfl) us hl⟩,
   ⟨fun_mk (st := s_law_rows_by) l_law_rows_by c_law_rows_by k_law_rows_by, PySem.W.mg_of X G a_law_rows_by, (fun_mk (st := s_law_rows_by) l_law_rows_by c_law_rows_by k_law_rows_by).binds (ps := ["numbers"]) fun _ _ _ _ _ _ us hl => bl1 (fun _ => rfl) us hl⟩,
   ⟨fun_mk (st := s_law_fits) l_law_fits c_law_fits k_law_fits, PySem.W.mg_of X G a_law_fits, (fun_mk (st := s_law_fits) l_law_fits c_law_fits k_law_fits).binds (ps := ["threading", "ties", "treading"]) fun _ _ _ _ _ _ us hl => bl3 (fun _ _ _ => rfl) us hl⟩,
   ⟨fun_mk (st := s_law_due) l_law_due c_law_due k_law_due, PySem.W.mg_of X G a_law_due, (fun_mk (st := s_law_due) l_law_due c_law_due k_law_due).binds (ps := ["rows"]) fun _ _ _ _ _ _ us hl => bl1 (fun _ => rfl) us hl⟩,
   ⟨fun_mk (st := s_law_caught) l_law_caught c_law_caught k_law_caught, PySem.W.mg_of X G a_law_caught, (fun_mk (st := s_law_caught) l_law_caught c_law_caught k_law_caught).binds (ps := ["text"]) fun _ _ _ _ _ _ us hl => bl1 (fun _ => rfl) us hl⟩,
   ⟨fun_mk (st := s_law_refused) l_law_refused c_law_refused k_law_refused, PySem.W.mg_of X G a_law_refused, (fun_mk (st := s_law_refused) l_law_refused c_law_refused k_law_refused).binds (ps := ["caught", "word"]) fun _ _ _ _ _ _ us hl => bl2 (fun _ _ => rfl) us hl⟩,
   ⟨fun_mk (st := s_law) l_law c_law k_law, PySem.W.mg_of X G a_law, (fun_mk (st := s_law) l_law c_law k_law).binds (ps := ["script"]) fun _ _ _ _ _ _ us hl => bl1 (fun _ => rfl) us hl⟩,
   PySem.W.mg_none_of X G z_ValueError,
   PySem.W.mg_none_of X G z_abs,
   PySem.W.mg_none_of X G z_bool,
   PySem.W.mg_none_of X G z_int,
   PySem.W.mg_none_of X G z_isinstance,
   PySem.W.mg_none_of X G z_len,
   PySem.W.mg_none_of X G z_list,
   PySem.W.mg_none_of X G z_range,
   PySem.W.mg_none_of X G z_str,
   PySem.W.mg_none_of X G z_sum,
   ⟨_, PySem.W.mg_of X G x_MOST_STRANDS⟩,
   ⟨_, PySem.W.mg_of X G x_MOST_SHAFTS⟩,
   ⟨_, PySem.W.mg_of X G x_FIGURES⟩,
   ⟨_, PySem.W.mg_of X G x_MOST_NUMBERS⟩,
   ⟨_, PySem.W.mg_of X G x_MOST_DEEP⟩,
   ⟨_, PySem.W.mg_of X G x_BETWEEN_PARTS⟩,
   ⟨_, PySem.W.mg_of X G x_BETWEEN_TIES⟩,
   PySem.W.mg_of X G n_WeaveError,
   exn_mk y1_WeaveError y2_WeaveError y3_WeaveError y4_WeaveError y5_WeaveError y6_WeaveError y7_WeaveError y8_WeaveError y9_WeaveError y10_WeaveError y11_WeaveError,
   ⟨fun_mk (st := s_WeaveError_called) lm_WeaveError cm_WeaveError km_WeaveError, ⟨fm_WeaveError, gm_WeaveError, km_WeaveError⟩, (fun_mk (st := s_WeaveError_called) lm_WeaveError cm_WeaveError km_WeaveError).binds (ps := ["self"]) fun _ _ _ _ _ _ us hl => match us, hl with | [_], _ => rfl⟩,
   r_WeaveError_WeaveError,
   r_WeaveError_NoRow,
   r_WeaveError_TooLarge,
   r_WeaveError_NoDraft,
   PySem.W.mg_of X G n_NoRow,
   exn_mk y1_NoRow y2_NoRow y3_NoRow y4_NoRow y5_WeaveError y6_WeaveError y7_NoRow y8_NoRow y9_NoRow y10_NoRow y11_NoRow,
   ⟨fun_mk (st := s_NoRow_called) lm_NoRow cm_NoRow km_NoRow, ⟨fm_NoRow, gm_NoRow, km_NoRow⟩, (fun_mk (st := s_NoRow_called) lm_NoRow cm_NoRow km_NoRow).binds (ps := ["self"]) fun _ _ _ _ _ _ us hl => match us, hl with | [_], _ => rfl⟩,
   r_NoRow_WeaveError,
   r_NoRow_NoRow,
   r_NoRow_TooLarge,
   r_NoRow_NoDraft,
   PySem.W.mg_of X G n_TooLarge,
   exn_mk y1_TooLarge y2_TooLarge y3_TooLarge y4_TooLarge y5_WeaveError y6_WeaveError y7_TooLarge y8_TooLarge y9_TooLarge y10_TooLarge y11_TooLarge,
   ⟨fun_mk (st := s_TooLarge_called) lm_TooLarge cm_TooLarge km_TooLarge, ⟨fm_TooLarge, gm_TooLarge, km_TooLarge⟩, (fun_mk (st := s_TooLarge_called) lm_TooLarge cm_TooLarge km_TooLarge).binds (ps := ["self"]) fun _ _ _ _ _ _ us hl => match us, hl with | [_], _ => rfl⟩,
   r_TooLarge_WeaveError,
   r_TooLarge_NoRow,
   r_TooLarge_TooLarge,
   r_TooLarge_NoDraft,
   PySem.W.mg_of X G n_NoDraft,
   exn_mk y1_NoDraft y2_NoDraft y3_NoDraft y4_NoDraft y5_WeaveError y6_WeaveError y7_NoDraft y8_NoDraft y9_NoDraft y10_NoDraft y11_NoDraft,
   ⟨fun_mk (st := s_NoDraft_called) lm_NoDraft cm_NoDraft km_NoDraft, ⟨fm_NoDraft, gm_NoDraft, km_NoDraft⟩, (fun_mk (st := s_NoDraft_called) lm_NoDraft cm_NoDraft km_NoDraft).binds (ps := ["self"]) fun _ _ _ _ _ _ us hl => match us, hl with | [_], _ => rfl⟩,
   r_NoDraft_WeaveError,
   r_NoDraft_NoRow,
   r_NoDraft_TooLarge,
   r_NoDraft_NoDraft,
   PySem.W.mg_of X G n_Draft,
   own_mk o1_Draft o2_Draft o3_Draft o4_Draft o5_Draft fm_Draft___init__ gm_Draft___init__ o8_Draft,
   na_Draft_threading,
   na_Draft_ties,
   na_Draft_treading,
   ⟨v1_Draft, v2_Draft, v3_Draft, v4_Draft⟩,
   PySem.W.mg_of X G n_Reader,
   own_mk o1_Reader o2_Reader o3_Reader o4_Reader o5_Reader fm_Reader___init__ gm_Reader___init__ o8_Reader,
   na_Reader_text,
   na_Reader_place,
   PySem.W.mg_of X G n_Path,
   own_mk o1_Path o2_Path o3_Path o4_Path o5_Path fm_Path___init__ gm_Path___init__ o8_Path,
   na_Path_stops,
   PySem.W.mg_of X G n_Times,
   own_mk o1_Times o2_Times o3_Times o4_Times o5_Times fm_Times___init__ gm_Times___init__ o8_Times,
   na_Times_count,
   na_Times_inner,
   ⟨fun_mk (st := s_Draft___init__) lm_Draft___init__ cm_Draft___init__ km_Draft___init__, ⟨fm_Draft___init__, gm_Draft___init__, km_Draft___init__⟩, (fun_mk (st := s_Draft___init__) lm_Draft___init__ cm_Draft___init__ km_Draft___init__).binds (ps := ["self", "threading", "ties", "treading"]) fun _ _ _ _ _ _ us hl => bl4 (fun _ _ _ _ => rfl) us hl⟩,
   ⟨fun_mk (st := s_Reader___init__) lm_Reader___init__ cm_Reader___init__ km_Reader___init__, ⟨fm_Reader___init__, gm_Reader___init__, km_Reader___init__⟩, (fun_mk (st := s_Reader___init__) lm_Reader___init__ cm_Reader___init__ km_Reader___init__).binds (ps := ["self", "text"]) fun _ _ _ _ _ _ us hl => bl2 (fun _ _ => rfl) us hl⟩,
   ⟨fun_mk (st := s_Reader_ended) lm_Reader_ended cm_Reader_ended km_Reader_ended, ⟨fm_Reader_ended, gm_Reader_ended, km_Reader_ended⟩, (fun_mk (st := s_Reader_ended) lm_Reader_ended cm_Reader_ended km_Reader_ended).binds (ps := ["self"]) fun _ _ _ _ _ _ us hl => bl1 (fun _ => rfl) us hl⟩,
   ⟨fun_mk (st := s_Reader_took) lm_Reader_took cm_Reader_took km_Reader_took, ⟨fm_Reader_took, gm_Reader_took, km_Reader_took⟩, (fun_mk (st := s_Reader_took) lm_Reader_took cm_Reader_took km_Reader_took).binds (ps := ["self", "wanted"]) fun _ _ _ _ _ _ us hl => bl2 (fun _ _ => rfl) us hl⟩,
   ⟨fun_mk (st := s_Reader_stretch) lm_Reader_stretch cm_Reader_stretch km_Reader_stretch, ⟨fm_Reader_stretch, gm_Reader_stretch, km_Reader_stretch⟩, (fun_mk (st := s_Reader_stretch) lm_Reader_stretch cm_Reader_stretch km_Reader_stretch).binds (ps := ["self", "signs"]) fun _ _ _ _ _ _ us hl => bl2 (fun _ _ => rfl) us hl⟩,
   ⟨fun_mk (st := s_Reader_number) lm_Reader_number cm_Reader_number km_Reader_number, ⟨fm_Reader_number, gm_Reader_number, km_Reader_number⟩, (fun_mk (st := s_Reader_number) lm_Reader_number cm_Reader_number km_Reader_number).binds (ps := ["self"]) fun _ _ _ _ _ _ us hl => bl1 (fun _ => rfl) us hl⟩,
   ⟨fun_mk (st := s_Path___init__) lm_Path___init__ cm_Path___init__ km_Path___init__, ⟨fm_Path___init__, gm_Path___init__, km_Path___init__⟩, (fun_mk (st := s_Path___init__) lm_Path___init__ cm_Path___init__ km_Path___init__).binds (ps := ["self", "stops"]) fun _ _ _ _ _ _ us hl => bl2 (fun _ _ => rfl) us hl⟩,
   ⟨fun_mk (st := s_Path_size) lm_Path_size cm_Path_size km_Path_size, ⟨fm_Path_size, gm_Path_size, km_Path_size⟩, (fun_mk (st := s_Path_size) lm_Path_size cm_Path_size km_Path_size).binds (ps := ["self"]) fun _ _ _ _ _ _ us hl => bl1 (fun _ => rfl) us hl⟩,
   ⟨fun_mk (st := s_Path_numbers) lm_Path_numbers cm_Path_numbers km_Path_numbers, ⟨fm_Path_numbers, gm_Path_numbers, km_Path_numbers⟩, (fun_mk (st := s_Path_numbers) lm_Path_numbers cm_Path_numbers km_Path_numbers).binds (ps := ["self"]) fun _ _ _ _ _ _ us hl => bl1 (fun _ => rfl) us hl⟩,
   ⟨fun_mk (st := s_Times___init__) lm_Times___init__ cm_Times___init__ km_Times___init__, ⟨fm_Times___init__, gm_Times___init__, km_Times___init__⟩, (fun_mk (st := s_Times___init__) lm_Times___init__ cm_Times___init__ km_Times___init__).binds (ps := ["self", "count", "inner"]) fun _ _ _ _ _ _ us hl => bl3 (fun _ _ _ => rfl) us hl⟩,
   ⟨fun_mk (st := s_Times_size) lm_Times_size cm_Times_size km_Times_size, ⟨fm_Times_size, gm_Times_size, km_Times_size⟩, (fun_mk (st := s_Times_size) lm_Times_size cm_Times_size km_Times_size).binds (ps := ["self"]) fun _ _ _ _ _ _ us hl => bl1 (fun _ => rfl) us hl⟩,
   ⟨fun_mk (st := s_Times_numbers) lm_Times_numbers cm_Times_numbers km_Times_numbers, ⟨fm_Times_numbers, gm_Times_numbers, km_Times_numbers⟩, (fun_mk (st := s_Times_numbers) lm_Times_numbers cm_Times_numbers km_Times_numbers).binds (ps := ["self"]) fun _ _ _ _ _ _ us hl => bl1 (fun _ => rfl) us hl⟩⟩
  have e := hfa.symm.trans (PySem.W.mg_of X G a_law)
  cases e
  exact ⟨_, fun s v => .of_eq rfl, fun base _ _ => ok_law T⟩
end Mine
open PySem PySem.W PyProof.Rows
def PySem.W.Fast.tw613161361145992877 := ()
def PySem.W.Fast.tw5743272274806000185 := ()
def PySem.W.Fast.tw8390769421212251197 := ()
def PySem.W.Fast.tw1194671815266025241 := ()
def PySem.W.Fast.tw10894423810403950955 := ()
def PySem.W.Fast.tw7715414886663703817 := ()
def PySem.W.Fast.tw16342512053679503800 := ()
def PySem.W.Fast.tw5549722337230047861 := ()
def PySem.W.Fast.tw2616445521320827638 := ()
def PySem.W.Fast.tw9857570107466994564 := ()
def PySem.W.Fast.tw4416229060708899274 := ()
def PySem.W.Fast.tw14419218690106398742 := ()
def PySem.W.Fast.tw13097475816020562524 := ()
def PySem.W.Fast.tw1476885370665481598 := ()
def PySem.W.Fast.tw4357140777896802684 := ()
def PySem.W.Fast.tw12705356582849495657 := ()
def PySem.W.Fast.tw9846811163814385730 := ()
def PySem.W.Fast.tw16973709513725644011 := ()
def PySem.W.Fast.tw7599447992211720494 := ()
def PySem.W.Fast.tw8549831970823449397 := ()
def PySem.W.Fast.tw11319167294254677315 := ()
def PySem.W.Fast.tw8755969689458208014 := ()
def PySem.W.Fast.tw2574465409703032826 := ()
def PySem.W.Fast.tw4873176519141231711 := ()
def PySem.W.Fast.tw15046740837916076170 := ()
def PySem.W.Fast.tw12698188843999638416 := ()
def PySem.W.Fast.tw14933017723224032434 := ()
def PySem.W.Fast.tw12222596621152867485 := ()
def PySem.W.Fast.tw2805700786958734627 := ()
def PySem.W.Fast.tw14445621667571183147 := ()
def PySem.W.Fast.tw13566308309477691032 := ()
def PySem.W.Fast.tw2054155455763017240 := ()
def PySem.W.Fast.tw16237178680705094803 := ()
def PySem.W.Fast.tw14170048541845136873 := ()
def PySem.W.Fast.tw8096846757710934136 := ()
def PySem.W.Fast.tw14579540337516570051 := ()
def PySem.W.Fast.tw4076592083193307533 := ()
def PySem.W.Fast.tw5255235910428293241 := ()
def PySem.W.Fast.tw8590261017618819042 := ()
def PySem.W.Fast.tw3815004881195820249 := ()
def PySem.W.Fast.tw15888600800345822508 := ()
def PySem.W.Fast.tw7447778777382232321 := ()
def PySem.W.Fast.tw9700178847796799006 := ()
def PySem.W.Fast.tw10131603422870582674 := ()
def PySem.W.Fast.tw5744984395905210540 := ()
def PySem.W.Fast.tw530292496340764848 := ()
def PySem.W.Fast.tw7770023639375699736 := ()
def PySem.W.Fast.tw7856922246655969652 := ()
def PySem.W.Fast.tw1542207309982806381 := ()
def PySem.W.Fast.tw5422300711586710889 := ()
def PySem.W.Fast.tw15576566231194107059 := ()
def PySem.W.Fast.tw7502541119969806252 := ()
def PySem.W.Fast.tw3986173837325575211 := ()
def PySem.W.Fast.tw14781979197428255162 := ()
def PySem.W.Fast.tw11776256260476216169 := ()
def PySem.W.Fast.tw1492734229758996251 := ()
def PySem.W.Fast.tw15388750784449350214 := ()
def PySem.W.Fast.tw5512936366636020529 := ()
def PySem.W.Fast.tw538006332126434915 := ()
def PySem.W.Fast.tw3733472224179164825 := ()
def PySem.W.Fast.tw2247463524260940403 := ()
def PySem.W.Fast.tw17426514061530509093 := ()
def PySem.W.Fast.tw16724084351700454038 := ()
def PySem.W.Fast.tw11778957301952627241 := ()
def PySem.W.Fast.tw4263143959091127312 := ()
def PySem.W.Fast.tw14327718278635487847 := ()
def PySem.W.Fast.tw11451760880668689748 := ()
def PySem.W.Fast.tw10817113736023335720 := ()
def PySem.W.Fast.tw15640956706239712084 := ()
def PySem.W.Fast.tw270138633124395940 := ()
def PySem.W.Fast.tw11156017976964637985 := ()
def PySem.W.Fast.tw13989893901225393734 := ()
def PySem.W.Fast.tw2748698944481626577 := ()
def PySem.W.Fast.tw361927828503866528 := ()
def PySem.W.Fast.tw3347037636537190924 := ()
def PySem.W.Fast.tw17962736598720618923 := ()
def PySem.W.Fast.tw8844331328788228559 := ()
def PySem.W.Fast.tw10189833606493008205 := ()
def PySem.W.Fast.tw3423480692901141189 := ()
def PySem.W.Fast.tw7086159864648773784 := ()
def PySem.W.Fast.tw8963399323589086424 := ()
def PySem.W.Fast.tw4634724639001769690 := ()
def PySem.W.Fast.tw6320529871386323535 := ()
def PySem.W.Fast.tw1863981931520145519 := ()
def PySem.W.Fast.tw13382360835284503068 := ()
def PySem.W.Fast.tw2307454237747804824 := ()
def PySem.W.Fast.tw8872022281626732202 := ()
def PySem.W.Fast.tw5611964379570046483 := ()
def PySem.W.Fast.tw17153055769236619729 := ()
def PySem.W.Fast.tw9554770906198999894 := ()
def PySem.W.Fast.tw6886330758913170383 := ()
def PySem.W.Fast.tw5364577399111836007 := ()
def PySem.W.Fast.tw11284069006188921357 := ()
def PySem.W.Fast.tw11808041351792520072 := ()
def PySem.W.Fast.tw16472613939778339464 := ()
def PySem.W.Fast.tw5369262050094048950 := ()
def PySem.W.Fast.tw8840923782075035485 := ()
def PySem.W.Fast.tw12288682983773030773 := ()
def PySem.W.Fast.tw178757250979720041 := ()
def PySem.W.Fast.tw4189516670348285336 := ()
def PySem.W.Fast.tw6560502417504358961 := ()
def PySem.W.Fast.tw14710419602430514712 := ()
def PySem.W.Fast.tw17565678072379636992 := ()
def PySem.W.Fast.tw6607489990791671201 := ()
def PySem.W.Fast.tw3677836770764582985 := ()
def PySem.W.Fast.tw12774457296493523564 := ()
def PySem.W.Fast.tw2839694982025194022 := ()
def PySem.W.Fast.tw10875802471693413591 := ()
def PySem.W.Fast.tw1377958616119224168 := ()
def PySem.W.Fast.tw1727503561321154303 := ()
def PySem.W.Fast.tw13745767400709141443 := ()
def PySem.W.Fast.tw13975345966305564444 := ()
def PySem.W.Fast.tw1661288661096179756 := ()
def PySem.W.Fast.tw8470597829231740004 := ()
def PySem.W.Fast.tw12777491057626784611 := ()
def PySem.W.Fast.tw2124289476401801470 := ()
def PySem.W.Fast.tw4223989078542413007 := ()
def PySem.W.Fast.tw3855899178219052312 := ()
def PySem.W.Fast.tw1050482257341786414 := ()
def PySem.W.Fast.tw11302707120753341301 := ()
def PySem.W.Fast.tw13406122297732098913 := ()
def PySem.W.Fast.tw8234106986696311503 := ()
def PySem.W.Fast.tw6605009509644632104 := ()
set_option maxRecDepth 100000 in
set_option maxHeartbeats 0 in
theorem PySem.Challenge.cw_heddle_k70_drafts_read_holds : PySem.Challenge.rw_heddle_k70_drafts_read.Holds := by
  w_on; o_law; k_head; (case hw => w_witness2)
  k_fill
  refine L2.walk_ofK (l := PySem.Challenge.rw_heddle_k70_drafts_read) (n := 63) (k := 44) (x := "script") (CX := L2.CX0) (sp := Mine.sp_law) rfl (by decide) rfl ⟨rfl, by decide, by decide⟩ (fun w h Y => PySem.W.kIn_of Y) ?F ?S ?C
  case F =>
    intro w mg fa h KX G hmg
    refine' Mine.law_mk KX G hmg ?a_check_setting ?l_check_setting ?c_check_setting ?k_check_setting ?a_check_count ?l_check_count ?c_check_count ?k_check_count ?a_check_shaft ?l_check_shaft ?c_check_shaft ?k_check_shaft ?a_check_tie ?l_check_tie ?c_check_tie ?k_check_tie ?a_check_treading ?l_check_treading ?c_check_treading ?k_check_treading ?a_number_of ?l_number_of ?c_number_of ?k_number_of ?a_unfolded ?l_unfolded ?c_unfolded ?k_unfolded ?a_whole_size ?l_whole_size ?c_whole_size ?k_whole_size ?a_all_numbers ?l_all_numbers ?c_all_numbers ?k_all_numbers ?a_steps_between ?l_steps_between ?c_steps_between ?k_steps_between ?a_read_row ?l_read_row ?c_read_row ?k_read_row ?a_read_items ?l_read_items ?c_read_items ?k_read_items ?a_read_item ?l_read_item ?c_read_item ?k_read_item ?a_read_times ?l_read_times ?c_read_times ?k_read_times ?a_read_path ?l_read_path ?c_read_path ?k_read_path ?a_read_number ?l_read_number ?c_read_number ?k_read_number ?a_read_draft ?l_read_draft ?c_read_draft ?k_read_draft ?a_law_numbers ?l_law_numbers ?c_law_numbers ?k_law_numbers ?a_law_subset ?l_law_subset ?c_law_subset ?k_law_subset ?a_law_numbers_same ?l_law_numbers_same ?c_law_numbers_same ?k_law_numbers_same ?a_law_draft_same ?l_law_draft_same ?c_law_draft_same ?k_law_draft_same ?a_law_written ?l_law_written ?c_law_written ?k_law_written ?a_law_exchanged ?l_law_exchanged ?c_law_exchanged ?k_law_exchanged ?a_law_rows_by ?l_law_rows_by ?c_law_rows_by ?k_law_rows_by ?a_law_fits ?l_law_fits ?c_law_fits ?k_law_fits ?a_law_due ?l_law_due ?c_law_due ?k_law_due ?a_law_caught ?l_law_caught ?c_law_caught ?k_law_caught ?a_law_refused ?l_law_refused ?c_law_refused ?k_law_refused ?a_law ?l_law ?c_law ?k_law ?z_ValueError ?z_abs ?z_bool ?z_int ?z_isinstance ?z_len ?z_list ?z_range ?z_str ?z_sum ?x_MOST_STRANDS ?x_MOST_SHAFTS ?x_FIGURES ?x_MOST_NUMBERS ?x_MOST_DEEP ?x_BETWEEN_PARTS ?x_BETWEEN_TIES ?n_WeaveError ?n_NoRow ?n_TooLarge ?n_NoDraft ?y1_WeaveError ?y2_WeaveError ?y3_WeaveError ?y4_WeaveError ?y5_WeaveError ?y6_WeaveError ?y7_WeaveError ?y8_WeaveError ?y9_WeaveError ?y10_WeaveError ?y11_WeaveError ?r_WeaveError_WeaveError ?r_WeaveError_NoRow ?r_WeaveError_TooLarge ?r_WeaveError_NoDraft ?y1_NoRow ?y2_NoRow ?y3_NoRow ?y4_NoRow ?y7_NoRow ?y8_NoRow ?y9_NoRow ?y10_NoRow ?y11_NoRow ?r_NoRow_WeaveError ?r_NoRow_NoRow ?r_NoRow_TooLarge ?r_NoRow_NoDraft ?y1_TooLarge ?y2_TooLarge ?y3_TooLarge ?y4_TooLarge ?y7_TooLarge ?y8_TooLarge ?y9_TooLarge ?y10_TooLarge ?y11_TooLarge ?r_TooLarge_WeaveError ?r_TooLarge_NoRow ?r_TooLarge_TooLarge ?r_TooLarge_NoDraft ?y1_NoDraft ?y2_NoDraft ?y3_NoDraft ?y4_NoDraft ?y7_NoDraft ?y8_NoDraft ?y9_NoDraft ?y10_NoDraft ?y11_NoDraft ?r_NoDraft_WeaveError ?r_NoDraft_NoRow ?r_NoDraft_TooLarge ?r_NoDraft_NoDraft ?fm_WeaveError ?gm_WeaveError ?lm_WeaveError ?cm_WeaveError ?km_WeaveError ?fm_NoRow ?gm_NoRow ?lm_NoRow ?cm_NoRow ?km_NoRow ?fm_TooLarge ?gm_TooLarge ?lm_TooLarge ?cm_TooLarge ?km_TooLarge ?fm_NoDraft ?gm_NoDraft ?lm_NoDraft ?cm_NoDraft ?km_NoDraft ?n_Draft ?n_Reader ?n_Path ?n_Times ?fm_Draft___init__ ?gm_Draft___init__ ?lm_Draft___init__ ?cm_Draft___init__ ?km_Draft___init__ ?fm_Reader___init__ ?gm_Reader___init__ ?lm_Reader___init__ ?cm_Reader___init__ ?km_Reader___init__ ?fm_Reader_ended ?gm_Reader_ended ?lm_Reader_ended ?cm_Reader_ended ?km_Reader_ended ?fm_Reader_took ?gm_Reader_took ?lm_Reader_took ?cm_Reader_took ?km_Reader_took ?fm_Reader_stretch ?gm_Reader_stretch ?lm_Reader_stretch ?cm_Reader_stretch ?km_Reader_stretch ?fm_Reader_number ?gm_Reader_number ?lm_Reader_number ?cm_Reader_number ?km_Reader_number ?fm_Path___init__ ?gm_Path___init__ ?lm_Path___init__ ?cm_Path___init__ ?km_Path___init__ ?fm_Path_size ?gm_Path_size ?lm_Path_size ?cm_Path_size ?km_Path_size ?fm_Path_numbers ?gm_Path_numbers ?lm_Path_numbers ?cm_Path_numbers ?km_Path_numbers ?fm_Times___init__ ?gm_Times___init__ ?lm_Times___init__ ?cm_Times___init__ ?km_Times___init__ ?fm_Times_size ?gm_Times_size ?lm_Times_size ?cm_Times_size ?km_Times_size ?fm_Times_numbers ?gm_Times_numbers ?lm_Times_numbers ?cm_Times_numbers ?km_Times_numbers ?o1_Draft ?o2_Draft ?o3_Draft ?o4_Draft ?o5_Draft ?o8_Draft ?na_Draft_threading ?na_Draft_ties ?na_Draft_treading ?o1_Reader ?o2_Reader ?o3_Reader ?o4_Reader ?o5_Reader ?o8_Reader ?na_Reader_text ?na_Reader_place ?o1_Path ?o2_Path ?o3_Path ?o4_Path ?o5_Path ?o8_Path ?na_Path_stops ?o1_Times ?o2_Times ?o3_Times ?o4_Times ?o5_Times ?o8_Times ?na_Times_count ?na_Times_inner ?v1_Draft ?v2_Draft ?v3_Draft ?v4_Draft
    (case a_check_setting => k_is)
    (case l_check_setting => k_is)
    (case c_check_setting => k_is)
    (case k_check_setting => k_is)
    (case a_check_count => k_is)
    (case l_check_count => k_is)
    (case c_check_count => k_is)
    (case k_check_count => k_is)
    (case a_check_shaft => k_is)
    (case l_check_shaft => k_is)
    (case c_check_shaft => k_is)
    (case k_check_shaft => k_is)
    (case a_check_tie => k_is)
    (case l_check_tie => k_is)
    (case c_check_tie => k_is)
    (case k_check_tie => k_is)
    (case a_check_treading => k_is)
    (case l_check_treading => k_is)
    (case c_check_treading => k_is)
    (case k_check_treading => k_is)
    (case a_number_of => k_is)
    (case l_number_of => k_is)
    (case c_number_of => k_is)
    (case k_number_of => k_is)
    (case a_unfolded => k_is)
    (case l_unfolded => k_is)
    (case c_unfolded => k_is)
    (case k_unfolded => k_is)
    (case a_whole_size => k_is)
    (case l_whole_size => k_is)
    (case c_whole_size => k_is)
    (case k_whole_size => k_is)
    (case a_all_numbers => k_is)
    (case l_all_numbers => k_is)
    (case c_all_numbers => k_is)
    (case k_all_numbers => k_is)
    (case a_steps_between => k_is)
    (case l_steps_between => k_is)
    (case c_steps_between => k_is)
    (case k_steps_between => k_is)
    (case a_read_row => k_is)
    (case l_read_row => k_is)
    (case c_read_row => k_is)
    (case k_read_row => k_is)
    (case a_read_items => k_is)
    (case l_read_items => k_is)
    (case c_read_items => k_is)
    (case k_read_items => k_is)
    (case a_read_item => k_is)
    (case l_read_item => k_is)
    (case c_read_item => k_is)
    (case k_read_item => k_is)
    (case a_read_times => k_is)
    (case l_read_times => k_is)
    (case c_read_times => k_is)
    (case k_read_times => k_is)
    (case a_read_path => k_is)
    (case l_read_path => k_is)
    (case c_read_path => k_is)
    (case k_read_path => k_is)
    (case a_read_number => k_is)
    (case l_read_number => k_is)
    (case c_read_number => k_is)
    (case k_read_number => k_is)
    (case a_read_draft => k_is)
    (case l_read_draft => k_is)
    (case c_read_draft => k_is)
    (case k_read_draft => k_is)
    (case a_law_numbers => k_is)
    (case l_law_numbers => k_is)
    (case c_law_numbers => k_is)
    (case k_law_numbers => k_is)
    (case a_law_subset => k_is)
    (case l_law_subset => k_is)
    (case c_law_subset => k_is)
    (case k_law_subset => k_is)
    (case a_law_numbers_same => k_is)
    (case l_law_numbers_same => k_is)
    (case c_law_numbers_same => k_is)
    (case k_law_numbers_same => k_is)
    (case a_law_draft_same => k_is)
    (case l_law_draft_same => k_is)
    (case c_law_draft_same => k_is)
    (case k_law_draft_same => k_is)
    (case a_law_written => k_is)
    (case l_law_written => k_is)
    (case c_law_written => k_is)
    (case k_law_written => k_is)
    (case a_law_exchanged => k_is)
    (case l_law_exchanged => k_is)
    (case c_law_exchanged => k_is)
    (case k_law_exchanged => k_is)
    (case a_law_rows_by => k_is)
    (case l_law_rows_by => k_is)
    (case c_law_rows_by => k_is)
    (case k_law_rows_by => k_is)
    (case a_law_fits => k_is)
    (case l_law_fits => k_is)
    (case c_law_fits => k_is)
    (case k_law_fits => k_is)
    (case a_law_due => k_is)
    (case l_law_due => k_is)
    (case c_law_due => k_is)
    (case k_law_due => k_is)
    (case a_law_caught => k_is)
    (case l_law_caught => k_is)
    (case c_law_caught => k_is)
    (case k_law_caught => k_is)
    (case a_law_refused => k_is)
    (case l_law_refused => k_is)
    (case c_law_refused => k_is)
    (case k_law_refused => k_is)
    (case a_law => k_is)
    (case l_law => k_is)
    (case c_law => k_is)
    (case k_law => k_is)
    (case z_ValueError => k_is)
    (case z_abs => k_is)
    (case z_bool => k_is)
    (case z_int => k_is)
    (case z_isinstance => k_is)
    (case z_len => k_is)
    (case z_list => k_is)
    (case z_range => k_is)
    (case z_str => k_is)
    (case z_sum => k_is)
    (case x_MOST_STRANDS => k_is)
    (case x_MOST_SHAFTS => k_is)
    (case x_FIGURES => k_is)
    (case x_MOST_NUMBERS => k_is)
    (case x_MOST_DEEP => k_is)
    (case x_BETWEEN_PARTS => k_is)
    (case x_BETWEEN_TIES => k_is)
    (case n_WeaveError => k_is)
    (case n_NoRow => k_is)
    (case n_TooLarge => k_is)
    (case n_NoDraft => k_is)
    (case y1_WeaveError => k_exc)
    (case y2_WeaveError => k_is)
    (case y3_WeaveError => k_is)
    (case y4_WeaveError => k_is)
    (case y5_WeaveError => k_is)
    (case y6_WeaveError => k_is)
    (case y7_WeaveError => k_is)
    (case y8_WeaveError => k_is)
    (case y9_WeaveError => k_is)
    (case y10_WeaveError => k_is)
    (case y11_WeaveError => k_is)
    (case r_WeaveError_WeaveError => k_is)
    (case r_WeaveError_NoRow => k_is)
    (case r_WeaveError_TooLarge => k_is)
    (case r_WeaveError_NoDraft => k_is)
    (case y1_NoRow => k_exc)
    (case y2_NoRow => k_is)
    (case y3_NoRow => k_is)
    (case y4_NoRow => k_is)
    (case y7_NoRow => k_is)
    (case y8_NoRow => k_is)
    (case y9_NoRow => k_is)
    (case y10_NoRow => k_is)
    (case y11_NoRow => k_is)
    (case r_NoRow_WeaveError => k_is)
    (case r_NoRow_NoRow => k_is)
    (case r_NoRow_TooLarge => k_is)
    (case r_NoRow_NoDraft => k_is)
    (case y1_TooLarge => k_exc)
    (case y2_TooLarge => k_is)
    (case y3_TooLarge => k_is)
    (case y4_TooLarge => k_is)
    (case y7_TooLarge => k_is)
    (case y8_TooLarge => k_is)
    (case y9_TooLarge => k_is)
    (case y10_TooLarge => k_is)
    (case y11_TooLarge => k_is)
    (case r_TooLarge_WeaveError => k_is)
    (case r_TooLarge_NoRow => k_is)
    (case r_TooLarge_TooLarge => k_is)
    (case r_TooLarge_NoDraft => k_is)
    (case y1_NoDraft => k_exc)
    (case y2_NoDraft => k_is)
    (case y3_NoDraft => k_is)
    (case y4_NoDraft => k_is)
    (case y7_NoDraft => k_is)
    (case y8_NoDraft => k_is)
    (case y9_NoDraft => k_is)
    (case y10_NoDraft => k_is)
    (case y11_NoDraft => k_is)
    (case r_NoDraft_WeaveError => k_is)
    (case r_NoDraft_NoRow => k_is)
    (case r_NoDraft_TooLarge => k_is)
    (case r_NoDraft_NoDraft => k_is)
    (case fm_WeaveError => k_is)
    (case gm_WeaveError => k_is)
    (case lm_WeaveError => k_is)
    (case cm_WeaveError => k_is)
    (case km_WeaveError => k_is)
    (case fm_NoRow => k_is)
    (case gm_NoRow => k_is)
    (case lm_NoRow => k_is)
    (case cm_NoRow => k_is)
    (case km_NoRow => k_is)
    (case fm_TooLarge => k_is)
    (case gm_TooLarge => k_is)
    (case lm_TooLarge => k_is)
    (case cm_TooLarge => k_is)
    (case km_TooLarge => k_is)
    (case fm_NoDraft => k_is)
    (case gm_NoDraft => k_is)
    (case lm_NoDraft => k_is)
    (case cm_NoDraft => k_is)
    (case km_NoDraft => k_is)
    (case n_Draft => k_is)
    (case n_Reader => k_is)
    (case n_Path => k_is)
    (case n_Times => k_is)
    (case fm_Draft___init__ => k_is)
    (case gm_Draft___init__ => k_is)
    (case lm_Draft___init__ => k_is)
    (case cm_Draft___init__ => k_is)
    (case km_Draft___init__ => k_is)
    (case fm_Reader___init__ => k_is)
    (case gm_Reader___init__ => k_is)
    (case lm_Reader___init__ => k_is)
    (case cm_Reader___init__ => k_is)
    (case km_Reader___init__ => k_is)
    (case fm_Reader_ended => k_is)
    (case gm_Reader_ended => k_is)
    (case lm_Reader_ended => k_is)
    (case cm_Reader_ended => k_is)
    (case km_Reader_ended => k_is)
    (case fm_Reader_took => k_is)
    (case gm_Reader_took => k_is)
    (case lm_Reader_took => k_is)
    (case cm_Reader_took => k_is)
    (case km_Reader_took => k_is)
    (case fm_Reader_stretch => k_is)
    (case gm_Reader_stretch => k_is)
    (case lm_Reader_stretch => k_is)
    (case cm_Reader_stretch => k_is)
    (case km_Reader_stretch => k_is)
    (case fm_Reader_number => k_is)
    (case gm_Reader_number => k_is)
    (case lm_Reader_number => k_is)
    (case cm_Reader_number => k_is)
    (case km_Reader_number => k_is)
    (case fm_Path___init__ => k_is)
    (case gm_Path___init__ => k_is)
    (case lm_Path___init__ => k_is)
    (case cm_Path___init__ => k_is)
    (case km_Path___init__ => k_is)
    (case fm_Path_size => k_is)
    (case gm_Path_size => k_is)
    (case lm_Path_size => k_is)
    (case cm_Path_size => k_is)
    (case km_Path_size => k_is)
    (case fm_Path_numbers => k_is)
    (case gm_Path_numbers => k_is)
    (case lm_Path_numbers => k_is)
    (case cm_Path_numbers => k_is)
    (case km_Path_numbers => k_is)
    (case fm_Times___init__ => k_is)
    (case gm_Times___init__ => k_is)
    (case lm_Times___init__ => k_is)
    (case cm_Times___init__ => k_is)
    (case km_Times___init__ => k_is)
    (case fm_Times_size => k_is)
    (case gm_Times_size => k_is)
    (case lm_Times_size => k_is)
    (case cm_Times_size => k_is)
    (case km_Times_size => k_is)
    (case fm_Times_numbers => k_is)
    (case gm_Times_numbers => k_is)
    (case lm_Times_numbers => k_is)
    (case cm_Times_numbers => k_is)
    (case km_Times_numbers => k_is)
    (case o1_Draft => k_is)
    (case o2_Draft => k_is)
    (case o3_Draft => k_is)
    (case o4_Draft => k_is)
    (case o5_Draft => k_is)
    (case o8_Draft => k_is)
    (case na_Draft_threading => k_is)
    (case na_Draft_ties => k_is)
    (case na_Draft_treading => k_is)
    (case o1_Reader => k_is)
    (case o2_Reader => k_is)
    (case o3_Reader => k_is)
    (case o4_Reader => k_is)
    (case o5_Reader => k_is)
    (case o8_Reader => k_is)
    (case na_Reader_text => k_is)
    (case na_Reader_place => k_is)
    (case o1_Path => k_is)
    (case o2_Path => k_is)
    (case o3_Path => k_is)
    (case o4_Path => k_is)
    (case o5_Path => k_is)
    (case o8_Path => k_is)
    (case na_Path_stops => k_is)
    (case o1_Times => k_is)
    (case o2_Times => k_is)
    (case o3_Times => k_is)
    (case o4_Times => k_is)
    (case o5_Times => k_is)
    (case o8_Times => k_is)
    (case na_Times_count => k_is)
    (case na_Times_inner => k_is)
    (case v1_Draft => k_is)
    (case v2_Draft => k_is)
    (case v3_Draft => k_is)
    (case v4_Draft => k_is)
  case S => exact fun K H a ns hl hO hS => Mine.sp_law_holds hl hS
  case C => exact fun _ _ _ _ z => z
