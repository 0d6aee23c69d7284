import PyProof.Rows.All
import Wide.All
import OpenK.AllK
import Wide.FinOn
import Lean
import PyProof.EqAt
import PyProof.EqKinds
import PyProof.TupleCall
import PyProof.StrBlockL
import PyProof.EnumMake
import PyProof.CollectIter
import PyProof.JoinWalk
import PyProof.StrOps
import PyProof.StrLawsIdx
import PyProof.StrLawsIn
import PyProof.ListRange
import PyProof.Rows.Range3
import PyProof.Rows.SumAny
import KE.KIntText
import KE.LcSums
import PyProof.LongRange
import PyProof.StrOps2
import PyProof.FitsBits
import PyProof.NeKinds
import PyProof.ConsumeWalk
import OpenK.KCls
import KE.KTabLook
import KE.KUnpack
import PyProof.Rows.ZipGen
import PyProof.Draws
import PyProof.Rows.SeqMore
import PySem.Challenge.RW_heddle_k56_twills_and_satins
set_option Elab.async false
set_option linter.all false
set_option maxRecDepth 100000
namespace L2
open PySem PySem.Spec PyProof.Rows
abbrev Key := Sum Int Str
def keyIs : Key → Value → Bool
  | .inl k, v => Value.isInt k v
  | .inr x, v => Value.isStrOf x v
def keyH (w : World) : Key → Int
  | .inl k => hashInt k
  | .inr x => hashStr w x
theorem keyIs_shape : ∀ {k : Key} {v : Value}, keyIs k v = true → (∃ i t, k = Sum.inl i ∧ v = Value.int i t) ∨ (∃ x t, k = Sum.inr x ∧ v = Value.str x t)
  | .inl i, v, h => by
    obtain ⟨t, e⟩ := Value.isInt_shape (k := i) (v := v) h
    exact .inl ⟨i, t, rfl, e⟩
  | .inr x, v, h => by
    obtain ⟨t, e⟩ := Value.isStrOf_shape (x := x) (v := v) h
    exact .inr ⟨x, t, rfl, e⟩
theorem key_ll (a b : Int) : decide ((Sum.inl a : Key) = Sum.inl b) = (a == b) := by
  by_cases e : a = b
  · subst e; simp
  · have h : ¬ (Sum.inl a : Key) = Sum.inl b := fun q => e (Sum.inl.inj q)
    rw [decide_eq_false h]
    exact (beq_eq_false_iff_ne.mpr e).symm
theorem key_rr (a b : Str) : decide ((Sum.inr a : Key) = Sum.inr b) = decide (a = b) := by
  by_cases e : a = b
  · subst e; simp
  · have h : ¬ (Sum.inr a : Key) = Sum.inr b := fun q => e (Sum.inr.inj q)
    rw [decide_eq_false h, decide_eq_false e]
theorem key_lr (a : Int) (b : Str) : decide ((Sum.inl a : Key) = Sum.inr b) = false := decide_eq_false (fun q => nomatch q)
theorem key_rl (a : Str) (b : Int) : decide ((Sum.inr a : Key) = Sum.inl b) = false := decide_eq_false (fun q => nomatch q)
def mixKind (prog : Program) (w : World) : PySem.KeyKind prog w Key where
  is := keyIs
  hash := keyH w
  inj := fun v a b ha hb => by
    rcases keyIs_shape ha with ⟨i, t, rfl, rfl⟩ | ⟨x, t, rfl, rfl⟩
    · rcases keyIs_shape hb with ⟨j, u, rfl, e⟩ | ⟨y, u, rfl, e⟩
      · injection e with e1 _; rw [e1]
      · exact nomatch e
    · rcases keyIs_shape hb with ⟨j, u, rfl, e⟩ | ⟨y, u, rfl, e⟩
      · exact nomatch e
      · injection e with e1 _; rw [e1]
  byValue := fun k v h => by
    rcases keyIs_shape h with ⟨i, t, rfl, rfl⟩ | ⟨x, t, rfl, rfl⟩ <;> rfl
  pyHash := fun hv h => by
    rcases keyIs_shape hv with ⟨i, t, rfl, rfl⟩ | ⟨x, t, rfl, rfl⟩
    · exact wpAny_pyHash_int h
    · exact wpAny_pyHash_str h
  eqBool := fun hu hv h => by
    rcases keyIs_shape hu with ⟨i, t, rfl, rfl⟩ | ⟨x, t, rfl, rfl⟩
    · rcases keyIs_shape hv with ⟨j, u, rfl, rfl⟩ | ⟨y, u, rfl, rfl⟩
      · rw [key_ll] at h; exact wpAny_eqBool_int h
      · rw [key_lr] at h; exact SeqAt.EqAt.int_str i t y u _ _ _ _ h
    · rcases keyIs_shape hv with ⟨j, u, rfl, rfl⟩ | ⟨y, u, rfl, rfl⟩
      · rw [key_rl] at h; exact SeqAt.EqAt.str_int x t j u _ _ _ _ h
      · rw [key_rr] at h; exact wpAny_eqBool_str h
  «strs» := fun k x t v h => by
    rcases keyIs_shape h with ⟨i, u, rfl, e⟩ | ⟨y, u, rfl, e⟩
    · exact nomatch e
    · injection e with e1 _
      subst e1
      cases v <;> rfl
open PySem PySem.Spec PyProof.Rows
inductive V where
  | non | bl (b : Bool) | int (i : Int) | str (x : Str) | byt (b : Array UInt8) | flt (b : UInt64) | ref (a : Addr) | ty (n : String)
  deriving DecidableEq
def RelV : V → Value → Prop
  | .non, u => u = Value.none
  | .bl b, u => u = Value.bool b
  | .int i, u => ∃ t, u = Value.int i t
  | .str x, u => ∃ t, u = Value.str x t
  | .byt b, u => ∃ t, u = Value.bytes b t
  | .flt b, u => ∃ t, u = Value.float b t
  | .ref a, u => u = Value.ref a
  | .ty n, u => u = Value.type n
abbrev Vals : List V → List Value → Prop := Paired RelV
theorem Vals.length {xs : List V} {us : List Value} (r : Vals xs us) : xs.length = us.length := Paired.length r
theorem Vals.get : ∀ {xs : List V} {us : List Value} {i : Nat} {x : V}, Vals xs us → xs[i]? = some x → ∃ u, us[i]? = some u ∧ RelV x u
  | _, _, _, _, .nil, e => by simp at e
  | _, _, 0, _, .cons r _, e => by simp at e; subst e; exact ⟨_, rfl, r⟩
  | _, _, i + 1, x, .cons _ t, e => by
    obtain ⟨u, h1, h2⟩ := Vals.get (i := i) (x := x) t (by simpa using e)
    exact ⟨u, by simpa using h1, h2⟩
theorem Vals.append : ∀ {xs ys : List V} {us ws : List Value}, Vals xs us → Vals ys ws → Vals (xs ++ ys) (us ++ ws)
  | _, _, _, _, .nil, s => s
  | _, _, _, _, .cons r t, s => .cons r (Vals.append t s)
theorem Vals.take : ∀ {xs : List V} {us : List Value} (n : Nat), Vals xs us → Vals (xs.take n) (us.take n)
  | _, _, 0, _ => .nil
  | _, _, _ + 1, .nil => .nil
  | _, _, n + 1, .cons r t => .cons r (Vals.take n t)
theorem Vals.drop : ∀ {xs : List V} {us : List Value} (n : Nat), Vals xs us → Vals (xs.drop n) (us.drop n)
  | _, _, 0, r => r
  | _, _, _ + 1, .nil => .nil
  | _, _, n + 1, .cons _ t => Vals.drop n t
def RelO : Option V → Option Value → Prop
  | some v, some u => RelV v u
  | none, none => True
  | _, _ => False
def KV {κ : Type} : List (κ × V) → List (κ × Value) → Prop := Paired fun (p : κ × V) (q : κ × Value) => p.1 = q.1 ∧ RelV p.2 q.2
def kV : Key → V
  | .inl i => .int i
  | .inr x => .str x
inductive HO where
  | lst (xs : List V)
  | tup (xs : List V)
  | dK (kvs : List (Key × V)) | dT (kvs : List (List Key × V))
  | set (S : Int → Bool) (n : Nat)
  | ins (C dx : Addr) (fs : List (Str × V))
  | own (x : Addr)
  | xd (fs : List (Str × V))
  | met (f x : Addr)
  | rng (lo hi : Int)
  | frz (o : Obj) (u : HO)
  | tbl (ps : Array Value)
  | ext (φ : Heap → Prop)
abbrev Hp := Addr → Option HO
def upd (H : Hp) (a : Addr) (o : HO) : Hp := fun b => if b = a then some o else H b
theorem upd_same {H : Hp} {a : Addr} {o : HO} : upd H a o a = some o := by unfold upd; rw [if_pos rfl]
theorem upd_ne {H : Hp} {a b : Addr} {o : HO} (h : b ≠ a) : upd H a o b = H b := by unfold upd; rw [if_neg h]
theorem upd_upd {H : Hp} {a : Addr} {o u : HO} : upd (upd H a o) a u = upd H a u := by
  funext b; unfold upd; split <;> rfl
theorem ne_of_none {H : Hp} {a b : Addr} {o : HO} (h : H a = some o) (h' : H b = none) : a ≠ b := by
  intro e; subst e; rw [h] at h'; cases h'
section
variable (P : Program) (w : World)
def ObjOk (H : Hp) (h : Heap) (a : Addr) : HO → Prop
  | .lst xs => xs.length ≤ sizeLine ∧ ∃ (its : List Value) (n : Nat), Vals xs its ∧ h.get? a = some { cls := .type "list", data := .seq its.toArray n }
  | .tup xs => xs.length ≤ sizeLine ∧ ∃ its : List Value, Vals xs its ∧ IsTup h a its.toArray
  | .dK kvs => kvs.length ≤ sizeLine ∧ (a == sysModules) = false ∧ ∃ vs, KV kvs vs ∧ h.DictOf (mixKind P w) a vs
  | .dT kvs => kvs.length ≤ sizeLine ∧ (a == sysModules) = false ∧ ∃ xs : List (List Key × Addr × Value),
      Paired (fun (p : List Key × V) (q : List Key × Addr × Value) => p.1 = q.1 ∧ H q.2.1 = some (.tup (p.1.map kV)) ∧ RelV p.2 q.2.2) kvs xs ∧
      ∃ o es ep, h.get? a = some o ∧ o.ExactDict ∧ o.data = .dict es ep ∧ es.toList = xs.map (entryOfKey (tupleKind (mixKind P w))) ∧ (xs.map (·.1)).Nodup
  | .set S n => h.SetOf (intKind P w) a S n
  | .ins C dx fs => H dx = some (.own a) ∧ fs.length ≤ 1000 ∧ dx ≠ a ∧ h.get? a = some (PySem.W.instObj C dx) ∧
      ∃ mA, h.Ns1 dx mA ∧ (∀ f, RelO (fs.lookup f) (mA f)) ∧ PySem.Within mA (fs.map (·.1))
  | .own _ => ∃ o, h.get? a = some o
  | .xd fs => ∃ mA, h.Ns1 a mA ∧ ∀ f, RelO (fs.lookup f) (mA f)
  | .rng lo hi => ∃ t u v, h.get? a = some { cls := .type "range", data := .fields #[.int lo t, .int hi u, .int 1 v] }
  | .frz o u => h.get? a = some o ∧ ObjOk H h a u
  | .tbl ps => h.get? a = some { cls := .none, data := .fields ps }
  | .met f x => h.get? a = some (PySem.W.methodObj (.ref f) (.ref x))
  | .ext φ => φ h ∧ (∃ o, h.get? a = some o) ∧ ∀ h1 h2 : Heap, φ h1 → (∀ o, h1.get? a = some o → h2.get? a = some o) → φ h2
def HOk (H : Hp) (h : Heap) : Prop := ∀ a o, H a = some o → ObjOk P w H h a o
end
section
variable {P : Program} {w : World} {H H' : Hp} {h h' : Heap} {a : Addr} {o : HO}
theorem ObjOk.lt (x : ObjOk P w H h a o) : a < h.objs.size := by
  cases o with
  | lst xs => obtain ⟨_, _, _, _, e⟩ := x; exact Heap.lt_size e
  | tup xs => obtain ⟨_, _, _, p⟩ := x; exact p.lt
  | dK kvs => obtain ⟨_, _, _, _, o, _, _, e, _⟩ := x; exact Heap.lt_size e
  | dT kvs => obtain ⟨_, _, _, _, o, _, _, e, _⟩ := x; exact Heap.lt_size e
  | set S n => obtain ⟨o, _, _, _, e, _⟩ := x; exact Heap.lt_size e
  | ins C dx fs => obtain ⟨_, _, _, e, _⟩ := x; exact Heap.lt_size e
  | own y => obtain ⟨_, e⟩ := x; exact Heap.lt_size e
  | xd fs => obtain ⟨_, ⟨_, _, _, e, _⟩, _⟩ := x; exact Heap.lt_size e
  | rng lo hi => obtain ⟨_, _, _, e⟩ := x; exact Heap.lt_size e
  | frz ob u => obtain ⟨e, _⟩ := x; exact Heap.lt_size e
  | tbl ps => exact Heap.lt_size (show h.get? a = some _ from x)
  | met f y => exact Heap.lt_size (show h.get? a = some _ from x)
  | ext φ => obtain ⟨_, ⟨_, e⟩, _⟩ := x; exact Heap.lt_size e
theorem Paired.mapP {α β : Type} {F G : α → β → Prop} : ∀ {l₁ : List α} {l₂ : List β}, Paired F l₁ l₂ → (∀ a b, F a b → G a b) → Paired G l₁ l₂
  | _, _, .nil, _ => .nil
  | _, _, .cons r t, f => .cons (f _ _ r) (Paired.mapP t f)
theorem ObjOk.stay (x : ObjOk P w H h a o) (k : ∀ b u, (b = a ∨ H b = some (.own a)) → h.get? b = some u → h'.get? b = some u)
    (ho : ∀ b, H b = some (.own a) → H' b = some (.own a)) (ht : ∀ b xs, H b = some (.tup xs) → H' b = some (.tup xs)) : ObjOk P w H' h' a o := by
  induction o with
  | lst xs => obtain ⟨z, its, n, r, e⟩ := x; exact ⟨z, its, n, r, k _ _ (.inl rfl) e⟩
  | tup xs => obtain ⟨z, its, r, ob, e, c⟩ := x; exact ⟨z, its, r, ob, k _ _ (.inl rfl) e, c⟩
  | dK kvs => obtain ⟨z, y, vs, r, ob, es, ep, e, c⟩ := x; exact ⟨z, y, vs, r, ob, es, ep, k _ _ (.inl rfl) e, c⟩
  | dT kvs =>
    obtain ⟨z, y, xs, r, ob, es, ep, e, c⟩ := x
    exact ⟨z, y, xs, Paired.mapP r fun p q z => ⟨z.1, ht _ _ z.2.1, z.2.2⟩, ob, es, ep, k _ _ (.inl rfl) e, c⟩
  | set S n => obtain ⟨ob, es, ep, t, e, c⟩ := x; exact ⟨ob, es, ep, t, k _ _ (.inl rfl) e, c⟩
  | ins C dx fs =>
    obtain ⟨d, z, ne, e, mA, ⟨od, es, ep, e2, c⟩, r⟩ := x
    exact ⟨ho _ d, z, ne, k _ _ (.inl rfl) e, mA, ⟨od, es, ep, k _ _ (.inr d) e2, c⟩, r⟩
  | own y => obtain ⟨ob, e⟩ := x; exact ⟨ob, k _ _ (.inl rfl) e⟩
  | xd fs => obtain ⟨mA, ⟨od, es, ep, e, c⟩, r⟩ := x; exact ⟨mA, ⟨od, es, ep, k _ _ (.inl rfl) e, c⟩, r⟩
  | rng lo hi => obtain ⟨t, u, v, e⟩ := x; exact ⟨t, u, v, k _ _ (.inl rfl) e⟩
  | frz ob u ih => obtain ⟨e, q⟩ := x; exact ⟨k _ _ (.inl rfl) e, ih q⟩
  | tbl ps =>
    have e : h.get? a = some { cls := .none, data := .fields ps } := x
    show h'.get? a = some { cls := .none, data := .fields ps }
    exact k a _ (.inl rfl) e
  | met f y =>
    have e : h.get? a = some (PySem.W.methodObj (.ref f) (.ref y)) := x
    show h'.get? a = some (PySem.W.methodObj (.ref f) (.ref y))
    exact k a _ (.inl rfl) e
  | ext φ => obtain ⟨p, ⟨o, e⟩, st⟩ := x; exact ⟨st _ _ p fun o q => k _ _ (.inl rfl) q, ⟨o, k _ _ (.inl rfl) e⟩, st⟩
theorem HOk.lt (x : HOk P w H h) (e : H a = some o) : a < h.objs.size := (x a o e).lt
theorem HOk.fresh (x : HOk P w H h) (e : h.objs.size ≤ a) : H a = none := by
  cases q : H a with
  | none => rfl
  | some u => exact absurd (Nat.lt_of_lt_of_le (x.lt q) e) (Nat.lt_irrefl _)
theorem HOk.kept (x : HOk P w H h) (k : ∀ b u, h.get? b = some u → h'.get? b = some u) : HOk P w H h' := fun a o e =>
  (x a o e).stay (fun b u _ q => k b u q) (fun _ q => q) fun _ _ q => q
theorem HOk.laid (x : HOk P w H h) (k : ∀ b u, h.get? b = some u → h'.get? b = some u) (hp : h.objs.size ≤ a) (new : ObjOk P w (upd H a o) h' a o) : HOk P w (upd H a o) h' := fun b u e => by
  have hn := x.fresh hp
  by_cases hb : b = a
  · subst hb; rw [upd_same] at e; cases e; exact new
  · rw [upd_ne hb] at e
    exact (x b u e).stay (fun c v _ q => k c v q) (fun c q => by rw [upd_ne (ne_of_none q hn)]; exact q) fun c xs q => by rw [upd_ne (ne_of_none q hn)]; exact q
end
def Rd (H : Hp) (a : Addr) (u : HO) : Prop := H a = some u ∨ ∃ o, H a = some (.frz o u)
theorem Rd.ok {P : Program} {w : World} {H : Hp} {h : Heap} {a : Addr} {u : HO} (r : Rd H a u) (x : HOk P w H h) : ObjOk P w H h a u := by
  rcases r with r | ⟨o, r⟩
  · exact x a u r
  · obtain ⟨_, q⟩ := x a _ r
    exact q
def Mut : Option HO → Prop
  | some (.lst _) => True
  | some (.dK _) => True
  | some (.dT _) => True
  | some (.set _ _) => True
  | some (.ins _ _ _) => True
  | some (.ext _) => True
  | _ => False
section
variable {P : Program} {w : World} {H : Hp} {h h' : Heap} {x e : Addr} {o' : HO}
theorem HOk.write (ok : HOk P w H h) (mu : Mut (H x)) (he : e = x ∨ H e = some (.own x)) (k : ∀ b u, b ≠ e → h.get? b = some u → h'.get? b = some u) (heo : ∃ u, h'.get? e = some u)
    (new : ObjOk P w (upd H x o') h' x o') : HOk P w (upd H x o') h' := fun b u q => by
  have nown : ∀ c y, H c = some (.own y) → c ≠ x := fun c y r z => by subst z; rw [r] at mu; exact mu
  have ntup : ∀ c xs, H c = some (.tup xs) → c ≠ x := fun c xs r z => by subst z; rw [r] at mu; exact mu
  by_cases hb : b = x
  · subst hb; rw [upd_same] at q; cases q; exact new
  · rw [upd_ne hb] at q
    by_cases hbe : b = e
    · have q' : H b = some (.own x) := by
        rcases he with z | z
        · exact absurd (hbe.trans z) hb
        · rw [hbe]; exact z
      rw [q] at q'; cases q'
      obtain ⟨v, hv⟩ := heo
      exact ⟨v, by rw [hbe]; exact hv⟩
    · refine (ok b u q).stay (fun c v hc r => k c v ?_ r) (fun c r => by rw [upd_ne (nown c b r)]; exact r) fun c xs r => by rw [upd_ne (ntup c xs r)]; exact r
      rcases hc with rfl | hc
      · exact hbe
      · rintro rfl
        rcases he with z | z
        · exact nown c b hc z
        · rw [hc] at z; cases z; exact hb rfl
end
structure Un (fs ex : List Addr) (H H' : Hp) (h h' : Heap) : Prop where
  keep : ∀ b o, h.get? b = some o → H b = none → b ∉ fs → b ∉ ex → h'.get? b = some o
  slot : ∀ b o, h.get? b = some o → H b = none → b ∈ fs → b ∉ ex → ∃ sl, h'.get? b = some { o with slots := sl }
  free : ∀ b o, h.get? b = some o → H b = none → b ∉ ex → H' b = none
  there : ∀ b o, h.get? b = some o → b ∉ ex → ∃ o', h'.get? b = some o'
  tups : ∀ b xs, H b = some (.tup xs) → H' b = some (.tup xs)
  frzs : ∀ b o u, H b = some (.frz o u) → H' b = some (.frz o u)
  tbls : ∀ b ps, H b = some (.tbl ps) → ∃ more, H' b = some (.tbl (ps ++ more))
section
variable {fs fs' ex ex' : List Addr} {H H1 H2 : Hp} {h h1 h2 h' : Heap} {a x e : Addr} {o : HO}
theorem Un.any (u : Un fs ex H H1 h h1) {b : Addr} {ob : Obj} (q : h.get? b = some ob) (n : H b = none) (hx : b ∉ ex) : ∃ sl, h1.get? b = some { ob with slots := sl } := by
  by_cases hb : b ∈ fs
  · exact u.slot b ob q n hb hx
  · exact ⟨ob.slots, u.keep b ob q n hb hx⟩
theorem Un.kept (k : ∀ b u, h.get? b = some u → h'.get? b = some u) : Un fs ex H H h h' :=
  ⟨fun b ob q _ _ _ => k b ob q, fun b ob q _ _ _ => ⟨ob.slots, k b ob q⟩, fun _ _ _ n _ => n, fun b ob q _ => ⟨ob, k b ob q⟩, fun _ _ q => q, fun _ _ _ q => q, fun _ ps q => ⟨#[], by rw [q]; simp⟩⟩
theorem Un.refl : Un fs ex H H h h := Un.kept fun _ _ q => q
theorem Un.laid (k : ∀ b u, h.get? b = some u → h'.get? b = some u) (hp : h.objs.size ≤ a) (hn : H a = none) : Un fs ex H (upd H a o) h h' where
  keep := fun b u q _ _ _ => k b u q
  slot := fun b u q _ _ _ => ⟨u.slots, k b u q⟩
  free := fun b u q n _ => by rw [upd_ne (Nat.ne_of_lt (Nat.lt_of_lt_of_le (Heap.lt_size q) hp))]; exact n
  there := fun b u q _ => ⟨u, k b u q⟩
  tups := fun b xs q => by rw [upd_ne (ne_of_none q hn)]; exact q
  frzs := fun b u xs q => by rw [upd_ne (ne_of_none q hn)]; exact q
  tbls := fun b ps q => ⟨#[], by rw [upd_ne (ne_of_none q hn), q]; simp⟩
theorem Un.write (mu : Mut (H x)) (he : e = x ∨ H e = some (.own x)) (k : ∀ b u, b ≠ e → h.get? b = some u → h'.get? b = some u) (heo : ∃ u, h'.get? e = some u) : Un fs ex H (upd H x o) h h' := by
  have hx : ∀ b, H b = none → b ≠ x := fun b n z => by subst z; rw [n] at mu; exact mu
  have hb : ∀ b, H b = none → b ≠ e := fun b n z => by
    subst z
    rcases he with r | r
    · exact hx b n r
    · rw [n] at r; cases r
  have hm : ∀ b u, H b = some u → ¬ Mut (some u) → b ≠ x := fun b u q nm z => by subst z; rw [q] at mu; exact nm mu
  refine ⟨fun b u q n _ _ => k b u (hb b n) q, fun b u q n _ _ => ⟨u.slots, k b u (hb b n) q⟩, fun b u q n _ => by rw [upd_ne (hx b n)]; exact n, fun b u q _ => ?_,
    fun b xs q => by rw [upd_ne (hm b _ q fun z => z)]; exact q, fun b u xs q => by rw [upd_ne (hm b _ q fun z => z)]; exact q, fun b ps q => ⟨#[], by rw [upd_ne (hm b _ q fun z => z), q]; simp⟩⟩
  by_cases hbe : b = e
  · subst hbe; exact heo
  · exact ⟨u, k b u hbe q⟩
end
def trk (h : Heap) (H : Hp) : List Addr := (List.range h.objs.size).filter fun a => (H a).isSome
def hidT (h : Heap) (H : Hp) : Heap := PySem.W.hideAll h (trk h H)
theorem hidT_size (h : Heap) (H : Hp) : (hidT h H).objs.size = h.objs.size := PySem.W.hideAll_size _ _
theorem hidT_get {h : Heap} {H : Hp} {b : Addr} {o : Obj} (e : h.get? b = some o) (n : H b = none) : (hidT h H).get? b = some o :=
  PySem.W.hideAll_get _ e fun hm => by
    have q : (H b).isSome = true := (List.mem_filter.mp hm).2
    rw [n] at q; simp at q
theorem of_hidT {h : Heap} {H : Hp} {b : Addr} {o : Obj} (e : (hidT h H).get? b = some o) : h.get? b = some o ∧ H b = none := by
  have e' : h.get? b = some o := PySem.W.of_hideAll (trk h H) e
  refine ⟨e', ?_⟩
  cases q : H b with
  | none => rfl
  | some x =>
    have hm : b ∈ trk h H := List.mem_filter.mpr ⟨List.mem_range.mpr (Heap.lt_size e'), by simp [q]⟩
    have z : (hidT h H).get? b = none := PySem.W.hideAll_none (trk h H) hm
    rw [z] at e; cases e
def allNews (g h : Heap) (L : Addr) : List (Addr × Obj) := (List.range h.objs.size).filterMap fun a => if a = L ∨ (g.get? a).isSome = true then none else (h.get? a).map fun o => (a, o)
def rest (g h : Heap) (L d : Addr) : List (Addr × Obj) := (allNews g h L).filter fun p => decide (p.1 ≠ d)
open PySem PySem.Spec PyProof.Rows
structure Mod (K : PySem.W.Frag) (mg : Str → Option Value) (base : Heap) : Prop where
  kin : K.In base
  glob : base.Ns mainGlobals mg
  blt : ∃ mb, base.Ns builtinsNs mb ∧ ∀ x : Str, x ≠ "__name__" → mb x = bootBuiltins x
  nolimit : base.NoLimit
structure Cx where
  prog : Program
  w : World
  K : PySem.W.Frag
  mg : Str → Option Value
  base : Heap
  A : Around
  N : List Str
  s₀ : Shared
  H₀ : Hp
  env : Env
  outer : List Env
  stack : List Env
  ex : List Addr
  fn : Str → Bool
  calm : Bool
  pn : List (Addr × Obj)
  xe : Value → Shared → Prop
def frs (l : List Env) : List Addr := l.filterMap (·.frame)
abbrev Cx.fs (X : Cx) : List Addr := frs X.outer
def Vis (sc : Scope) (x : Str) : Prop := sc.names.lookup x = some .local ∨ sc.names.lookup x = some .cell ∨ sc.names.lookup x = some .free
def Loc (sc : Scope) (x : Str) : Prop := sc.names.lookup x = some .local ∨ sc.names.lookup x = some .cell
def Look (env : Env) (h : Heap) (m : Str → Option Value) (x : Str) (u : Value) : Prop :=
  (env.kindOf x = some .local ∧ m x = some u) ∨ ((env.kindOf x = some .cell ∨ env.kindOf x = some .free) ∧ ∃ c, env.cells.lookup x = some c ∧ h.IsCell c (some u))
structure Cx.Ok (X : Cx) : Prop where
  mod : Mod X.K X.mg X.base
  kind : X.env.scope.kind = .function
  glob : X.env.globals = mainGlobals
  blt : X.env.builtins = builtinsNs
  above : X.s₀.heap.objs.size ≤ X.env.locals
  inj : ∀ x y c, X.env.cells.lookup x = some c → X.env.cells.lookup y = some c → x = y
  has : ∀ x, (X.env.kindOf x = some .cell ∨ X.env.kindOf x = some .free) → ∃ c, X.env.cells.lookup x = some c
  cab : ∀ x c, X.fn x = true → X.env.cells.lookup x = some c → X.s₀.heap.objs.size ≤ c
  hd : X.calm = true → X.A.handled = none
  frames : X.A.frames = some X.stack
  stk : X.stack = X.outer ∨ (X.stack = X.env :: X.outer ∧ X.env.frame = some X.env.locals)
  exf : ∀ b ∈ X.ex, b ≠ X.env.locals ∧ ∀ x c, X.env.cells.lookup x = some c → c ≠ b
  bs : ∀ b o, X.base.get? b = some o → X.s₀.heap.get? b = some o ∧ X.H₀ b = none
  bsz : X.base.objs.size ≤ X.s₀.heap.objs.size
  noex : ∀ b o, X.base.get? b = some o → b ∉ X.ex
  exfs : ∀ b ∈ X.ex, b ∉ X.fs
  funs : X.s₀.heap.FunFrames X.base X.outer
  frf : ∀ b ∈ X.fs, X.H₀ b = none
structure Inv (X : Cx) (pins : List (Addr × Obj)) (σ : List (Option V)) (H : Hp) (s : Shared) : Prop where
  ok : X.Ok
  os : s.os = X.s₀.os
  bare : AllBare s.gens
  base : Un X.fs X.ex X.H₀ H X.s₀.heap s.heap
  loc : ∃ m, s.heap.Ns X.env.locals m ∧ ∀ (i : Nat) (x : Str) (v : V), X.N[i]? = some x → σ[i]? = some (some v) → Vis X.env.scope x → ∃ u, RelV v u ∧ Look X.env s.heap m x u
  cell : ∀ x c, X.env.cells.lookup x = some c → ∃ v, s.heap.IsCell c v
  free : H X.env.locals = none
  freeC : ∀ x c, X.env.cells.lookup x = some c → H c = none
  pin : ∀ p ∈ X.pn ++ pins, s.heap.get? p.1 = some p.2 ∧ H p.1 = none ∧ p.1 ≠ X.env.locals ∧ p.1 ∉ X.fs ∧ ∀ v, p.2.data ≠ .cell v
  hok : HOk X.prog X.w H s.heap
  len : σ.length = X.N.length
section
variable {X : Cx} {pins : List (Addr × Obj)} {σ : List (Option V)} {H H' : Hp} {s : Shared} {h' : Heap}
theorem Cx.Ok.nofr (ok : X.Ok) {b : Addr} {o : Obj} (e : X.base.get? b = some o) : b ∉ X.fs := fun hb => by
  have := (ok.funs.mem hb).1
  rw [e] at this; cases this
theorem Inv.bs (I : Inv X pins σ H s) : ∀ b o, X.base.get? b = some o → s.heap.get? b = some o ∧ H b = none := fun b o e =>
  ⟨I.base.keep b o (I.ok.bs b o e).1 (I.ok.bs b o e).2 (I.ok.nofr e) (I.ok.noex b o e), I.base.free b o (I.ok.bs b o e).1 (I.ok.bs b o e).2 (I.ok.noex b o e)⟩
theorem Inv.bk (I : Inv X pins σ H s) : ∀ b o, X.base.get? b = some o → s.heap.get? b = some o := fun b o e => (I.bs b o e).1
theorem Inv.mod (I : Inv X pins σ H s) : Mod X.K X.mg X.base := I.ok.mod
theorem Inv.kIn (I : Inv X pins σ H s) : X.K.In s.heap := I.ok.mod.kin.keeps I.bk
theorem Inv.lt (I : Inv X pins σ H s) : X.env.locals < s.heap.objs.size := let ⟨_, hn, _⟩ := I.loc; hn.lt
theorem Inv.sz (I : Inv X pins σ H s) : X.s₀.heap.objs.size ≤ s.heap.objs.size := Nat.le_trans I.ok.above (Nat.le_of_lt I.lt)
theorem Inv.nofs (I : Inv X pins σ H s) {a : Addr} (h : s.heap.objs.size ≤ a) : a ∉ X.fs := fun hb => by
  obtain ⟨_, o, ho, _⟩ := I.ok.funs.mem hb
  exact absurd (Nat.lt_of_lt_of_le (Heap.lt_size ho) (Nat.le_trans I.sz h)) (Nat.lt_irrefl _)
theorem Inv.cne (I : Inv X pins σ H s) : ∀ x c, X.env.cells.lookup x = some c → c ≠ X.env.locals := fun x c e z => by
  obtain ⟨v, o, ho, hd⟩ := I.cell x c e
  obtain ⟨m, ⟨o', es, ep, ho', hd', _⟩, _⟩ := I.loc
  rw [z, ho'] at ho; cases ho; rw [hd'] at hd; cases hd
theorem Inv.funs (I : Inv X pins σ H s) : s.heap.FunFrames X.base X.outer := by
  have all : ∀ (l : List Env), (∀ b ∈ frs l, b ∈ X.fs) → X.s₀.heap.FunFrames X.base l → s.heap.FunFrames X.base l := by
    intro l
    induction l with
    | nil => intro _ _; trivial
    | cons env r ih =>
      intro hs hl
      obtain ⟨hk, ⟨L, o, hf, hn, ho, hd⟩, hr⟩ := hl
      have hL : L ∈ X.fs := hs L (by unfold frs; rw [List.filterMap_cons, hf]; exact List.mem_cons_self)
      obtain ⟨sl, e⟩ := I.base.slot L o ho (I.ok.frf L hL) hL fun z => I.ok.exfs L z hL
      exact ⟨hk, ⟨L, _, hf, hn, e, hd⟩, ih (fun b hb => hs b (by unfold frs; rw [List.filterMap_cons, hf]; exact List.mem_cons_of_mem _ hb)) hr⟩
  exact all X.outer (fun _ hb => hb) I.ok.funs
theorem Inv.stack (I : Inv X pins σ H s) : s.heap.FunFrames X.base X.stack := by
  rcases I.ok.stk with e | ⟨e, hf⟩
  · rw [e]; exact I.funs
  · rw [e]
    obtain ⟨m, hn, _⟩ := I.loc
    refine .cons (by rw [I.ok.kind]; decide) hf hn ?_ I.funs
    exact Heap.get?_none_of_le (Nat.le_trans I.ok.bsz I.ok.above)
theorem Inv.stkSub (I : Inv X pins σ H s) : ∀ b ∈ frs X.stack, b ∈ X.env.locals :: X.fs := fun b hb => by
  rcases I.ok.stk with e | ⟨e, hf⟩
  · rw [e] at hb; exact List.mem_cons_of_mem _ hb
  · rw [e] at hb
    unfold frs at hb
    rw [List.filterMap_cons, hf] at hb
    exact hb
theorem Inv.stkFree (I : Inv X pins σ H s) : ∀ b ∈ frs X.stack, H b = none := fun b hb => by
  rcases List.mem_cons.mp (I.stkSub b hb) with e | hb
  · rw [e]; exact I.free
  · obtain ⟨_, o, ho, _⟩ := I.ok.funs.mem hb
    exact I.base.free b o ho (I.ok.frf b hb) fun z => I.ok.exfs b z hb
theorem Inv.step {g' : Array GenState} {t' : Nat} {d' : Drawn} {ch : List Addr} (I : Inv X pins σ H s)
    (hch : ∀ b ∈ ch, (b ∈ X.ex ∨ X.s₀.heap.objs.size ≤ b) ∧ b ≠ X.env.locals ∧ (∀ x c, X.env.cells.lookup x = some c → c ≠ b) ∧ ∀ p ∈ X.pn ++ pins, p.1 ≠ b)
    (keep : ∀ b o, b ≠ X.env.locals → b ∉ X.fs → b ∉ ch → s.heap.get? b = some o → H b = none → h'.get? b = some o)
    (slot : ∀ b o, b ≠ X.env.locals → b ∈ X.fs → b ∉ ch → s.heap.get? b = some o → H b = none → ∃ sl, h'.get? b = some { o with slots := sl }) (free : ∀ b o, b ∉ ch → s.heap.get? b = some o → H b = none → H' b = none)
    (there : ∀ b o, b ∉ ch → s.heap.get? b = some o → ∃ o', h'.get? b = some o')
    (tups : ∀ b xs, H b = some (.tup xs) → H' b = some (.tup xs)) (frzs : ∀ b o u, H b = some (.frz o u) → H' b = some (.frz o u)) (tbls : ∀ b ps, H b = some (.tbl ps) → ∃ more, H' b = some (.tbl (ps ++ more)))
    (ns : ∀ m, s.heap.Ns X.env.locals m → h'.Ns X.env.locals m) (hok : HOk X.prog X.w H' h') (hg : AllBare g') :
    Inv X pins σ H' { s with heap := h', gens := g', drawn := d', toks := t' } := by
  have neL : ∀ b o, X.s₀.heap.get? b = some o → b ≠ X.env.locals := fun b o e => Nat.ne_of_lt (Nat.lt_of_lt_of_le (Heap.lt_size e) I.ok.above)
  have neC : ∀ b o, X.s₀.heap.get? b = some o → b ∉ X.ex → b ∉ ch := fun b o e hx hb => by
    rcases (hch b hb).1 with z | z
    · exact hx z
    · exact absurd (Nat.lt_of_lt_of_le (Heap.lt_size e) z) (Nat.lt_irrefl _)
  have cellK : ∀ x c, X.env.cells.lookup x = some c → ∀ v, s.heap.IsCell c v → h'.IsCell c v := fun x c e v ⟨o, ho, hd⟩ => by
    have nch : c ∉ ch := fun z => (hch c z).2.2.1 x c e rfl
    by_cases hc : c ∈ X.fs
    · obtain ⟨sl, q⟩ := slot c o (I.cne x c e) hc nch ho (I.freeC x c e)
      exact ⟨_, q, hd⟩
    · exact ⟨o, keep c o (I.cne x c e) hc nch ho (I.freeC x c e), hd⟩
  refine ⟨I.ok, I.os, hg, ⟨fun b o e n hb hx => ?_, fun b o e n hb hx => ?_, fun b o e n hx => ?_, fun b o e hx => ?_, fun b xs e => tups b xs (I.base.tups b xs e), fun b o xs e => frzs b o xs (I.base.frzs b o xs e), fun b ps e => ?_⟩, ?_, fun x c e => ?_, ?_, fun x c e => ?_, fun p hp => ?_, hok, I.len⟩
  · exact keep b o (neL b o e) hb (neC b o e hx) (I.base.keep b o e n hb hx) (I.base.free b o e n hx)
  · obtain ⟨sl, e1⟩ := I.base.slot b o e n hb hx
    obtain ⟨sl', e2⟩ := slot b _ (neL b o e) hb (neC b o e hx) e1 (I.base.free b o e n hx)
    exact ⟨sl', e2⟩
  · obtain ⟨o', e1⟩ := I.base.there b o e hx
    exact free b o' (neC b o e hx) e1 (I.base.free b o e n hx)
  · obtain ⟨o', e1⟩ := I.base.there b o e hx
    exact there b o' (neC b o e hx) e1
  · obtain ⟨m1, e1⟩ := I.base.tbls b ps e
    obtain ⟨m2, e2⟩ := tbls b _ e1
    exact ⟨m1 ++ m2, by rw [e2, Array.append_assoc]⟩
  · obtain ⟨m, hn, hl⟩ := I.loc
    refine ⟨m, ns m hn, fun i x v e1 e2 e3 => ?_⟩
    obtain ⟨u, r, l⟩ := hl i x v e1 e2 e3
    refine ⟨u, r, ?_⟩
    rcases l with l | ⟨k, c, e, z⟩
    · exact .inl l
    · exact .inr ⟨k, c, e, cellK x c e _ z⟩
  · obtain ⟨v, z⟩ := I.cell x c e
    exact ⟨v, cellK x c e v z⟩
  · obtain ⟨m, ⟨o, _, _, ho, _⟩, _⟩ := I.loc
    exact free _ o (fun z => (hch _ z).2.1 rfl) ho I.free
  · obtain ⟨v, o, ho, hd⟩ := I.cell x c e
    exact free c o (fun z => (hch c z).2.2.1 x c e rfl) ho (I.freeC x c e)
  · obtain ⟨e, n, ne, nf, d⟩ := I.pin p hp
    have nch : p.1 ∉ ch := fun z => (hch p.1 z).2.2.2 p hp rfl
    exact ⟨keep p.1 p.2 ne nf nch e n, free p.1 p.2 nch e n, ne, nf, d⟩
theorem Inv.un {t' : Nat} (I : Inv X pins σ H s) (u : Un X.fs [] H H' s.heap h') (hok : HOk X.prog X.w H' h') : Inv X pins σ H' { s with heap := h', toks := t' } := by
  obtain ⟨m, ⟨o, es, ep, ho, r⟩, _⟩ := id I.loc
  obtain ⟨sl, hL⟩ := u.any ho I.free (by simp)
  exact I.step (g' := s.gens) (d' := s.drawn) (ch := []) (fun _ z => nomatch z) (fun b o _ hb _ e n => u.keep b o e n hb (by simp)) (fun b o _ hb _ e n => u.slot b o e n hb (by simp)) (fun b o _ e n => u.free b o e n (by simp)) (fun b o _ e => u.there b o e (by simp)) u.tups u.frzs u.tbls (fun m' hm => by
    obtain ⟨o', es', ep', ho', r'⟩ := hm
    rw [ho] at ho'; cases ho'
    exact ⟨_, es', ep', hL, r'⟩) hok I.bare
theorem Inv.call {g' : Array GenState} {t' : Nat} {d' : Drawn} {ch : List Addr} (I : Inv X pins σ H s) (u : Un (frs X.stack) ch H H' s.heap h') (hok : HOk X.prog X.w H' h') (hg : AllBare g')
    (hch : ∀ b ∈ ch, (b ∈ X.ex ∨ X.s₀.heap.objs.size ≤ b) ∧ b ≠ X.env.locals ∧ (∀ x c, X.env.cells.lookup x = some c → c ≠ b) ∧ ∀ p ∈ X.pn ++ pins, p.1 ≠ b) :
    Inv X pins σ H' { s with heap := h', gens := g', drawn := d', toks := t' } := by
  obtain ⟨m, ⟨o, es, ep, ho, r⟩, _⟩ := id I.loc
  obtain ⟨sl, hL⟩ := u.any ho I.free fun z => (hch _ z).2.1 rfl
  exact I.step (ch := ch) hch (fun b o hL hb hc e n => u.keep b o e n (fun z => (List.mem_cons.mp (I.stkSub b z)).elim hL hb) hc) (fun b o _ _ hc e n => u.any e n hc) (fun b o hc e n => u.free b o e n hc) (fun b o hc e => u.there b o e hc) u.tups u.frzs u.tbls (fun m' hm => by
    obtain ⟨o', es', ep', ho', r'⟩ := hm
    rw [ho] at ho'; cases ho'
    exact ⟨_, es', ep', hL, r'⟩) hok hg
theorem Inv.turned {t' : Nat} {it : Addr} (I : Inv X pins σ H s) (k : ∀ b o, b ≠ it → s.heap.get? b = some o → h'.get? b = some o) (hn : H it = none) (hL : it ≠ X.env.locals)
    (h1 : it ∈ X.ex ∨ X.s₀.heap.objs.size ≤ it) (h2 : ∀ x c, X.env.cells.lookup x = some c → c ≠ it) (h3 : ∀ p ∈ X.pn ++ pins, p.1 ≠ it) : Inv X pins σ H { s with heap := h', toks := t' } := by
  have nit : ∀ b u, H b = some u → b ≠ it := fun b u e z => by rw [z, hn] at e; cases e
  refine I.step (g' := s.gens) (d' := s.drawn) (ch := [it]) (fun b hb => ?_) (fun b o _ _ hc e _ => k b o (fun z => hc (by simp [z])) e) (fun b o _ _ hc e _ => ⟨o.slots, k b o (fun z => hc (by simp [z])) e⟩) (fun _ _ _ _ n => n)
    (fun b o hc e => ⟨o, k b o (fun z => hc (by simp [z])) e⟩) (fun _ _ e => e) (fun _ _ _ e => e) (fun b ps e => ⟨#[], by rw [e]; simp⟩) (fun m hm => ?_) (fun b u e => ?_) I.bare
  · have e : b = it := by simpa using hb
    subst e
    exact ⟨h1, hL, h2, h3⟩
  · obtain ⟨o, es, ep, ho, r⟩ := hm
    exact ⟨o, es, ep, k _ o (Ne.symm hL) ho, r⟩
  · refine (I.hok b u e).stay (fun c v hc q => k c v ?_ q) (fun _ q => q) fun _ _ q => q
    rcases hc with z | z
    · rw [z]; exact nit b u e
    · exact nit c _ z
theorem Inv.tok (I : Inv X pins σ H s) (t : Nat) : Inv X pins σ H { s with toks := t } := I.un (h' := s.heap) (t' := t) Un.refl I.hok
theorem Inv.kept {t' : Nat} (I : Inv X pins σ H s) (k : ∀ b u, s.heap.get? b = some u → h'.get? b = some u) : Inv X pins σ H { s with heap := h', toks := t' } := I.un (Un.kept k) (I.hok.kept k)
theorem Inv.laid {a : Addr} {o : HO} {t' : Nat} (I : Inv X pins σ H s) (k : ∀ b u, s.heap.get? b = some u → h'.get? b = some u) (hp : s.heap.objs.size ≤ a) (new : ObjOk X.prog X.w (upd H a o) h' a o) :
    Inv X pins σ (upd H a o) { s with heap := h', toks := t' } := I.un (Un.laid k hp (I.hok.fresh hp)) (I.hok.laid k hp new)
theorem Inv.write {x e : Addr} {o : HO} {t' : Nat} (I : Inv X pins σ H s) (mu : Mut (H x)) (he : e = x ∨ H e = some (.own x)) (k : ∀ b u, b ≠ e → s.heap.get? b = some u → h'.get? b = some u) (heo : ∃ u, h'.get? e = some u)
    (new : ObjOk X.prog X.w (upd H x o) h' x o) : Inv X pins σ (upd H x o) { s with heap := h', toks := t' } := I.un (Un.write mu he k heo) (I.hok.write mu he k heo new)
theorem Inv.pins_of {pins' : List (Addr × Obj)} (I : Inv X pins σ H s) (h : ∀ p ∈ pins', s.heap.get? p.1 = some p.2 ∧ H p.1 = none ∧ p.1 ≠ X.env.locals ∧ p.1 ∉ X.fs ∧ ∀ v, p.2.data ≠ .cell v) : Inv X pins' σ H s :=
  ⟨I.ok, I.os, I.bare, I.base, I.loc, I.cell, I.free, I.freeC, fun p hp => (List.mem_append.mp hp).elim (fun z => I.pin p (List.mem_append_left _ z)) (h p), I.hok, I.len⟩
theorem nodup_ix {N : List Str} (hN : N.Nodup) {i j : Nat} {x : Str} (a : N[i]? = some x) (b : N[j]? = some x) : i = j := by
  obtain ⟨h1, e1⟩ := List.getElem?_eq_some_iff.mp a
  obtain ⟨h2, e2⟩ := List.getElem?_eq_some_iff.mp b
  exact (List.getElem_inj hN).mp (e1.trans e2.symm)
theorem store_ok2 {M : Model} {A : Around} {E : Value → Shared → Prop} {i : Nat} {x : Str} {v : V} {u : Value} {Q : Unit → Shared → Prop} (I : Inv X pins σ H s) (hN : X.N.Nodup) (hi : X.N[i]? = some x) (hx : Loc X.env.scope x) (r : RelV v u)
    (h : ∀ s', Inv X pins (σ.set i (some v)) H s' → (∃ a, Heap.SameBut a s.heap s'.heap ∧ (a = X.env.locals ∨ X.env.cells.lookup x = some a)) → Q () s') (hf : X.fn x = true ∨ X.env.scope.names.lookup x = some .local := by first | exact .inl rfl | exact .inr rfl | assumption) : wpAny M A (storeName X.env x u) Q E s := by
  obtain ⟨m, hn, hl⟩ := id I.loc
  have hcls : (X.env.scope.kind == .class || (X.env.scope.kind == .module && X.env.locals != X.env.globals)) = false := by rw [I.ok.kind]; rfl
  have hiσ : i < σ.length := by rw [I.len]; exact (List.getElem?_eq_some_iff.mp hi).1
  have cne := I.cne
  have tracked : ∀ {a : Addr} {h' : Heap}, (∃ o, s.heap.get? a = some o ∧ H a = none) → Heap.SameBut a s.heap h' → HOk X.prog X.w H h' := fun {a h'} ha hs b ob e => by
    obtain ⟨_, _, hfree⟩ := ha
    refine (I.hok b ob e).stay (fun c w' hc q => (hs.2 c ?_).trans q) (fun _ q => q) fun _ _ q => q
    rintro rfl
    rcases hc with rfl | hc
    · rw [hfree] at e; cases e
    · rw [hfree] at hc; cases hc
  rcases hx with hk | hk
  · refine wpAny_storeName_local hk hn (fun h' hn' hs => ?_) hcls
    obtain ⟨oL, _, _, hoL, _⟩ := id hn
    refine h _ ⟨I.ok, I.os, I.bare, ⟨fun b o e n hb hx => ?_, fun b o e n hb hx => ?_, I.base.free, fun b o e hx => ?_, I.base.tups, I.base.frzs, I.base.tbls⟩, ⟨_, hn', fun j y v' e1 e2 e3 => ?_⟩, fun y c e => ?_, I.free, I.freeC, fun p hp => ?_, tracked ⟨oL, hoL, I.free⟩ hs, by simpa using I.len⟩ ⟨_, hs, .inl rfl⟩
    · exact (hs.2 b (Nat.ne_of_lt (Nat.lt_of_lt_of_le (Heap.lt_size e) I.ok.above))).trans (I.base.keep b o e n hb hx)
    · obtain ⟨sl, e1⟩ := I.base.slot b o e n hb hx
      exact ⟨sl, (hs.2 b (Nat.ne_of_lt (Nat.lt_of_lt_of_le (Heap.lt_size e) I.ok.above))).trans e1⟩
    · obtain ⟨o', e1⟩ := I.base.there b o e hx
      exact ⟨o', (hs.2 b (Nat.ne_of_lt (Nat.lt_of_lt_of_le (Heap.lt_size e) I.ok.above))).trans e1⟩
    · by_cases hj : j = i
      · subst hj
        rw [hi] at e1; cases e1
        rw [List.getElem?_set_self hiσ] at e2
        cases e2
        exact ⟨u, r, .inl ⟨hk, by simp⟩⟩
      · rw [List.getElem?_set_ne (Ne.symm hj)] at e2
        obtain ⟨u', r', q⟩ := hl j y v' e1 e2 e3
        refine ⟨u', r', ?_⟩
        rcases q with ⟨k, e⟩ | ⟨k, c, e, z⟩
        · refine .inl ⟨k, ?_⟩
          have : y ≠ x := fun e => hj (nodup_ix hN e1 (e ▸ hi))
          simp [this, e]
        · exact .inr ⟨k, c, e, z.sameBut hs (cne y c e)⟩
    · obtain ⟨w', z⟩ := I.cell y c e
      exact ⟨w', z.sameBut hs (cne y c e)⟩
    · obtain ⟨e, n, ne, nf, d⟩ := I.pin p hp
      exact ⟨(hs.2 p.1 ne).trans e, n, ne, nf, d⟩
  · have hfn : X.fn x = true := by
      rcases hf with z | z
      · exact z
      · rw [z] at hk; cases hk
    obtain ⟨c, hc⟩ := I.ok.has x (.inl hk)
    obtain ⟨w', z⟩ := I.cell x c hc
    refine wpAny_storeName_cell I.ok.kind hk hc z (fun h' hc' hs => ?_)
    obtain ⟨oc, hoc, hocd⟩ := id z
    refine h { s with heap := h' } ⟨I.ok, I.os, I.bare, ⟨fun b o e n hb hx => ?_, fun b o e n hb hx => ?_, I.base.free, fun b o e hx => ?_, I.base.tups, I.base.frzs, I.base.tbls⟩, ⟨m, hn.sameBut hs (Ne.symm (cne x c hc)), fun j y v' e1 e2 e3 => ?_⟩, fun y c' e => ?_, I.free, I.freeC, fun p hp => ?_, tracked ⟨oc, hoc, I.freeC x c hc⟩ hs, by simpa using I.len⟩ ⟨c, hs, .inr hc⟩
    · exact (hs.2 b (Nat.ne_of_lt (Nat.lt_of_lt_of_le (Heap.lt_size e) (I.ok.cab x c hfn hc)))).trans (I.base.keep b o e n hb hx)
    · obtain ⟨sl, e1⟩ := I.base.slot b o e n hb hx
      exact ⟨sl, (hs.2 b (Nat.ne_of_lt (Nat.lt_of_lt_of_le (Heap.lt_size e) (I.ok.cab x c hfn hc)))).trans e1⟩
    · obtain ⟨o', e1⟩ := I.base.there b o e hx
      exact ⟨o', (hs.2 b (Nat.ne_of_lt (Nat.lt_of_lt_of_le (Heap.lt_size e) (I.ok.cab x c hfn hc)))).trans e1⟩
    · by_cases hj : j = i
      · subst hj
        rw [hi] at e1; cases e1
        rw [List.getElem?_set_self hiσ] at e2
        cases e2
        exact ⟨u, r, .inr ⟨.inl hk, c, hc, hc'⟩⟩
      · rw [List.getElem?_set_ne (Ne.symm hj)] at e2
        obtain ⟨u', r', q⟩ := hl j y v' e1 e2 e3
        refine ⟨u', r', ?_⟩
        rcases q with q | ⟨k, c', e, z'⟩
        · exact .inl q
        · refine .inr ⟨k, c', e, z'.sameBut hs ?_⟩
          rintro rfl
          exact hj (nodup_ix hN e1 (I.ok.inj _ _ _ e hc ▸ hi))
    · by_cases hcc : c' = c
      · subst hcc; exact ⟨_, hc'⟩
      · obtain ⟨w2, z2⟩ := I.cell y c' e
        exact ⟨w2, z2.sameBut hs hcc⟩
    · obtain ⟨e, n, ne, nf, d⟩ := I.pin p hp
      refine ⟨(hs.2 p.1 ?_).trans e, n, ne, nf, d⟩
      intro q
      rw [q, hoc] at e
      have q' : oc = p.2 := Option.some.inj e
      exact d w' (by rw [← q']; exact hocd)
theorem store_ok {M : Model} {A : Around} {E : Value → Shared → Prop} {i : Nat} {x : Str} {v : V} {u : Value} {Q : Unit → Shared → Prop} (I : Inv X pins σ H s) (hN : X.N.Nodup) (hi : X.N[i]? = some x) (hx : Loc X.env.scope x) (r : RelV v u)
    (h : ∀ s', Inv X pins (σ.set i (some v)) H s' → Q () s') (hf : X.fn x = true ∨ X.env.scope.names.lookup x = some .local := by first | exact .inl rfl | exact .inr rfl | assumption) : wpAny M A (storeName X.env x u) Q E s :=
  store_ok2 I hN hi hx r (fun s' I' _ => h s' I') hf
theorem Inv.call' {s' : Shared} {ch : List Addr} (I : Inv X pins σ H s) (ho : s'.os = s.os) (u : Un (frs X.stack) ch H H' s.heap s'.heap) (hok : HOk X.prog X.w H' s'.heap) (hg : AllBare s'.gens)
    (hch : ∀ b ∈ ch, (b ∈ X.ex ∨ X.s₀.heap.objs.size ≤ b) ∧ b ≠ X.env.locals ∧ (∀ x c, X.env.cells.lookup x = some c → c ≠ b) ∧ ∀ p ∈ X.pn ++ pins, p.1 ≠ b) : Inv X pins σ H' s' := by
  obtain ⟨h', g', d', t', o'⟩ := s'
  have e : o' = s.os := ho
  subst e
  exact I.call (g' := g') (t' := t') (d' := d') u hok hg hch
end
abbrev XK := Value → Option Addr → Hp → Prop
abbrev St := List (Option V)
abbrev VK := V → Hp → Prop
abbrev TE := St → Hp → VK → Prop
abbrev TT := St → Hp → (Bool → Hp → Prop) → Prop
abbrev TA := St → Hp → (List V → Hp → Prop) → Prop
structure Ends where
  nx : St → Hp → Prop
  rt : VK
  bk : St → Hp → Prop := fun _ _ => False
  ct : St → Hp → Prop := fun _ _ => False
abbrev TS := Ends → St → Hp → Prop
def EP (X : Cx) (pins : List (Addr × Obj)) (σ : St) (Q : VK) (u : Value) (s' : Shared) : Prop := ∃ v H', Inv X pins σ H' s' ∧ RelV v u ∧ Q v H'
def TP (X : Cx) (pins : List (Addr × Obj)) (σ : St) (Q : Bool → Hp → Prop) (b : Bool) (s' : Shared) : Prop := ∃ H', Inv X pins σ H' s' ∧ Q b H'
def AP (X : Cx) (pins : List (Addr × Obj)) (σ : St) (Q : List V → Hp → Prop) (us : List Value) (s' : Shared) : Prop := ∃ vs H', Inv X pins σ H' s' ∧ Vals vs us ∧ Q vs H'
def SP (X : Cx) (pins : List (Addr × Obj)) (D : Ends) (f : Flow) (s' : Shared) : Prop :=
  match f with
  | .next => ∃ σ' H', Inv X pins σ' H' s' ∧ D.nx σ' H'
  | .brk => ∃ σ' H', Inv X pins σ' H' s' ∧ D.bk σ' H'
  | .cont => ∃ σ' H', Inv X pins σ' H' s' ∧ D.ct σ' H'
  | .ret u => ∃ v σ' H', Inv X pins σ' H' s' ∧ RelV v u ∧ D.rt v H'
def PE (X : Cx) (e : Expr) (t : TE) : Prop :=
  ∀ (pins : List (Addr × Obj)) (s : Shared) (σ : St) (H : Hp) (Q : VK), Inv X pins σ H s → t σ H Q → wpAny (model X.prog X.w) X.A (eval e X.env) (EP X pins σ Q) X.xe s
def PT (X : Cx) (e : Expr) (t : TT) : Prop :=
  ∀ (pins : List (Addr × Obj)) (s : Shared) (σ : St) (H : Hp) (Q : Bool → Hp → Prop), Inv X pins σ H s → t σ H Q → wpAny (model X.prog X.w) X.A (isTrue e X.env (eval e X.env)) (TP X pins σ Q) X.xe s
def PW (X : Cx) (e : Expr) (t : TT) : Prop :=
  ∀ (whole : Sem Value) (pins : List (Addr × Obj)) (s : Shared) (σ : St) (H : Hp) (Q : Bool → Hp → Prop), Inv X pins σ H s → t σ H Q → wpAny (model X.prog X.w) X.A (isTrue e X.env whole) (TP X pins σ Q) X.xe s
theorem PW.pt {X : Cx} {e : Expr} {t : TT} (h : PW X e t) : PT X e t := h _
def PA (X : Cx) (es : List Expr) (t : TA) : Prop :=
  ∀ (pos : Pos) (pins : List (Addr × Obj)) (s : Shared) (σ : St) (H : Hp) (Q : List V → Hp → Prop), Inv X pins σ H s → t σ H Q → wpAny (model X.prog X.w) X.A (spliced (backTo pos (starEach es X.env))) (AP X pins σ Q) X.xe s
def PS (X : Cx) (st : Stmt) (t : TS) : Prop :=
  ∀ (pins : List (Addr × Obj)) (s : Shared) (σ : St) (H : Hp) (D : Ends), Inv X pins σ H s → t D σ H → wpAny (model X.prog X.w) X.A (exec st X.env) (SP X pins D) X.xe s
def PSs (X : Cx) (st : List Stmt) (t : TS) : Prop :=
  ∀ (pins : List (Addr × Obj)) (s : Shared) (σ : St) (H : Hp) (D : Ends), Inv X pins σ H s → t D σ H → wpAny (model X.prog X.w) X.A (execs st X.env) (SP X pins D) X.xe s
theorem thn {α : Type} {t : Sem α} {Q Q' : α → Shared → Prop} {M : Model} {A : Around} {E : Value → Shared → Prop} {s : Shared} (h : wpAny M A t Q E s) (hQ : ∀ a s, Q a s → Q' a s) : wpAny M A t Q' E s := wpAny_mono h hQ fun _ _ x => x
open PySem PySem.Spec PyProof.Rows
section
variable {X : Cx}
def tVar (i : Nat) : TE := fun σ H Q => ∃ v, σ[i]? = some (some v) ∧ Q v H
def tC (v : V) : TE := fun _ H Q => Q v H
theorem pe_var {i : Nat} {x : Str} {pos : Pos} (hN : X.N[i]? = some x) (hv : Vis X.env.scope x) (hd : (x == ("__debug__" : Str)) = false := by decide) (hcd : (x == ("__classdict__" : Str)) = false := by decide) : PE X (.Name x pos) (tVar i) := by
  intro pins s σ H Q I h
  obtain ⟨v, e, h⟩ := h
  obtain ⟨m, hn, hl⟩ := I.loc
  obtain ⟨u, r, l⟩ := hl i x v hN e hv
  have fin : EP X pins σ Q u s := ⟨v, H, I, r, h⟩
  rcases l with ⟨hk, hm⟩ | ⟨hk, c, hc, hcell⟩
  · exact wpAny_Name (wpAny_loadName_local I.ok.kind hk hn hm fin) hd
  · rcases hk with hk | hk
    · exact wpAny_Name (wpAny_loadName_cell I.ok.kind hk hc hcell fin) hd
    · exact wpAny_Name (wpAny_loadName_free I.ok.kind hk hc hcell fin hcd) hd
theorem pe_int {i j pos} : PE X (.Constant (.int i) j pos) (tC (.int i)) := fun _ _ _ H _ I h => wpAny_Constant_int ⟨.int i, H, I.tok _, ⟨_, rfl⟩, h⟩
theorem pe_bl {b j pos} : PE X (.Constant (.bool b) j pos) (tC (.bl b)) := fun _ _ _ H _ I h => Constant_bool ⟨.bl b, H, I, rfl, h⟩
theorem pe_non {j pos} : PE X (.Constant .none j pos) (tC .non) := fun _ _ _ H _ I h => Constant_none ⟨.non, H, I, rfl, h⟩
theorem pe_str {x j pos} : PE X (.Constant (.str x) j pos) (tC (.str x)) := fun _ _ _ H _ I h => Calls.Constant_str ⟨.str x, H, I.tok _, ⟨_, rfl⟩, h⟩
def Gl (X : Cx) (x : Str) : Prop := X.env.kindOf x = some .globalImplicit
theorem ld_glob {E : Value → Shared → Prop} {pins : List (Addr × Obj)} {s : Shared} {σ : St} {H : Hp} {x : Str} {u : Value} {pos : Pos} {Q : Value → Shared → Prop} (I : Inv X pins σ H s) (hg : Gl X x) (hm : X.mg x = some u) (h : Q u s)
    (hd : (x == ("__debug__" : Str)) = false := by decide) : wpAny (model X.prog X.w) X.A (eval (.Name x pos) X.env) Q E s :=
  Calls.Name_function_global I.ok.kind hg (Calls.loadGlobal_global (by rw [I.ok.glob]; exact I.mod.glob.keeps I.bk) hm h) hd
theorem ld_blt {E : Value → Shared → Prop} {pins : List (Addr × Obj)} {s : Shared} {σ : St} {H : Hp} {x : Str} {u : Value} {pos : Pos} {Q : Value → Shared → Prop} (I : Inv X pins σ H s) (hg : Gl X x) (hm : X.mg x = none) (hv : bootBuiltins x = some u) (h : Q u s)
    (hn : x ≠ "__name__" := by decide) (hd : (x == ("__debug__" : Str)) = false := by decide) : wpAny (model X.prog X.w) X.A (eval (.Name x pos) X.env) Q E s := by
  obtain ⟨mb, h1, h2⟩ := I.mod.blt
  exact Calls.Name_function_global I.ok.kind hg (Calls.loadGlobal_builtin (by rw [I.ok.glob]; exact I.mod.glob.keeps I.bk) hm (by rw [I.ok.blt]; exact h1.keeps I.bk) ((h2 x hn).trans hv) h) hd
theorem pe_glob {x : Str} {v : V} {u : Value} {pos : Pos} (hg : Gl X x) (hm : X.mg x = some u) (r : RelV v u) (hd : (x == ("__debug__" : Str)) = false := by decide) : PE X (.Name x pos) (tC v) :=
  fun _ _ _ H _ I h => ld_glob I hg hm ⟨v, H, I, r, h⟩ hd
theorem pe_bltn {x : Str} {v : V} {u : Value} {pos : Pos} (hg : Gl X x) (hm : X.mg x = none) (hv : bootBuiltins x = some u) (r : RelV v u) (hn : x ≠ "__name__" := by decide) (hd : (x == ("__debug__" : Str)) = false := by decide) : PE X (.Name x pos) (tC v) :=
  fun _ _ _ H _ I h => ld_blt I hg hm hv ⟨v, H, I, r, h⟩ hn hd
def t2I (ta tb : TE) (k : Int → Int → Hp → Prop) : St → Hp → Prop := fun σ H => ta σ H fun x H1 => tb σ H1 fun y H2 => ∃ i j, x = .int i ∧ y = .int j ∧ k i j H2
def tAdd (ta tb : TE) : TE := fun σ H Q => t2I ta tb (fun i j H2 => Q (.int (i + j)) H2) σ H
def tSub (ta tb : TE) : TE := fun σ H Q => t2I ta tb (fun i j H2 => Q (.int (i - j)) H2) σ H
def tMul (ta tb : TE) : TE := fun σ H Q => t2I ta tb (fun i j H2 => (-(2 ^ 64) < i ∧ i < 2 ^ 64) ∧ Q (.int (i * j)) H2) σ H
variable {a b : Expr} {ta tb : TE} {pos : Pos}
def PC (X : Cx) (op : CmpOp) (a b : Expr) (t : TE) : Prop :=
  ∀ (pins : List (Addr × Obj)) (s : Shared) (σ : St) (H : Hp) (Q : VK), Inv X pins σ H s → t σ H Q →
    wpAny (model X.prog X.w) X.A (eval a X.env) (fun v s₁ => wpAny (model X.prog X.w) X.A (eval b X.env) (fun u s₂ => wpAny (model X.prog X.w) X.A (compareOp op v u) (EP X pins σ Q) X.xe s₂) X.xe s₁) X.xe s
theorem nobehind (b : Expr) {op : CmpOp} (h : op ≠ .In) (h2 : op ≠ .NotIn) : behindInMarks op b = false := by
  have e1 : (op == CmpOp.In) = false := by cases op <;> first | rfl | exact absurd rfl h
  have e2 : (op == CmpOp.NotIn) = false := by cases op <;> first | rfl | exact absurd rfl h2
  cases b <;> simp [behindInMarks, e1, e2]
def tCmp (p : Int → Int → Bool) (ta tb : TE) : TE := fun σ H Q => t2I ta tb (fun i j H2 => Q (.bl (p i j)) H2) σ H
abbrev tLt : TE → TE → TE := tCmp fun i j => decide (i < j)
abbrev tLe : TE → TE → TE := tCmp fun i j => decide (i ≤ j)
abbrev tGt : TE → TE → TE := tCmp fun i j => decide (j < i)
abbrev tGe : TE → TE → TE := tCmp fun i j => decide (j ≤ i)
abbrev tEqI : TE → TE → TE := tCmp fun i j => decide (i = j)
abbrev tNeI : TE → TE → TE := tCmp fun i j => !decide (i = j)
def tIsN (ta : TE) : TE := fun σ H Q => ta σ H fun x H1 => Q (.bl (decide (x = .non))) H1
def tNotN (ta : TE) : TE := fun σ H Q => ta σ H fun x H1 => Q (.bl (!decide (x = .non))) H1
def tB (t : TE) : TT := fun σ H Q => t σ H fun x H1 => ∃ c, x = .bl c ∧ Q c H1
theorem pt_cmp {op : CmpOp} {t : TE} (h : PC X op a b t) (h1 : behindInMarks op b = false := by first | exact nobehind _ (by decide) (by decide) | rfl) : PT X (.Compare a [op] [b] pos) (tB t) := by
  intro pins s σ H Q I hw
  refine wpAny_isTrue_Compare1 (thn (h pins s σ H _ I hw) fun v s1 h1 => thn h1 fun u s2 h2 => thn h2 fun c s3 ⟨x, H1, I1, r1, q1⟩ => ?_) h1
  obtain ⟨d, rfl, q⟩ := q1
  cases r1
  exact wpAny_truthy_bool ⟨H1, I1, q⟩
theorem pt_val {e : Expr} {t : TE} (h : PE X e t) (he : ∀ whole, isTrue e X.env whole = (do let v ← whole; standAt e.pos; holding [v] (truthy v)) := by intro _; rfl) : PT X e (tB t) := by
  intro pins s σ H Q I hw
  refine isTrue_plain (thn (h pins s σ H _ I hw) fun v s1 ⟨x, H1, I1, r1, q1⟩ => ?_) (he _)
  obtain ⟨d, rfl, q⟩ := q1
  cases r1
  exact wpAny_truthy_bool ⟨H1, I1, q⟩
variable {tA tB' : TT} {rest : List Expr}
def tAnd (t u : TT) : TT := fun σ H Q => t σ H fun c H1 => if c = true then u σ H1 Q else Q false H1
def tOr (t u : TT) : TT := fun σ H Q => t σ H fun c H1 => if c = true then Q true H1 else u σ H1 Q
def tNot (t : TT) : TT := fun σ H Q => t σ H fun c H1 => Q (!c) H1
theorem pw_and1 (ha : PT X a tA) : PW X (.BoolOp .And [a] pos) tA := by
  intro wh pins s σ H Q I h
  refine isTrue_and (thn (ha pins s σ H Q I h) fun c s1 e => ?_)
  cases c with
  | true => exact isTrue_and_nil e
  | false => exact e
theorem pw_or1 (ha : PT X a tA) : PW X (.BoolOp .Or [a] pos) tA := by
  intro wh pins s σ H Q I h
  refine isTrue_or (thn (ha pins s σ H Q I h) fun c s1 e => ?_)
  cases c with
  | false => exact isTrue_or_nil e
  | true => exact e
theorem pw_and (ha : PT X a tA) (hb : PW X (.BoolOp .And (b :: rest) pos) tB') : PW X (.BoolOp .And (a :: b :: rest) pos) (tAnd tA tB') := by
  intro wh pins s σ H Q I h
  refine isTrue_and (thn (ha pins s σ H _ I h) fun c s1 ⟨H1, I1, q1⟩ => ?_)
  cases c with
  | true => exact hb wh pins s1 σ H1 Q I1 q1
  | false => exact ⟨H1, I1, q1⟩
theorem pw_or (ha : PT X a tA) (hb : PW X (.BoolOp .Or (b :: rest) pos) tB') : PW X (.BoolOp .Or (a :: b :: rest) pos) (tOr tA tB') := by
  intro wh pins s σ H Q I h
  refine isTrue_or (thn (ha pins s σ H _ I h) fun c s1 ⟨H1, I1, q1⟩ => ?_)
  cases c with
  | true => exact ⟨H1, I1, q1⟩
  | false => exact hb wh pins s1 σ H1 Q I1 q1
theorem pt_not (ha : PT X a tA) : PT X (.UnaryOp .Not a pos) (tNot tA) := by
  intro pins s σ H Q I h
  exact isTrue_not (ha pins s σ H (fun c H1 => Q (!c) H1) I h)
def tAndV (ta tb : TE) : TE := fun σ H Q => ta σ H fun x H1 => ∃ c, x = .bl c ∧ if c = true then tb σ H1 Q else Q (.bl false) H1
def tOrV (ta tb : TE) : TE := fun σ H Q => ta σ H fun x H1 => ∃ c, x = .bl c ∧ if c = true then Q (.bl true) H1 else tb σ H1 Q
def tNotV (ta : TE) : TE := fun σ H Q => ta σ H fun x H1 => ∃ c, x = .bl c ∧ Q (.bl (!c)) H1
theorem pe_one {op} {t : TE} (h : PE X a t) : PE X (.BoolOp op [a] pos) t := fun pins s σ H Q I hw => BoolOp_one (h pins s σ H Q I hw)
theorem pe_and (ha : PE X a ta) (hb : PE X (.BoolOp .And (b :: rest) pos) tb) : PE X (.BoolOp .And (a :: b :: rest) pos) (tAndV ta tb) := by
  intro pins s σ H Q I h
  refine BoolOp_and (thn (ha pins s σ H _ I h) fun v s1 ⟨x, H1, I1, r1, q1⟩ => ?_)
  obtain ⟨c, rfl, q1⟩ := q1
  cases r1
  refine wpAny_truthy_bool ?_
  cases c with
  | true => exact hb pins s1 σ H1 Q I1 q1
  | false => exact ⟨.bl false, H1, I1, rfl, q1⟩
theorem pe_not (ha : PE X a ta) : PE X (.UnaryOp .Not a pos) (tNotV ta) := by
  intro pins s σ H Q I h
  refine UnaryOp_ (thn (ha pins s σ H _ I h) fun v s1 ⟨x, H1, I1, r1, q1⟩ => ?_)
  obtain ⟨c, rfl, q1⟩ := q1
  cases r1
  exact not_of (wpAny_truthy_bool ⟨.bl (!c), H1, I1, rfl, q1⟩)
def tIf (t : TT) (ta tb : TE) : TE := fun σ H Q => t σ H fun c H1 => if c = true then ta σ H1 Q else tb σ H1 Q
theorem pe_ifExp {c : Expr} (hc : PT X c tA) (ha : PE X a ta) (hb : PE X b tb) : PE X (.IfExp c a b pos) (tIf tA ta tb) := by
  intro pins s σ H Q I h
  refine wpAny_IfExp (thn (hc pins s σ H _ I h) fun d s1 ⟨H1, I1, q1⟩ => ?_)
  cases d with
  | true => exact ha pins s1 σ H1 Q I1 q1
  | false => exact hb pins s1 σ H1 Q I1 q1
end
open PySem PySem.Spec PyProof.Rows
def SqL (K : PySem.W.Frag) (H : Hp) (a : Addr) (xs : List V) : Prop :=
  Rd H a (.lst xs) ∨
    ∃ (o : Obj) (its : Array Value) (n : Nat), K.lookup a = some o ∧ o.cls = .type "list" ∧ o.dict = none ∧ o.data = .seq its n ∧ its.size ≤ sizeLine ∧ Vals xs its.toList
def SqT (K : PySem.W.Frag) (H : Hp) (a : Addr) (xs : List V) : Prop :=
  Rd H a (.tup xs) ∨
    ∃ (o : Obj) (its : Array Value) (n : Nat), K.lookup a = some o ∧ o.cls = .type "tuple" ∧ o.data = .seq its n ∧ its.size ≤ sizeLine ∧ Vals xs its.toList
def absV : Value → Option V
  | .none => some .non
  | .bool b => some (.bl b)
  | .int i _ => some (.int i)
  | .str x _ => some (.str x)
  | .bytes b _ => some (.byt b)
  | .float b _ => some (.flt b)
  | .ref a => some (.ref a)
  | .type n => some (.ty n)
  | _ => none
theorem RelV.abs {x : V} {u : Value} (r : RelV x u) : absV u = some x := by
  cases x with
  | non => cases r; rfl
  | bl _ => cases r; rfl
  | int _ => obtain ⟨t, rfl⟩ := r; rfl
  | str _ => obtain ⟨t, rfl⟩ := r; rfl
  | byt _ => obtain ⟨t, rfl⟩ := r; rfl
  | flt _ => obtain ⟨t, rfl⟩ := r; rfl
  | ref _ => cases r; rfl
  | ty _ => cases r; rfl
theorem RelV.inj {x y : V} {u : Value} (r : RelV x u) (q : RelV y u) : x = y := Option.some.inj (r.abs.symm.trans q.abs)
theorem Vals.inj : ∀ {xs ys : List V} {us : List Value}, Vals xs us → Vals ys us → xs = ys
  | _, _, _, .nil, .nil => rfl
  | _, _, _, .cons r t, .cons r' t' => by rw [r.inj r', Vals.inj t t']
section
variable {X : Cx} {pins : List (Addr × Obj)} {σ : St} {H : Hp} {s : Shared} {a : Addr} {xs ys : List V}
theorem SqL.of {K : PySem.W.Frag} (h : H a = some (.lst xs)) : SqL K H a xs := .inl (.inl h)
theorem SqT.of {K : PySem.W.Frag} (h : H a = some (.tup xs)) : SqT K H a xs := .inl (.inl h)
theorem Inv.list (I : Inv X pins σ H s) (h : SqL X.K H a xs) : ∃ its : List Value, Vals xs its ∧ PlainL s.heap a its.toArray ∧ xs.length ≤ sizeLine := by
  rcases h with h | ⟨o, its, n, hk, hc, hd, hs, hz, r⟩
  · obtain ⟨z, its, n, r, e⟩ := h.ok I.hok
    exact ⟨its, r, ⟨_, n, e, rfl, rfl, rfl⟩, z⟩
  · refine ⟨its.toList, r, ⟨o, n, I.kIn a o hk, hc, hd, by simpa using hs⟩, ?_⟩
    have e := r.length
    simp only [Array.length_toList] at e
    omega
theorem Inv.tuple (I : Inv X pins σ H s) (h : SqT X.K H a xs) : ∃ its : List Value, Vals xs its ∧ IsTup s.heap a its.toArray ∧ xs.length ≤ sizeLine := by
  rcases h with h | ⟨o, its, n, hk, hc, hs, hz, r⟩
  · obtain ⟨z, its, r, p⟩ := h.ok I.hok
    exact ⟨its, r, p, z⟩
  · refine ⟨its.toList, r, ⟨o, I.kIn a o hk, hc, n, by simpa using hs⟩, ?_⟩
    have e := r.length
    simp only [Array.length_toList] at e
    omega
theorem Inv.list_inj (I : Inv X pins σ H s) (h : SqL X.K H a xs) (h' : SqL X.K H a ys) : xs = ys := by
  obtain ⟨its, r, ⟨o, n, e, _, _, d⟩, _⟩ := I.list h
  obtain ⟨its', r', ⟨o', n', e', _, _, d'⟩, _⟩ := I.list h'
  rw [e] at e'; cases e'
  rw [d] at d'
  injection d' with d1 _
  have : its = its' := by simpa using congrArg Array.toList d1
  subst this
  exact r.inj r'
end
abbrev Cx.wish (X : Cx) (E : Value → Shared → Prop) : Cx := { X with xe := E }
abbrev Cx.nox (X : Cx) : Cx := X.wish fun _ _ => False
theorem Cx.Ok.wish {X : Cx} (ok : X.Ok) (E : Value → Shared → Prop) : (X.wish E).Ok :=
  ⟨ok.mod, ok.kind, ok.glob, ok.blt, ok.above, ok.inj, ok.has, ok.cab, ok.hd, ok.frames, ok.stk, ok.exf, ok.bs, ok.bsz, ok.noex, ok.exfs, ok.funs, ok.frf⟩
theorem Cx.Ok.unwish {X : Cx} {E : Value → Shared → Prop} (ok : (X.wish E).Ok) : X.Ok :=
  ⟨ok.mod, ok.kind, ok.glob, ok.blt, ok.above, ok.inj, ok.has, ok.cab, ok.hd, ok.frames, ok.stk, ok.exf, ok.bs, ok.bsz, ok.noex, ok.exfs, ok.funs, ok.frf⟩
section
variable {X : Cx} {pins : List (Addr × Obj)} {σ : St} {H : Hp} {s : Shared} {E : Value → Shared → Prop}
theorem Inv.wish (I : Inv X pins σ H s) (E : Value → Shared → Prop) : Inv (X.wish E) pins σ H s := ⟨I.ok.wish E, I.os, I.bare, I.base, I.loc, I.cell, I.free, I.freeC, I.pin, I.hok, I.len⟩
theorem Inv.unwish (I : Inv (X.wish E) pins σ H s) : Inv X pins σ H s := ⟨I.ok.unwish, I.os, I.bare, I.base, I.loc, I.cell, I.free, I.freeC, I.pin, I.hok, I.len⟩
theorem SP.unwish {D : Ends} {f : Flow} {s' : Shared} (h : SP (X.wish E) pins D f s') : SP X pins D f s' := by
  cases f with
  | next => obtain ⟨σ', H', I, q⟩ := h; exact ⟨σ', H', I.unwish, q⟩
  | brk => obtain ⟨σ', H', I, q⟩ := h; exact ⟨σ', H', I.unwish, q⟩
  | cont => obtain ⟨σ', H', I, q⟩ := h; exact ⟨σ', H', I.unwish, q⟩
  | ret u => obtain ⟨v, σ', H', I, r, q⟩ := h; exact ⟨v, σ', H', I.unwish, r, q⟩
theorem PSs.nox {st : List Stmt} {t : TS} (h : PSs X.nox st t) : PSs X st t := fun pins s σ H D I hw =>
  wpAny_mono (h pins s σ H D (I.wish _) hw) (fun _ _ q => q.unwish) fun _ _ z => False.elim z
end
section
variable {X : Cx} {st : Stmt} {rest : List Stmt} {t u : TS} {e : Expr} {te : TE} {pos : Pos}
def tNext : TS := fun D σ H => D.nx σ H
def tSeq (t u : TS) : TS := fun D σ H => t { D with nx := u D } σ H
theorem pss_nil : PSs X [] tNext := fun _ _ σ H _ I h => wpAny_execs_nil ⟨σ, H, I, h⟩
theorem pss_cons (h1 : PS X st t) (h2 : PSs X rest u) : PSs X (st :: rest) (tSeq t u) := by
  intro pins s σ H D I h
  refine wpAny_execs_cons (thn (h1 pins s σ H { D with nx := u D } I h) fun f s1 q => ?_)
  cases f with
  | next =>
    obtain ⟨σ', H', I', q⟩ := q
    exact h2 pins s1 σ' H' D I' q
  | ret v => exact q
  | brk => exact q
  | cont => exact q
theorem pss_one (h1 : PS X st t) : PSs X [st] t := by
  intro pins s σ H D I h
  refine wpAny_execs_cons (thn (h1 pins s σ H D I h) fun f s1 q => ?_)
  cases f with
  | next => exact wpAny_execs_nil q
  | ret v => exact q
  | brk => exact q
  | cont => exact q
def tBreak : TS := fun D σ H => D.bk σ H
def tCont : TS := fun D σ H => D.ct σ H
theorem Inv.quiet {pins : List (Addr × Obj)} {σ : St} {H : Hp} {s : Shared} (I : Inv X pins σ H s) : interactive X.env = false := by simp [interactive, I.ok.kind]
def tDrop (te : TE) : TS := fun D σ H => te σ H fun _ H1 => D.nx σ H1
theorem ps_expr (he : PE X e te) (hs : swapsWith e none pos.line X.env = pure false := by rfl) : PS X (.Expr e pos) (tDrop te) := by
  intro pins s σ H D I h
  exact wpAny_Expr_any (thn (he pins s σ H _ I h) fun v s1 ⟨x, H1, I1, r1, q1⟩ => ⟨σ, H1, I1, q1⟩) I.quiet hs
def tRet (te : TE) : TS := fun D σ H => te σ H D.rt
theorem ps_ret (he : PE X e te) : PS X (.Return (some e) pos) (tRet te) := by
  intro pins s σ H D I h
  exact wpAny_Return_some (thn (he pins s σ H _ I h) fun v s1 ⟨x, H1, I1, r1, q1⟩ => ⟨x, σ, H1, I1, r1, q1⟩)
def tRetN : TS := fun D _ H => D.rt .non H
def tIfS (c : TT) (t u : TS) : TS := fun D σ H => c σ H fun b H1 => if b = true then t D σ H1 else u D σ H1
theorem ps_if {c : Expr} {a b : List Stmt} {tc : TT} (hc : PT X c tc) (ha : PSs X a t) (hb : PSs X b u) : PS X (.If c a b pos) (tIfS tc t u) := by
  intro pins s σ H D I h
  refine wpAny_If (thn (hc pins s σ H _ I h) fun d s1 ⟨H1, I1, q1⟩ => ?_)
  cases d with
  | true => exact ha pins s1 σ H1 D I1 q1
  | false => exact hb pins s1 σ H1 D I1 q1
def tNever : TS := fun _ _ _ => False
theorem ps_never : PS X st tNever := fun _ _ _ _ _ _ h => h.elim
end
abbrev TG := V → St → Hp → (St → Hp → Prop) → Prop
abbrev TGs := List V → St → Hp → (St → Hp → Prop) → Prop
def PG (X : Cx) (target : Expr) (t : TG) : Prop :=
  ∀ (pins : List (Addr × Obj)) (s : Shared) (σ : St) (H : Hp) (v : V) (u : Value) (Q : St → Hp → Prop), Inv X pins σ H s → RelV v u → t v σ H Q →
    wpAny (model X.prog X.w) X.A (assign target X.env u) (fun _ s' => ∃ σ' H', Inv X pins σ' H' s' ∧ Q σ' H') X.xe s
def PGs (X : Cx) (ts : List Expr) (t : TGs) : Prop :=
  ∀ (pins : List (Addr × Obj)) (s : Shared) (σ : St) (H : Hp) (vs : List V) (us : List Value) (Q : St → Hp → Prop), Inv X pins σ H s → Vals vs us → t vs σ H Q →
    wpAny (model X.prog X.w) X.A (assignInOrder ((assignEach ts X.env).map (·.2)) us) (fun _ s' => ∃ σ' H', Inv X pins σ' H' s' ∧ Q σ' H') X.xe s
abbrev TSet := V → V → V → Hp → (Hp → Prop) → Prop
def PSet (X : Cx) (t : TSet) : Prop :=
  ∀ (pins : List (Addr × Obj)) (s : Shared) (σ : St) (H : Hp) (o i v : V) (ov iv u : Value) (Q : Hp → Prop), Inv X pins σ H s → RelV o ov → RelV i iv → RelV v u → t o i v H Q →
    wpAny (model X.prog X.w) X.A (setItem ov iv u) (fun _ s' => ∃ H', Inv X pins σ H' s' ∧ Q H') X.xe s
abbrev TIp := V → V → Hp → VK → Prop
def PIp (X : Cx) (op : Operator) (t : TIp) : Prop :=
  ∀ (pins : List (Addr × Obj)) (s : Shared) (σ : St) (H : Hp) (x y : V) (v u : Value) (Q : VK), Inv X pins σ H s → RelV x v → RelV y u → t x y H Q →
    wpAny (model X.prog X.w) X.A (inplaceOp op v u) (EP X pins σ Q) X.xe s
section
variable {X : Cx} {pos : Pos}
def gName (i : Nat) : TG := fun v σ H Q => Q (σ.set i (some v)) H
theorem pg_name {i : Nat} {x : Str} (hN : X.N.Nodup) (hi : X.N[i]? = some x) (hx : Loc X.env.scope x) (hf : X.fn x = true ∨ X.env.scope.names.lookup x = some .local := by first | exact .inl rfl | exact .inr rfl | assumption) : PG X (.Name x pos) (gName i) := by
  intro pins s σ H v u Q I r h
  exact wpAny_assign_Name (store_ok I hN hi hx r (fun s' I' => ⟨_, H, I', h⟩) hf)
def gNil : TGs := fun vs σ H Q => vs = [] ∧ Q σ H
def gCons (t : TG) (u : TGs) : TGs := fun vs σ H Q => ∃ v r, vs = v :: r ∧ t v σ H fun σ' H' => u r σ' H' Q
theorem pgs_nil : PGs X [] gNil := by
  intro pins s σ H vs us Q I r h
  obtain ⟨e, h⟩ := h
  subst e
  cases r
  exact assignInOrder_nil ⟨σ, H, I, h⟩
theorem pgs_cons {e : Expr} {es : List Expr} {t : TG} {u : TGs} (h1 : PG X e t) (h2 : PGs X es u)
    (hs : (assignEach (e :: es) X.env).map (·.2) = assign e X.env :: (assignEach es X.env).map (·.2) := by rfl) : PGs X (e :: es) (gCons t u) := by
  intro pins s σ H vs us Q I r h
  obtain ⟨v, vr, e1, h⟩ := h
  subst e1
  cases r with
  | cons r rr =>
    rw [hs]
    refine assignInOrder_cons (thn (h1 pins s σ H _ _ _ I r h) fun _ s1 ⟨σ1, H1, I1, q1⟩ => ?_)
    exact h2 pins s1 σ1 H1 _ _ Q I1 rr q1
def gTup (K : PySem.W.Frag) (n : Nat) (t : TGs) : TG := fun v σ H Q => ∃ a xs, v = .ref a ∧ SqT K H a xs ∧ xs.length = n ∧ t xs σ H Q
def gSub (to ti : TE) (t : TSet) : TG := fun v σ H Q => to σ H fun o H1 => ti σ H1 fun i H2 => t o i v H2 fun H3 => Q σ H3
def tAsg (te : TE) (g : TG) : TS := fun D σ H => te σ H fun x H1 => g x σ H1 D.nx
theorem ps_asg {tg e : Expr} {te : TE} {g : TG} (he : PE X e te) (hg : PG X tg g) (hs : swapsWithSole [tg] e pos.line X.env = pure false := by rfl) (hw : swappedStores [tg] e X.env = pure none := by rfl)
    (h1 : (assignEach [tg] X.env).map (·.2) = [assign tg X.env] := by rfl) : PS X (.Assign [tg] e pos) (tAsg te g) := by
  intro pins s σ H D I h
  refine wpAny_Assign_stores (thn (he pins s σ H _ I h) fun v s1 ⟨x, H1, I1, r1, q1⟩ => ?_) hs hw
  rw [h1]
  exact thn (hg pins s1 σ H1 x v _ I1 r1 q1) fun _ s2 q => q
theorem ps_set {i : Nat} {x : Str} {e : Expr} {te : TE} {pos' : Pos} (hN : X.N.Nodup) (hi : X.N[i]? = some x) (hx : Loc X.env.scope x) (he : PE X e te) (hs : swapsWith e (some (.Name x pos')) pos.line X.env = pure false := by rfl) (hf : X.fn x = true ∨ X.env.scope.names.lookup x = some .local := by first | exact .inl rfl | exact .inr rfl | assumption) :
    PS X (.Assign [.Name x pos'] e pos) (tAsg te (gName i)) := by
  intro pins s σ H D I h
  refine wpAny_Assign_Name (thn (he pins s σ H _ I h) fun v s1 ⟨y, H1, I1, r1, q1⟩ => ?_) hs
  exact store_ok I1 hN hi hx r1 (fun s2 I2 => ⟨_, H1, I2, q1⟩) hf
def tPar (i j : Nat) (ta : TA) : TS := fun D σ H => ta σ H fun vs H1 => ∃ v w, vs = [v, w] ∧ D.nx ((σ.set i (some v)).set j (some w)) H1
def tAug (i : Nat) (te : TE) (ti : TIp) : TS := fun D σ H => ∃ x, σ[i]? = some (some x) ∧ te σ H fun y H1 => ti x y H1 fun z H2 => D.nx (σ.set i (some z)) H2
def tAugS (to ti te : TE) (tget : V → V → Hp → VK → Prop) (tip : TIp) (tset : TSet) : TS := fun D σ H => to σ H fun o H1 => ti σ H1 fun i H2 => tget o i H2 fun x H3 => te σ H3 fun y H4 => tip x y H4 fun z H5 => tset o i z H5 fun H6 => D.nx σ H6
def PGet (X : Cx) (t : V → V → Hp → VK → Prop) : Prop :=
  ∀ (pins : List (Addr × Obj)) (s : Shared) (σ : St) (H : Hp) (o i : V) (ov iv : Value) (Q : VK), Inv X pins σ H s → RelV o ov → RelV i iv → t o i H Q →
    wpAny (model X.prog X.w) X.A (getItem ov iv) (EP X pins σ Q) X.xe s
def ipI (f : Int → Int → Int) : TIp := fun x y H Q => ∃ i j, x = .int i ∧ y = .int j ∧ Q (.int (f i j)) H
end
section
variable {X : Cx} {pos : Pos}
def tWhile (c : TT) (tb : TS) : TS := fun D σ H => ∃ W : Nat → St → Hp → Prop, (∃ m, W m σ H) ∧ ∀ m σ H, W m σ H →
  c σ H fun b H1 => if b = true then ∃ N : St → Hp → Prop, (∀ σ' H', N σ' H' → ∃ m', m' < m ∧ W m' σ' H') ∧ tb { D with nx := N, ct := N, bk := D.nx } σ H1 else D.nx σ H1
theorem ps_while {c : Expr} {body : List Stmt} {tc : TT} {tb : TS} (hp : PassesOwn (model X.prog X.w) X.A X.env X.xe) (hc : PT X c tc) (hb : PSs X body tb) : PS X (.While c body [] pos) (tWhile tc tb) := by
  intro pins s σ H D I h
  obtain ⟨W, ⟨m0, w0⟩, turn⟩ := h
  refine wpAny_While (codeAny_whileLoop (fun n s' => ∃ σ' H', Inv X pins σ' H' s' ∧ W n σ' H') ?_ m0 ⟨σ, H, I, w0⟩)
  rintro n s1 ⟨σ1, H1, I1, w1⟩
  refine wpAny_passesOwn hp (thn (hc pins s1 σ1 H1 _ I1 (turn n σ1 H1 w1)) fun b s2 ⟨H2, I2, q2⟩ => ?_)
  cases b with
  | true =>
    obtain ⟨N, hN, q2⟩ := q2
    rw [if_pos rfl]
    refine wpAny_passesOwn hp (thn (hb pins s2 σ1 H2 _ I2 q2) fun f s3 q3 => ?_)
    cases f with
    | next =>
      obtain ⟨σ3, H3, I3, n3⟩ := q3
      obtain ⟨m', hm, w3⟩ := hN σ3 H3 n3
      exact ⟨m', hm, σ3, H3, I3, w3⟩
    | cont =>
      obtain ⟨σ3, H3, I3, n3⟩ := q3
      obtain ⟨m', hm, w3⟩ := hN σ3 H3 n3
      exact ⟨m', hm, σ3, H3, I3, w3⟩
    | brk => exact q3
    | ret v => exact q3
  | false =>
    rw [if_neg Bool.false_ne_true]
    exact wpAny_execs_nil ⟨σ1, H2, I2, q2⟩
end
structure It where
  go : Nat → Hp → Prop
  yld : Nat → Hp → V → Hp → Prop
  stop : Nat → Hp → Prop
def FpOk (X : Cx) (pins : List (Addr × Obj)) (H : Hp) (b : Addr) : Prop :=
  H b = none ∧ b ≠ X.env.locals ∧ b ∉ X.fs ∧ (b ∈ X.ex ∨ X.s₀.heap.objs.size ≤ b) ∧ (∀ x c, X.env.cells.lookup x = some c → c ≠ b) ∧ ∀ p ∈ X.pn ++ pins, p.1 ≠ b
theorem Inv.fpOk {X : Cx} {pins : List (Addr × Obj)} {σ : St} {H H' : Hp} {s : Shared} {b : Addr} (I : Inv X pins σ H s) (hb : s.heap.objs.size ≤ b) (hn : H' b = none) : FpOk X pins H' b := by
  refine ⟨hn, Nat.ne_of_gt (Nat.lt_of_lt_of_le I.lt hb), I.nofs hb, .inr (Nat.le_trans I.sz hb), fun x c e z => ?_, fun p hp z => ?_⟩
  · obtain ⟨v, q⟩ := I.cell x c e
    exact absurd (Nat.lt_of_lt_of_le q.lt (by rw [z]; exact hb)) (Nat.lt_irrefl _)
  · exact absurd (Nat.lt_of_lt_of_le (Heap.lt_size (I.pin p hp).1) (by rw [z]; exact hb)) (Nat.lt_irrefl _)
structure Turn (P : Program) (w : World) (K : PySem.W.Frag) (tg : Expr) (J : It) (fp : List Addr) (it : Addr) (tn : Nat → Heap → Prop) : Prop where
  mem : it ∈ fp
  obj : ∀ i h, tn i h → ∀ b ∈ fp, ∃ o, h.get? b = some o ∧ ∀ v, o.data ≠ .cell v
  keep : ∀ i h h', tn i h → (∀ b ∈ fp, ∀ o, h.get? b = some o → h'.get? b = some o) → tn i h'
  item : ∀ (X : Cx), X.prog = P → X.w = w → X.K = K → X.calm = true → ∀ (i : Nat) (pins : List (Addr × Obj)) (s : Shared) (σ : St) (H : Hp) (E : Value → Shared → Prop), Inv X pins σ H s → (∀ b ∈ fp, FpOk X pins H b) → tn i s.heap → J.go i H →
    wpAny (model P w) X.A (pyNext (.ref it)) (fun r s1 => ∃ u, r = some u ∧
      wpAny (model P w) X.A (letOwnedTupleGo tg (.ref it) u) (fun _ s2 => ∃ x H', Inv X pins σ H' s2 ∧ RelV x u ∧ J.yld i H x H' ∧ tn (i + 1) s2.heap ∧ ∀ b ∈ fp, H' b = none) E s1) E s
  done : ∀ (X : Cx), X.prog = P → X.w = w → X.K = K → X.calm = true → ∀ (i : Nat) (pins : List (Addr × Obj)) (s : Shared) (σ : St) (H : Hp) (E : Value → Shared → Prop), Inv X pins σ H s → (∀ b ∈ fp, FpOk X pins H b) → tn i s.heap → J.stop i H →
    wpAny (model P w) X.A (pyNext (.ref it)) (fun r s1 => r = none ∧ Inv X pins σ H s1) E s
  self : ∀ (A : Around) (i : Nat) (s : Shared) (Q : Value → Shared → Prop) (E : Value → Shared → Prop), tn i s.heap → Q (.ref it) s → wpAny (model P w) A (pyIter (.ref it)) Q E s
abbrev TI := St → Hp → (It → Hp → Prop) → Prop
def PIE (X : Cx) (pins : List (Addr × Obj)) (σ : St) (tg : Expr) (R : It → Hp → Prop) (itv : Value) (s2 : Shared) : Prop :=
  ∃ (it : Addr) (fp : List Addr) (tn : Nat → Heap → Prop) (J : It) (H' : Hp), itv = .ref it ∧ Inv X pins σ H' s2 ∧ Turn X.prog X.w X.K tg J fp it tn ∧ tn 0 s2.heap ∧ (∀ b ∈ fp, FpOk X pins H' b) ∧ R J H'
def PI (X : Cx) (tg iter : Expr) (wi : TI) : Prop :=
  ∀ (pins : List (Addr × Obj)) (s : Shared) (σ : St) (H : Hp) (R : It → Hp → Prop), Inv X pins σ H s → wi σ H R →
    wpAny (model X.prog X.w) X.A (eval iter X.env) (fun v s1 => wpAny (model X.prog X.w) X.A (pyIter v) (PIE X pins σ tg R) X.xe s1) X.xe s
theorem go_of {M : Model} {A : Around} {E : Value → Shared → Prop} {s : Shared} {tg : Expr} {it : Addr} {u : Value} {o : Obj} {n : String} {vs : Array Value} {Q : Unit → Shared → Prop} (ho : s.heap.get? it = some o) (hc : o.cls = .type n) (hd : o.data = .fields vs)
    (hn : ["enumerate", "zip", "dict_itemiterator", "dict_reverseitemiterator", "odict_iterator", "itertools.zip_longest", "itertools.pairwise"].contains n = false) (hQ : Q () s) : wpAny M A (letOwnedTupleGo tg (.ref it) u) Q E s := by
  unfold letOwnedTupleGo
  cases tg <;> first
    | exact wpAny_pure hQ
    | (cases u <;> first
        | exact wpAny_pure hQ
        | (refine wpAny_bind (wpAny_load ho ?_)
           rw [hc, hd]
           show wpAny M A (if (["enumerate", "zip", "dict_itemiterator", "dict_reverseitemiterator", "odict_iterator", "itertools.zip_longest", "itertools.pairwise"].contains n && vs[0]? == some (rawInt _)) = true then _ else _) Q E s
           rw [if_neg (by intro h; rw [hn, Bool.false_and] at h; cases h)]
           exact wpAny_pure hQ))
def Itl (K : PySem.W.Frag) (a : Addr) : It :=
  ⟨fun i H => ∃ xs x, SqL K H a xs ∧ xs[i]? = some x, fun i H x H' => H' = H ∧ ∀ xs, SqL K H a xs → xs[i]? = some x, fun i H => ∃ xs, SqL K H a xs ∧ xs.length ≤ i⟩
def Itt (K : PySem.W.Frag) (a : Addr) : It :=
  ⟨fun i H => ∃ xs x, SqT K H a xs ∧ xs[i]? = some x, fun i H x H' => H' = H ∧ ∀ xs, SqT K H a xs → xs[i]? = some x, fun i H => ∃ xs, SqT K H a xs ∧ xs.length ≤ i⟩
def Itr (lo : Int) (n : Nat) : It := ⟨fun i _ => i < n, fun i H x H' => H' = H ∧ x = .int (lo + i), fun i _ => n ≤ i⟩
theorem turn_list {P : Program} {w : World} {K : PySem.W.Frag} {tg : Expr} (a it : Addr) : Turn P w K tg (Itl K a) [it] it (fun i h => h.IsListIter it a i) where
  mem := by simp
  obj := fun i h st b hb => by
    have e : b = it := by simpa using hb
    subst e
    obtain ⟨o, e, c, d⟩ := st
    exact ⟨o, e, fun v z => by rw [d] at z; cases z⟩
  keep := fun i h h' st k => st.at fun o e => k it (by simp) o e
  item := by
    intro X hP hw hK hc i pins s σ H E I hf st hg
    subst hP hw hK
    obtain ⟨xs, x, hq, hx⟩ := hg
    obtain ⟨its, rv, p, hz⟩ := I.list hq
    obtain ⟨u, hu, ru⟩ := rv.get hx
    obtain ⟨f0, f1, f2, f3, f4, f5⟩ := hf it (by simp)
    refine wpAny_pyNext_list_item st p.isList (x := u) (by simpa using hu) fun h' st' sb => ?_
    have I1 : Inv X pins σ H { s with heap := h' } := I.turned (t' := s.toks) (fun b o hb e => (sb.2 b hb).trans e) f0 f1 f3 f4 f5
    obtain ⟨o, e, c, d⟩ := id st'
    exact ⟨u, rfl, go_of (s := { s with heap := h' }) e c d (by decide) ⟨x, H, I1, ru, ⟨rfl, fun ys hy => by rw [I.list_inj hy hq]; exact hx⟩, st', fun b hb => (hf b hb).1⟩⟩
  done := by
    intro X hP hw hK hc i pins s σ H E I hf st hg
    subst hP hw hK
    obtain ⟨xs, hq, hx⟩ := hg
    obtain ⟨its, rv, p, hz⟩ := I.list hq
    obtain ⟨f0, f1, f2, f3, f4, f5⟩ := hf it (by simp)
    have hl := rv.length
    exact wpAny_pyNext_list_end (I.ok.hd hc) st p.isList (by simp; omega) fun h' eb => ⟨rfl, I.turned (t' := s.toks) (fun b o hb e => eb b o hb e) f0 f1 f3 f4 f5⟩
  self := fun _ _ _ _ _ st h => wpAny_pyIter_listiter st h
theorem turn_range {P : Program} {w : World} {K : PySem.W.Frag} {tg : Expr} (it : Addr) (lo : Int) (n : Nat) : Turn P w K tg (Itr lo n) [it] it (fun i h => IsRangeIter h it (lo + (i : Nat) * 1) ((n : Int) - (i : Nat)) 1) where
  mem := by simp
  obj := fun i h st b hb => by
    have e : b = it := by simpa using hb
    subst e
    exact ⟨_, st, fun v z => by
      have z' : Data.fields _ = Data.cell v := z
      cases z'⟩
  keep := fun i h h' st k => k it (by simp) _ st
  item := by
    intro X hP hw hK hc i pins s σ H E I hf st hg
    subst hP hw hK
    obtain ⟨f0, f1, f2, f3, f4, f5⟩ := hf it (by simp)
    have W := Walks.range (prog := X.prog) (w := X.w) (I.ok.hd hc) it lo 1 n
    refine W.item i s _ _ hg st fun v h' tk hv st' kk => ?_
    obtain ⟨t, rfl⟩ := hv
    have I1 : Inv X pins σ H { s with heap := h', toks := tk } := I.turned (fun b o hb e => kk b o (by simpa using hb) e) f0 f1 f3 f4 f5
    refine ⟨_, rfl, go_of (s := { s with heap := h', toks := tk }) (n := "range_iterator") st' rfl rfl (by decide) ⟨.int (lo + i), H, I1, ⟨t, ?_⟩, ⟨rfl, rfl⟩, st', fun b hb => (hf b hb).1⟩⟩
    rw [Int.mul_one]
  done := by
    intro X hP hw hK hc i pins s σ H E I hf st hg
    subst hP hw hK
    obtain ⟨f0, f1, f2, f3, f4, f5⟩ := hf it (by simp)
    exact wpAny_pyNext_range_end (I.ok.hd hc) st (by have : n ≤ i := hg; omega) fun h' eb => ⟨rfl, I.turned (t' := s.toks) (fun b o hb e => eb b o hb e) f0 f1 f3 f4 f5⟩
  self := fun _ _ _ _ _ st h => wpAny_pyIter_rangeiter st h
open PySem PySem.Spec PyProof.Rows
section
variable {X : Cx} {tg : Expr}
def iList (K : PySem.W.Frag) (tl : TE) : TI := fun σ H R => tl σ H fun x H1 => ∃ a, x = .ref a ∧ (∃ xs, SqL K H1 a xs) ∧ R (Itl K a) H1
def iTup (K : PySem.W.Frag) (tl : TE) : TI := fun σ H R => tl σ H fun x H1 => ∃ a, x = .ref a ∧ (∃ xs, SqT K H1 a xs) ∧ R (Itt K a) H1
theorem pi_list {l : Expr} {tl : TE} (hl : PE X l tl) : PI X tg l (iList X.K tl) := by
  intro pins s σ H R I h
  refine thn (hl pins s σ H _ I h) fun v s1 ⟨x, H1, I1, r1, q1⟩ => ?_
  obtain ⟨a, e, ⟨xs, hq⟩, q⟩ := q1
  subst e
  cases r1
  obtain ⟨its, rv, p, hz⟩ := I1.list hq
  refine wpAny_pyIter_list p.isList ?_
  refine ⟨s1.heap.objs.size, [s1.heap.objs.size], _, _, H1, rfl, I1.kept (t' := s1.toks) fun b o e => Heap.get?_push_of_some _ e, turn_list a _, ⟨_, Heap.get?_push_size _ rfl, rfl, rfl⟩, fun b hb => ?_, q⟩
  have e : b = s1.heap.objs.size := by simpa using hb
  subst e
  exact I1.fpOk (Nat.le_refl _) (I1.hok.fresh (Nat.le_refl _))
theorem range_it {pins : List (Addr × Obj)} {σ : St} {H : Hp} {s : Shared} {R : It → Hp → Prop} {E : Value → Shared → Prop} {lo hi : Int} {t u v : Tok} {tk : Nat} (I : Inv X pins σ H s) (h1 : -(2 ^ 62) ≤ lo) (h2 : lo < 2 ^ 62) (h3 : -(2 ^ 62) ≤ hi) (h4 : hi < 2 ^ 62)
    (q : R (Itr lo (hi - lo).toNat) H) : wpAny (model X.prog X.w) X.A (pyIter (.ref s.heap.objs.size)) (PIE X pins σ tg R) E { s with heap := s.heap.push { cls := .type "range", data := .fields #[.int lo t, .int hi u, .int 1 v] }, toks := tk } := by
  refine wpAny_pyIter_range (IsRange.new ..) (small_one h1 h2 h3 h4) ?_
  have I1 : Inv X pins σ H { s with heap := s.heap.push { cls := .type "range", data := .fields #[.int lo t, .int hi u, .int 1 v] }, toks := tk } := I.kept fun b o e => Heap.get?_push_of_some _ e
  refine ⟨(s.heap.push { cls := .type "range", data := .fields #[.int lo t, .int hi u, .int 1 v] }).objs.size, [(s.heap.push { cls := .type "range", data := .fields #[.int lo t, .int hi u, .int 1 v] }).objs.size], _, _, H, rfl,
    I1.kept (t' := tk) fun b o e => Heap.get?_push_of_some _ e, turn_range _ lo (hi - lo).toNat, ?_, fun b hb => ?_, q⟩
  · have e1 : lo + ((0 : Nat) : Int) * 1 = lo := by simp
    have e2 : (((hi - lo).toNat : Nat) : Int) - ((0 : Nat) : Int) = Builtin.Range.rangeSize lo hi 1 := by rw [rangeSize_one]; split <;> omega
    show IsRangeIter _ _ (lo + ((0 : Nat) : Int) * 1) ((((hi - lo).toNat : Nat) : Int) - ((0 : Nat) : Int)) 1
    rw [e1, e2]
    exact Heap.get?_push_size _ rfl
  · have e : b = (s.heap.push { cls := .type "range", data := .fields #[.int lo t, .int hi u, .int 1 v] }).objs.size := by simpa using hb
    subst e
    exact I1.fpOk (Nat.le_refl _) (I1.hok.fresh (Nat.le_refl _))
def iRng1 (ta : TA) : TI := fun σ H R => ta σ H fun vs H1 => ∃ j : Int, vs = [.int j] ∧ -(2 ^ 62) ≤ j ∧ j < 2 ^ 62 ∧ R (Itr 0 j.toNat) H1
def iRng2 (ta : TA) : TI := fun σ H R => ta σ H fun vs H1 => ∃ i j : Int, vs = [.int i, .int j] ∧ (-(2 ^ 62) ≤ i ∧ i < 2 ^ 62 ∧ -(2 ^ 62) ≤ j ∧ j < 2 ^ 62) ∧ R (Itr i (j - i).toNat) H1
theorem pi_range1 {a : Expr} {ta : TA} {p pos : Pos} (hg : Gl X "range") (hm : X.mg "range" = none) (ha : PA X [a] ta) (hs : starEach [a] X.env = [(false, eval a X.env)] := by rfl) : PI X tg (.Call (.Name "range" p) [a] [] pos) (iRng1 ta) := by
  intro pins s σ H R I h
  refine Call_ (ld_blt I hg hm boot_range (PyProof.Rows.callWith_type1 (thn (ha pos pins s σ H _ I h) fun us s1 ⟨vs, H1, I1, r1, q1⟩ => ?_) hs rfl))
  obtain ⟨j, e, q1, q2, q⟩ := q1
  subst e
  cases r1 with
  | cons r rr =>
    cases rr
    obtain ⟨t, rfl⟩ := r
    exact call_range_1 (range_it I1 (by omega) (by omega) q1 q2 (by simpa using q))
theorem pi_range2 {a b : Expr} {ta : TA} {p pos : Pos} (hg : Gl X "range") (hm : X.mg "range" = none) (ha : PA X [a, b] ta) (hs : starEach [a, b] X.env = [(false, eval a X.env), (false, eval b X.env)] := by rfl) (hs2 : starEach [b] X.env = [(false, eval b X.env)] := by rfl) :
    PI X tg (.Call (.Name "range" p) [a, b] [] pos) (iRng2 ta) := by
  intro pins s σ H R I h
  refine Call_ (ld_blt I hg hm boot_range (PyProof.Rows.callWith_type1 (thn (ha pos pins s σ H _ I h) fun us s1 ⟨vs, H1, I1, r1, q1⟩ => ?_) (by rw [hs, hs2]) (by rw [hs2]; rfl)))
  obtain ⟨i, j, e, ⟨q1, q2, q3, q4⟩, q⟩ := q1
  subst e
  cases r1 with
  | cons r rr =>
    cases rr with
    | cons r' rr =>
      cases rr
      obtain ⟨t, rfl⟩ := r
      obtain ⟨t', rfl⟩ := r'
      exact call_range_2 (range_it I1 q1 q2 q3 q4 q)
def tFor (wi : TI) (g : TG) (tb : TS) : TS := fun D σ H => wi σ H fun J H1 => ∃ W : Nat → Nat → St → Hp → Prop, (∃ m, W 0 m σ H1) ∧ ∀ i m σ H, W i m σ H →
  (J.stop i H ∧ D.nx σ H) ∨ (J.go i H ∧ ∃ N : St → Hp → Prop, (∀ σ' H', N σ' H' → ∃ m', m' < m ∧ W (i + 1) m' σ' H') ∧ ∀ x H', J.yld i H x H' → g x σ H' fun σ2 H2 => tb { D with nx := N, ct := N, bk := D.nx } σ2 H2)
def pinsAt (fp : List Addr) (h : Heap) : List (Addr × Obj) := fp.filterMap fun b => (h.get? b).map fun o => (b, o)
theorem mem_pinsAt {fp : List Addr} {h : Heap} {b : Addr} {o : Obj} (hb : b ∈ fp) (e : h.get? b = some o) : (b, o) ∈ pinsAt fp h := List.mem_filterMap.mpr ⟨b, hb, by rw [e]; rfl⟩
theorem of_pinsAt {fp : List Addr} {h : Heap} {p : Addr × Obj} (hp : p ∈ pinsAt fp h) : p.1 ∈ fp ∧ h.get? p.1 = some p.2 := by
  obtain ⟨b, hb, e⟩ := List.mem_filterMap.mp hp
  cases q : h.get? b with
  | none => rw [q] at e; cases e
  | some o =>
    rw [q] at e
    have e' : (b, o) = p := Option.some.inj e
    subst e'
    exact ⟨hb, q⟩
theorem Inv.pinned {pins : List (Addr × Obj)} {σ : St} {H : Hp} {s : Shared} {fp : List Addr} (I : Inv X pins σ H s) (hf : ∀ b ∈ fp, FpOk X pins H b) (ho : ∀ b ∈ fp, ∃ o, s.heap.get? b = some o ∧ ∀ v, o.data ≠ .cell v) : Inv X (pins ++ pinsAt fp s.heap) σ H s :=
  I.pins_of fun p hp => (List.mem_append.mp hp).elim (fun z => I.pin p (List.mem_append_right _ z)) fun z => by
    obtain ⟨hb, e⟩ := of_pinsAt z
    obtain ⟨f0, f1, f2, _⟩ := hf p.1 hb
    obtain ⟨o, e', d⟩ := ho p.1 hb
    rw [e] at e'; cases e'
    exact ⟨e, f0, f1, f2, d⟩
theorem Inv.unpinned {pins pl : List (Addr × Obj)} {σ : St} {H : Hp} {s : Shared} (I : Inv X (pins ++ pl) σ H s) : Inv X pins σ H s := I.pins_of fun p hp => I.pin p (List.mem_append_right _ (List.mem_append_left _ hp))
theorem ps_for {iter : Expr} {body : List Stmt} {wi : TI} {g : TG} {tb : TS} {pos : Pos} (hp : PassesOwn (model X.prog X.w) X.A X.env X.xe) (hc : X.calm = true) (hi : PI X tg iter wi) (hg : PG X tg g) (hb : PSs X body tb)
    (hs : ∀ x, foldedSetIterable iter X.env x = pure x := by intro _; rfl) : PS X (.For tg iter body [] pos) (tFor wi g tb) := by
  intro pins s σ H D I h
  refine wpAny_For (thn (hi pins s σ H _ I h) fun v s1 h1 => thn h1 fun itv s2 h2 => ?_) hs
  obtain ⟨it, fp, tn, J, H2, e, I2, T, st2, f2, W, ⟨m0, w0⟩, turn⟩ := h2
  subst e
  have stat : ∀ {H' : Hp}, (∀ b ∈ fp, H' b = none) → ∀ b ∈ fp, FpOk X pins H' b := fun hn b hb => ⟨hn b hb, (f2 b hb).2⟩
  refine codeAny_forLoop_any (fun n s' => ∃ i σ' H', Inv X pins σ' H' s' ∧ tn i s'.heap ∧ (∀ b ∈ fp, H' b = none) ∧ W i n σ' H') ?_ m0 ⟨0, σ, H2, I2, st2, fun b hb => (f2 b hb).1, w0⟩
  rintro n s3 ⟨i, σ3, H3, I3, st3, fr3, w3⟩
  rcases turn i n σ3 H3 w3 with ⟨stop, qn⟩ | ⟨go, N, hN, step⟩
  · refine wpAny_passesOwn hp (thn (T.done X rfl rfl rfl hc i pins s3 σ3 H3 X.xe I3 (stat fr3) st3 stop) fun r s4 ⟨hr, I4⟩ => ?_)
    subst hr
    exact wpAny_execs_nil ⟨σ3, H3, I4, qn⟩
  · refine wpAny_passesOwn hp (thn (T.item X rfl rfl rfl hc i pins s3 σ3 H3 X.xe I3 (stat fr3) st3 go) fun r s4 ⟨u, hr, h4⟩ => ?_)
    subst hr
    refine wpAny_passesOwn hp (thn h4 fun _ s5 ⟨x, H5, I5, r5, y5, st5, fr5⟩ => ?_)
    have I5' := I5.pinned (stat fr5) (T.obj _ _ st5)
    refine wpAny_passesOwn hp (thn (hg _ s5 σ3 H5 x u _ I5' r5 (step x H5 y5)) fun _ s6 ⟨σ6, H6, I6, q6⟩ => ?_)
    refine wpAny_passesOwn hp (thn (hb _ s6 σ6 H6 _ I6 q6) fun f s7 q7 => ?_)
    have again : ∀ {σ7 : St} {H7 : Hp}, Inv X (pins ++ pinsAt fp s5.heap) σ7 H7 s7 → N σ7 H7 → ∃ m, m < n ∧ ∃ i σ' H', Inv X pins σ' H' s7 ∧ tn i s7.heap ∧ (∀ b ∈ fp, H' b = none) ∧ W i m σ' H' := fun {σ7 H7} I7 n7 => by
      obtain ⟨m', hm, w7⟩ := hN σ7 H7 n7
      refine ⟨m', hm, i + 1, σ7, H7, I7.unpinned, T.keep _ _ _ st5 fun b hb o e => (I7.pin (b, o) (List.mem_append_right _ (List.mem_append_right _ (mem_pinsAt hb e)))).1, fun b hb => ?_, w7⟩
      obtain ⟨o, e, d⟩ := T.obj _ _ st5 b hb
      exact (I7.pin (b, o) (List.mem_append_right _ (List.mem_append_right _ (mem_pinsAt hb e)))).2.1
    cases f with
    | next => obtain ⟨σ7, H7, I7, n7⟩ := q7; exact again I7 n7
    | cont => obtain ⟨σ7, H7, I7, n7⟩ := q7; exact again I7 n7
    | brk => obtain ⟨σ7, H7, I7, q7⟩ := q7; exact ⟨σ7, H7, I7.unpinned, q7⟩
    | ret v => obtain ⟨x7, σ7, H7, I7, r7, q7⟩ := q7; exact ⟨x7, σ7, H7, I7.unpinned, r7, q7⟩
end
theorem for_list {K : PySem.W.Frag} {a : Addr} {xs : List V} {g : TG} {tb : TS} {D : Ends} {σ : St} {H : Hp} (Pv : Nat → St → Hp → Prop) (h0 : Pv 0 σ H) (hl : ∀ i σ H, i ≤ xs.length → Pv i σ H → SqL K H a xs)
    (hs : ∀ i x σ H, xs[i]? = some x → Pv i σ H → g x σ H fun σ2 H2 => tb { D with nx := Pv (i + 1), ct := Pv (i + 1), bk := D.nx } σ2 H2) (hd : ∀ σ H, Pv xs.length σ H → D.nx σ H) :
    ∃ W : Nat → Nat → St → Hp → Prop, (∃ m, W 0 m σ H) ∧ ∀ i m σ H, W i m σ H →
      ((Itl K a).stop i H ∧ D.nx σ H) ∨ ((Itl K a).go i H ∧ ∃ N : St → Hp → Prop, (∀ σ' H', N σ' H' → ∃ m', m' < m ∧ W (i + 1) m' σ' H') ∧ ∀ x H', (Itl K a).yld i H x H' → g x σ H' fun σ2 H2 => tb { D with nx := N, ct := N, bk := D.nx } σ2 H2) := by
  refine ⟨fun i m σ H => m = xs.length - i ∧ i ≤ xs.length ∧ Pv i σ H, ⟨xs.length, by simp, Nat.zero_le _, h0⟩, ?_⟩
  rintro i m σ H ⟨rfl, hi, p⟩
  have q := hl i σ H hi p
  by_cases hlt : i < xs.length
  · refine .inr ⟨⟨xs, xs[i], q, by simp [hlt]⟩, Pv (i + 1), fun σ' H' p' => ⟨xs.length - (i + 1), by omega, rfl, hlt, p'⟩, fun x H' y => ?_⟩
    obtain ⟨e, y⟩ := y
    subst e
    exact hs i x σ _ (y xs q) p
  · have e : i = xs.length := by omega
    subst e
    exact .inl ⟨⟨xs, q, Nat.le_refl _⟩, hd σ H p⟩
theorem for_range {lo : Int} {n : Nat} {g : TG} {tb : TS} {D : Ends} {σ : St} {H : Hp} (Pv : Nat → St → Hp → Prop) (h0 : Pv 0 σ H)
    (hs : ∀ i σ H, i < n → Pv i σ H → g (.int (lo + i)) σ H fun σ2 H2 => tb { D with nx := Pv (i + 1), ct := Pv (i + 1), bk := D.nx } σ2 H2) (hd : ∀ σ H, Pv n σ H → D.nx σ H) :
    ∃ W : Nat → Nat → St → Hp → Prop, (∃ m, W 0 m σ H) ∧ ∀ i m σ H, W i m σ H →
      ((Itr lo n).stop i H ∧ D.nx σ H) ∨ ((Itr lo n).go i H ∧ ∃ N : St → Hp → Prop, (∀ σ' H', N σ' H' → ∃ m', m' < m ∧ W (i + 1) m' σ' H') ∧ ∀ x H', (Itr lo n).yld i H x H' → g x σ H' fun σ2 H2 => tb { D with nx := N, ct := N, bk := D.nx } σ2 H2) := by
  refine ⟨fun i m σ H => m = n - i ∧ i ≤ n ∧ Pv i σ H, ⟨n, by simp, Nat.zero_le _, h0⟩, ?_⟩
  rintro i m σ H ⟨rfl, hi, p⟩
  by_cases hlt : i < n
  · refine .inr ⟨hlt, Pv (i + 1), fun σ' H' p' => ⟨n - (i + 1), by omega, rfl, hlt, p'⟩, fun x H' y => ?_⟩
    obtain ⟨e, y⟩ := y
    subst e y
    exact hs i σ _ hlt p
  · have e : i = n := by omega
    subst e
    exact .inl ⟨Nat.le_refl _, hd σ H p⟩
open PySem PySem.Spec PyProof.Rows
abbrev R2 := V → V → Hp → VK → Prop
def OpR (X : Cx) (f : Value → Value → Sem Value) (r : R2) : Prop :=
  ∀ (pins : List (Addr × Obj)) (s : Shared) (σ : St) (H : Hp) (x y : V) (v u : Value) (Q : VK), Inv X pins σ H s → RelV x v → RelV y u → r x y H Q →
    wpAny (model X.prog X.w) X.A (f v u) (EP X pins σ Q) X.xe s
def UnR (X : Cx) (f : Value → Sem Value) (r : V → Hp → VK → Prop) : Prop :=
  ∀ (pins : List (Addr × Obj)) (s : Shared) (σ : St) (H : Hp) (x : V) (v : Value) (Q : VK), Inv X pins σ H s → RelV x v → r x H Q →
    wpAny (model X.prog X.w) X.A (f v) (EP X pins σ Q) X.xe s
def CallR (X : Cx) (f : Value) (r : List V → Hp → VK → Prop) : Prop :=
  ∀ (pins : List (Addr × Obj)) (s : Shared) (σ : St) (H : Hp) (xs : List V) (us : List Value) (Q : VK), Inv X pins σ H s → Vals xs us → r xs H Q →
    wpAny (model X.prog X.w) X.A (call f us) (EP X pins σ Q) X.xe s
def TruR (X : Cx) (r : V → Hp → (Bool → Hp → Prop) → Prop) : Prop :=
  ∀ (pins : List (Addr × Obj)) (s : Shared) (σ : St) (H : Hp) (x : V) (v : Value) (Q : Bool → Hp → Prop), Inv X pins σ H s → RelV x v → r x H Q →
    wpAny (model X.prog X.w) X.A (truthy v) (TP X pins σ Q) X.xe s
def tOp (r : R2) (ta tb : TE) : TE := fun σ H Q => ta σ H fun x H1 => tb σ H1 fun y H2 => r x y H2 Q
def tUn (r : V → Hp → VK → Prop) (ta : TE) : TE := fun σ H Q => ta σ H fun x H1 => r x H1 Q
def rI (C : Int → Int → Prop) (g : Int → Int → V) : R2 := fun x y H Q => ∃ i j, x = .int i ∧ y = .int j ∧ C i j ∧ Q (g i j) H
def rI0 (g : Int → Int → V) : R2 := fun x y H Q => ∃ i j, x = .int i ∧ y = .int j ∧ Q (g i j) H
def rU (g : Int → V) : V → Hp → VK → Prop := fun x H Q => ∃ i, x = .int i ∧ Q (g i) H
section
variable {X : Cx} {a b c : Expr} {ta tb tc : TE} {pos : Pos}
theorem binT (ha : PE X a ta) (hb : PE X b tb) {pins : List (Addr × Obj)} {s : Shared} {σ : St} {H : Hp} {R : V → V → Hp → Prop} (I : Inv X pins σ H s)
    (h : ta σ H fun x H1 => tb σ H1 fun y H2 => R x y H2) {Q : Value → Shared → Prop} {f : Value → Value → Sem Value}
    (hf : ∀ v u s2 x y H2, Inv X pins σ H2 s2 → RelV x v → RelV y u → R x y H2 → wpAny (model X.prog X.w) X.A (f v u) Q X.xe s2) :
    wpAny (model X.prog X.w) X.A (eval a X.env) (fun v s₁ => wpAny (model X.prog X.w) X.A (eval b X.env) (fun u s₂ => wpAny (model X.prog X.w) X.A (f v u) Q X.xe s₂) X.xe s₁) X.xe s := by
  refine thn (ha pins s σ H _ I h) fun v s1 ⟨x, H1, I1, r1, q1⟩ => ?_
  refine thn (hb pins s1 σ H1 _ I1 q1) fun u s2 ⟨y, H2, I2, r2, q2⟩ => ?_
  exact hf v u s2 x y H2 I2 r1 r2 q2
theorem pe_op {op : Operator} {r : R2} (ho : OpR X (binaryOp op) r) (ha : PE X a ta) (hb : PE X b tb) : PE X (.BinOp a op b pos) (tOp r ta tb) := by
  intro pins s σ H Q I h
  exact wpAny_BinOp (binT ha hb I h fun v u s2 x y H2 I2 rx ry q => ho pins s2 σ H2 x y v u Q I2 rx ry q)
theorem opI {f : Value → Value → Sem Value} {C : Int → Int → Prop} {g : Int → Int → Int}
    (rule : ∀ (i j : Int) (t u : Tok) (s : Shared) (Q : Value → Shared → Prop) (E : Value → Shared → Prop), C i j → Q (.int (g i j) s.toks) { s with toks := s.toks + 1 } → wpAny (model X.prog X.w) X.A (f (.int i t) (.int j u)) Q E s) :
    OpR X f (rI C fun i j => .int (g i j)) := by
  intro pins s σ H x y v u Q I rx ry h
  obtain ⟨i, j, rfl, rfl, hc, q⟩ := h
  obtain ⟨t, rfl⟩ := rx
  obtain ⟨t', rfl⟩ := ry
  exact rule i j t t' s _ _ hc ⟨.int (g i j), H, I.tok _, ⟨_, rfl⟩, q⟩
theorem opI0 {f : Value → Value → Sem Value} {g : Int → Int → Int}
    (rule : ∀ (i j : Int) (t u : Tok) (s : Shared) (Q : Value → Shared → Prop) (E : Value → Shared → Prop), Q (.int (g i j) s.toks) { s with toks := s.toks + 1 } → wpAny (model X.prog X.w) X.A (f (.int i t) (.int j u)) Q E s) :
    OpR X f (rI0 fun i j => .int (g i j)) := by
  intro pins s σ H x y v u Q I rx ry h
  obtain ⟨i, j, rfl, rfl, q⟩ := h
  obtain ⟨t, rfl⟩ := rx
  obtain ⟨t', rfl⟩ := ry
  exact rule i j t t' s _ _ ⟨.int (g i j), H, I.tok _, ⟨_, rfl⟩, q⟩
theorem opB0 {f : Value → Value → Sem Value} {g : Int → Int → Bool}
    (rule : ∀ (i j : Int) (t u : Tok) (s : Shared) (Q : Value → Shared → Prop) (E : Value → Shared → Prop), Q (.bool (g i j)) s → wpAny (model X.prog X.w) X.A (f (.int i t) (.int j u)) Q E s) :
    OpR X f (rI0 fun i j => .bl (g i j)) := by
  intro pins s σ H x y v u Q I rx ry h
  obtain ⟨i, j, rfl, rfl, q⟩ := h
  obtain ⟨t, rfl⟩ := rx
  obtain ⟨t', rfl⟩ := ry
  exact rule i j t t' s _ _ ⟨.bl (g i j), H, I, rfl, q⟩
def CDiv (i j : Int) : Prop := 0 < j ∧ j < 1073741824
def CDivN (i j : Int) : Prop := j ≠ 0 ∧ j.natAbs < 1073741824
def CPow (i j : Int) : Prop := 0 ≤ j ∧ j ≤ 1000000 ∧ i.natAbs < 2 ^ 64
def CMul (i j : Int) : Prop := (-(2 ^ 64) < i ∧ i < 2 ^ 64) ∨ (-(2 ^ 64) < j ∧ j < 2 ^ 64)
theorem CMul.ok {i j : Int} (h : CMul i j) : IntMulOk i j := by
  rcases h with ⟨h1, h2⟩ | ⟨h1, h2⟩
  · exact .of_left (intBits_le_64 h1 h2)
  · exact .of_right (intBits_le_64 h1 h2)
theorem op_add : OpR X (binaryOp .Add) (rI0 fun i j => .int (i + j)) := opI0 fun _ _ _ _ _ _ _ q => add_int q
theorem op_sub : OpR X (binaryOp .Sub) (rI0 fun i j => .int (i - j)) := opI0 fun _ _ _ _ _ _ _ q => sub_int q
theorem op_mul : OpR X (binaryOp .Mult) (rI CMul fun i j => .int (i * j)) := opI fun _ _ _ _ _ _ _ hc q => mul_int q hc.ok
theorem op_fdiv : OpR X (binaryOp .FloorDiv) (rI CDiv fun i j => .int (i / j)) := opI fun i j _ _ _ _ _ hc q => by
  have h1 : (0 : Int) < j := hc.1
  have h2 : j < 1073741824 := hc.2
  exact floordiv_int (by omega) (by rw [Int.fdiv_eq_ediv_of_nonneg i (by omega)]; exact q) (.inl (PyProof.noPylong_small (by omega)))
theorem op_mod : OpR X (binaryOp .Mod) (rI (fun _ j => 0 < j) fun i j => .int (i % j)) := opI fun i j _ _ _ _ _ hc q => by
  have h1 : (0 : Int) < j := hc
  exact mod_int' (by omega) (by rw [Int.fmod_eq_emod_of_nonneg i (by omega)]; exact q)
end
def scal : V → V → Bool
  | .non, .non => true | .non, .int _ => true | .int _, .non => true | .non, .bl _ => true | .bl _, .non => true | .non, .str _ => true | .str _, .non => true
  | .int _, .int _ => true | .bl _, .bl _ => true | .str _, .str _ => true | .byt _, .byt _ => true
  | .int _, .str _ => true | .str _, .int _ => true | .bl _, .str _ => true | .str _, .bl _ => true
  | _, _ => false
def rEq : R2 := fun x y H Q => scal x y = true ∧ Q (.bl (decide (x = y))) H
def rNe : R2 := fun x y H Q => scal x y = true ∧ Q (.bl (!decide (x = y))) H
theorem dec_int {i j : Int} : decide (V.int i = V.int j) = (i == j) := by
  rw [Bool.eq_iff_iff]
  simp
theorem dec_bl {i j : Bool} : decide (V.bl i = V.bl j) = (i == j) := by
  rw [Bool.eq_iff_iff]
  simp
theorem dec_str {i j : Str} : decide (V.str i = V.str j) = (i == j) := by
  rw [Bool.eq_iff_iff]
  simp
theorem dec_byt {i j : Array UInt8} : decide (V.byt i = V.byt j) = (i.toList == j.toList) := by
  rw [Bool.eq_iff_iff]
  cases i
  cases j
  simp
section
variable {X : Cx} {a b c : Expr} {ta tb tc : TE} {pos : Pos}
theorem fin_bl {pins : List (Addr × Obj)} {σ : St} {H : Hp} {s : Shared} {Q : VK} {k k' : Bool} (I : Inv X pins σ H s) (q : Q (.bl k) H) (e : k = k') : EP X pins σ Q (.bool k') s := by
  subst e
  exact ⟨.bl k, H, I, rfl, q⟩
theorem op_eq : OpR X (compareOp .Eq) rEq := by
  intro pins s σ H x y v u Q I rx ry h
  obtain ⟨hs, q⟩ := h
  cases x with
  | non =>
    cases rx
    cases y with
    | non => cases ry; exact PySem.EqNone.eq_none_none (fin_bl I q (by simp))
    | bl j => cases ry; exact PySem.EqNone.eq_none_bool (fin_bl I q (by simp))
    | int j => obtain ⟨t', rfl⟩ := ry; exact PySem.EqNone.eq_none_int (fin_bl I q (by simp))
    | str j => obtain ⟨t', rfl⟩ := ry; exact PySem.EqNone.eq_none_str (fin_bl I q (by simp))
    | _ => exact absurd (show false = true from hs) Bool.false_ne_true
  | bl i =>
    cases rx
    cases y with
    | non => cases ry; exact PySem.EqNone.eq_bool_none (fin_bl I q (by simp))
    | bl j => cases ry; exact eq_bool (fin_bl I q dec_bl)
    | str j => obtain ⟨t', rfl⟩ := ry; exact PySem.EqMixed.eq_bool_str (fin_bl I q (by simp))
    | _ => exact absurd (show false = true from hs) Bool.false_ne_true
  | int i =>
    obtain ⟨t, rfl⟩ := rx
    cases y with
    | non => cases ry; exact PySem.EqNone.eq_int_none (fin_bl I q (by simp))
    | int j => obtain ⟨t', rfl⟩ := ry; exact eq_int (fin_bl I q dec_int)
    | str j => obtain ⟨t', rfl⟩ := ry; exact PySem.EqMixed.eq_int_str (fin_bl I q (by simp))
    | _ => exact absurd (show false = true from hs) Bool.false_ne_true
  | str i =>
    obtain ⟨t, rfl⟩ := rx
    cases y with
    | non => cases ry; exact PySem.EqNone.eq_str_none (fin_bl I q (by simp))
    | bl j => cases ry; exact PySem.EqMixed.eq_str_bool (fin_bl I q (by simp))
    | int j => obtain ⟨t', rfl⟩ := ry; exact PySem.EqMixed.eq_str_int (fin_bl I q (by simp))
    | str j => obtain ⟨t', rfl⟩ := ry; exact eq_str (fin_bl I q dec_str)
    | _ => exact absurd (show false = true from hs) Bool.false_ne_true
  | byt i =>
    obtain ⟨t, rfl⟩ := rx
    cases y with
    | byt j => obtain ⟨t', rfl⟩ := ry; exact PySem.W.eq_bytes (fin_bl I q dec_byt)
    | _ => exact absurd (show false = true from hs) Bool.false_ne_true
  | _ => cases y <;> exact absurd (show false = true from hs) Bool.false_ne_true
theorem op_ne : OpR X (compareOp .NotEq) rNe := by
  intro pins s σ H x y v u Q I rx ry h
  obtain ⟨hs, q⟩ := h
  cases x with
  | non =>
    cases rx
    cases y with
    | non => cases ry; exact PySem.EqNone.ne_none_none (fin_bl I q (by simp))
    | bl j => cases ry; exact PySem.EqNone.ne_none_bool (fin_bl I q (by simp))
    | int j => obtain ⟨t', rfl⟩ := ry; exact PySem.EqNone.ne_none_int (fin_bl I q (by simp))
    | str j => obtain ⟨t', rfl⟩ := ry; exact PySem.EqNone.ne_none_str (fin_bl I q (by simp))
    | _ => exact absurd (show false = true from hs) Bool.false_ne_true
  | bl i =>
    cases rx
    cases y with
    | non => cases ry; exact PySem.EqNone.ne_bool_none (fin_bl I q (by simp))
    | bl j => cases ry; exact ne_bool (fin_bl I q (congrArg not dec_bl))
    | str j => obtain ⟨t', rfl⟩ := ry; exact PySem.EqMixed.ne_bool_str (fin_bl I q (by simp))
    | _ => exact absurd (show false = true from hs) Bool.false_ne_true
  | int i =>
    obtain ⟨t, rfl⟩ := rx
    cases y with
    | non => cases ry; exact PySem.EqNone.ne_int_none (fin_bl I q (by simp))
    | int j => obtain ⟨t', rfl⟩ := ry; exact ne_int (fin_bl I q (congrArg not dec_int))
    | str j => obtain ⟨t', rfl⟩ := ry; exact PySem.EqMixed.ne_int_str (fin_bl I q (by simp))
    | _ => exact absurd (show false = true from hs) Bool.false_ne_true
  | str i =>
    obtain ⟨t, rfl⟩ := rx
    cases y with
    | non => cases ry; exact PySem.EqNone.ne_str_none (fin_bl I q (by simp))
    | bl j => cases ry; exact PySem.EqMixed.ne_str_bool (fin_bl I q (by simp))
    | int j => obtain ⟨t', rfl⟩ := ry; exact PySem.EqMixed.ne_str_int (fin_bl I q (by simp))
    | str j => obtain ⟨t', rfl⟩ := ry; exact ne_str (fin_bl I q (congrArg not dec_str))
    | _ => exact absurd (show false = true from hs) Bool.false_ne_true
  | byt i =>
    obtain ⟨t, rfl⟩ := rx
    cases y with
    | byt j => obtain ⟨t', rfl⟩ := ry; exact PySem.W.ne_bytes (fin_bl I q (congrArg not dec_byt))
    | _ => exact absurd (show false = true from hs) Bool.false_ne_true
  | _ => cases y <;> exact absurd (show false = true from hs) Bool.false_ne_true
theorem op_lt : OpR X (compareOp .Lt) (rI0 fun i j => .bl (decide (i < j))) := opB0 fun _ _ _ _ _ _ _ q => lt_int q
theorem op_gt : OpR X (compareOp .Gt) (rI0 fun i j => .bl (decide (j < i))) := opB0 fun _ _ _ _ _ _ _ q => gt_int q
theorem op_ge : OpR X (compareOp .GtE) (rI0 fun i j => .bl (decide (j ≤ i))) := opB0 fun _ _ _ _ _ _ _ q => ge_int q
theorem op_in_str : OpR X (compareOp .In) (fun x y H Q => ∃ i j, x = .str i ∧ y = .str j ∧ Q (.bl (!(Builtin.Str.occurrences j i 0 j.length 1).isEmpty)) H) := by
  intro pins s σ H x y v u Q I rx ry h
  obtain ⟨i, j, rfl, rfl, q⟩ := h
  obtain ⟨t, rfl⟩ := rx
  obtain ⟨t', rfl⟩ := ry
  exact in_str (fin_bl I q rfl)
theorem op_isN : OpR X (compareOp .Is) (fun x y H Q => y = .non ∧ Q (.bl (decide (x = .non))) H) := by
  intro pins s σ H x y v u Q I rx ry h
  obtain ⟨rfl, q⟩ := h
  cases ry
  refine is_none_gen (fin_bl I q ?_)
  cases x <;> first
    | (cases rx; rfl)
    | (obtain ⟨t, rfl⟩ := rx; rfl)
def isObj : HO → Bool
  | .lst _ => true
  | .ins _ _ _ => true
  | _ => false
theorem nomark (b : Expr) {op : CmpOp} (h : op ≠ .In := by decide) (h2 : op ≠ .NotIn := by decide) : behindInMarks op b = false := by
  have e1 : (op == CmpOp.In) = false := by cases op <;> first | rfl | exact absurd rfl h
  have e2 : (op == CmpOp.NotIn) = false := by cases op <;> first | rfl | exact absurd rfl h2
  cases b <;> simp [behindInMarks, e1, e2]
theorem pe_cmpR {op : CmpOp} {r : R2} (ho : OpR X (compareOp op) r) (ha : PE X a ta) (hb : PE X b tb) (hm : behindInMarks op b = false) : PE X (.Compare a [op] [b] pos) (tOp r ta tb) := by
  intro pins s σ H Q I h
  exact wpAny_Compare1 (binT ha hb I h fun v u s2 x y H2 I2 rx ry q => ho pins s2 σ H2 x y v u Q I2 rx ry q) hm
def tTest (t : TE) : TT := fun σ H Q => t σ H fun x H' => ∃ k, x = .bl k ∧ Q k H'
theorem pt_cmpR {op : CmpOp} {r : R2} (ho : OpR X (compareOp op) r) (ha : PE X a ta) (hb : PE X b tb) (hm : behindInMarks op b = false) : PT X (.Compare a [op] [b] pos) (tTest (tOp r ta tb)) := by
  intro pins s σ H Q I h
  refine wpAny_isTrue_Compare1 (thn (ha pins s σ H _ I h) fun v s1 ⟨x, H1, I1, r1, q1⟩ => thn (hb pins s1 σ H1 _ I1 q1) fun u s2 ⟨y, H2, I2, r2, q2⟩ =>
    thn (ho pins s2 σ H2 x y v u _ I2 r1 r2 q2) fun c s3 ⟨z, H3, I3, r3, k, e, q3⟩ => ?_) hm
  subst e
  cases r3
  exact wpAny_truthy_bool ⟨H3, I3, q3⟩
def tChain (r r' : R2) (ta tb tc : TE) : TE := fun σ H Q => ta σ H fun x H1 => tb σ H1 fun y H2 => r x y H2 fun z H3 => ∃ k, z = .bl k ∧
  (if k = true then tc σ H3 fun w' H4 => r' y w' H4 Q else Q (.bl false) H3)
def TruV (K : PySem.W.Frag) (x : V) (H : Hp) (k : Bool) : Prop :=
  match x with
  | .non => k = false
  | .bl b => k = b
  | .int i => k = (i != 0)
  | .str y => y.length ≤ sizeLine ∧ k = ((y.length : Int) != 0)
  | .byt y => y.size ≤ sizeLine ∧ k = ((y.size : Int) != 0)
  | .ref p => (∃ xs, SqL K H p xs ∧ k = !xs.isEmpty) ∨ (∃ xs, SqT K H p xs ∧ k = !xs.isEmpty) ∨ ∃ kvs, H p = some (.dK kvs) ∧ k = !kvs.isEmpty
  | _ => False
theorem isEmpty_kv {κ : Type} {kvs : List (κ × V)} {vs : List (κ × Value)} (r : KV kvs vs) : (!vs.isEmpty) = !kvs.isEmpty := by
  cases r <;> rfl
theorem isEmpty_of {xs : List V} {its : List Value} (r : Vals xs its) : (!its.toArray.isEmpty) = !xs.isEmpty := by
  cases r <;> simp
theorem line63 : (sizeLine : Nat) < 2 ^ 63 := by rw [sizeLine_eq]; decide
theorem tru_ok : TruR X (fun x H Q => ∃ k, TruV X.K x H k ∧ Q k H) := by
  intro pins s σ H x v Q I rx h
  obtain ⟨k, e, q⟩ := h
  have hl := line63
  have hs : sizeLine = 16777216 := sizeLine_eq
  cases x with
  | non =>
    cases rx
    have e' : k = false := e
    subst e'
    exact truthy_none ⟨H, I, q⟩
  | bl b =>
    cases rx
    have e' : k = b := e
    subst e'
    exact wpAny_truthy_bool ⟨H, I, q⟩
  | int i =>
    obtain ⟨t, rfl⟩ := rx
    have e' : k = (i != 0) := e
    subst e'
    exact PySem.P.truthy_int ⟨H, I, q⟩
  | str y =>
    obtain ⟨t, rfl⟩ := rx
    obtain ⟨hy, e'⟩ : y.length ≤ sizeLine ∧ k = ((y.length : Int) != 0) := e
    subst e'
    exact PySem.P.truthy_str (by omega) ⟨H, I.tok _, q⟩
  | byt y =>
    obtain ⟨t, rfl⟩ := rx
    obtain ⟨hy, e'⟩ : y.size ≤ sizeLine ∧ k = ((y.size : Int) != 0) := e
    subst e'
    exact PySem.W.truthy_bytes (by omega) ⟨H, I.tok _, q⟩
  | ref p =>
    cases rx
    have e' : (∃ xs, SqL X.K H p xs ∧ k = !xs.isEmpty) ∨ (∃ xs, SqT X.K H p xs ∧ k = !xs.isEmpty) ∨ ∃ kvs, H p = some (.dK kvs) ∧ k = !kvs.isEmpty := e
    rcases e' with ⟨xs, hx, e'⟩ | ⟨xs, hx, e'⟩ | ⟨kvs, hx, e'⟩
    · subst e'
      obtain ⟨its, r, pl, hz⟩ := I.list hx
      have hlen := r.length
      exact wpAny_truthy_list pl.isList (by simp only [List.size_toArray]; omega) ⟨H, I.tok _, by rw [isEmpty_of r]; exact q⟩
    · subst e'
      obtain ⟨its, r, pl, hz⟩ := I.tuple hx
      have hlen := r.length
      exact truthy_tuple pl (by simp only [List.size_toArray]; omega) ⟨H, I.tok _, by rw [isEmpty_of r]; exact q⟩
    · subst e'
      obtain ⟨hz, hS, vs, r, m⟩ : kvs.length ≤ sizeLine ∧ (p == sysModules) = false ∧ ∃ vs, KV kvs vs ∧ s.heap.DictOf (mixKind X.prog X.w) p vs := I.hok p _ hx
      have hlen : kvs.length = vs.length := Paired.length r
      exact wpAny_truthy_dict hS m (by omega) ⟨H, I.tok _, by rw [isEmpty_kv r]; exact q⟩
  | _ => exact (show False from e).elim
theorem pt_truth (ha : PE X a ta) (he : ∀ whole, isTrue a X.env whole = (do let v ← whole; standAt a.pos; holding [v] (truthy v))) :
    PT X a (fun σ H Q => ta σ H fun x H' => ∃ k, TruV X.K x H' k ∧ Q k H') := by
  intro pins s σ H Q I h
  exact isTrue_plain (thn (ha pins s σ H _ I h) fun v s1 ⟨x, H1, I1, r1, q1⟩ => tru_ok pins s1 σ H1 x v Q I1 r1 q1) (he _)
theorem op_add_str : OpR X (binaryOp .Add) (fun x y H Q => ∃ i j, x = .str i ∧ y = .str j ∧ i.length + j.length ≤ sizeLine ∧ Q (.str (i ++ j)) H) := by
  intro pins s σ H x y v u Q I rx ry h
  obtain ⟨i, j, rfl, rfl, hz, q⟩ := h
  obtain ⟨t, rfl⟩ := rx
  obtain ⟨t', rfl⟩ := ry
  exact add_str (fun t' tk => ⟨.str (i ++ j), H, I.tok _, ⟨_, rfl⟩, q⟩) hz
def PlainIxT (b : Expr) : Prop := ∀ o i, subscripted b false o i = operate [o, i] (getItem o i)
theorem vals1 {x : V} {us : List Value} (r : Vals [x] us) : ∃ u, us = [u] ∧ RelV x u := by
  cases r with
  | cons r1 r2 => cases r2; exact ⟨_, rfl, r1⟩
theorem call_int1 : CallR X (.type "int") (fun xs H Q => (∃ i, xs = [.int i] ∧ Q (.int i) H) ∨ ∃ k, xs = [.bl k] ∧ Q (.int (if k then 1 else 0)) H) := by
  intro pins s σ H xs us Q I r h
  rcases h with ⟨i, rfl, q⟩ | ⟨k, rfl, q⟩
  · obtain ⟨u, rfl, t, rfl⟩ := vals1 r
    exact call_int_int ⟨.int i, H, I, ⟨_, rfl⟩, q⟩
  · obtain ⟨u, rfl, r1⟩ := vals1 r
    cases r1
    exact call_int_bool ⟨.int (if k then 1 else 0), H, I.tok _, ⟨_, rfl⟩, q⟩
theorem call_str_int : CallR X (.type "str") (fun xs H Q => ∃ i, xs = [.int i] ∧ i.natAbs.log2 < 1920 ∧ Q (.str (toString i)) H) := by
  intro pins s σ H xs us Q I r h
  obtain ⟨i, rfl, hz, q⟩ := h
  obtain ⟨u, rfl, t, rfl⟩ := vals1 r
  exact PySem.P.str_of_int hz ⟨.str _, H, I.tok _, ⟨_, rfl⟩, q⟩
def LenV (K : PySem.W.Frag) (x : V) (H : Hp) (n : Nat) : Prop :=
  match x with
  | .str y => y.length ≤ sizeLine ∧ n = y.length
  | .byt y => y.size ≤ sizeLine ∧ n = y.size
  | .ref p => (∃ xs, SqL K H p xs ∧ n = xs.length) ∨ ∃ xs, SqT K H p xs ∧ n = xs.length
  | _ => False
end
open PySem PySem.Spec PyProof.Rows
structure ObjM (h : Heap) (x dx C : Addr) (mA : Str → Option Value) : Prop where
  obj : h.get? x = some (PySem.W.instObj C dx)
  ns : h.Ns1 dx mA
  ne : dx ≠ x
theorem lookIn_ns {h : Heap} {dx : Addr} {mA : Str → Option Value} (n : h.Ns1 dx mA) : ∃ od, h.get? dx = some od ∧ ∀ name, PySem.W.lookIn name od = some (mA name) := by
  obtain ⟨o, es, ep, ho, hd, hk, _, hm⟩ := n
  refine ⟨o, ho, fun name => ?_⟩
  have e := hm name
  unfold nsFind findBy at e
  rw [← Array.find?_toList] at e
  unfold PySem.W.lookIn
  rw [hd]
  dsimp only
  split
  · rename_i y q
    rw [q] at e
    exact congrArg some e
  · rename_i q
    rw [q] at e
    have a : es.toList.any (·.refKey) = false := by
      rw [List.any_eq_false]
      intro y hy
      obtain ⟨z, t, hkey⟩ := hk y (Array.mem_toList_iff.mp hy)
      simp [DictEntry.refKey, hkey]
    have a' : ¬ es.toList.any (·.refKey) = true := by rw [a]; exact Bool.false_ne_true
    rw [if_neg a']
    exact congrArg some e
theorem ObjM.look {h : Heap} {x dx C : Addr} {mA : Str → Option Value} (I : ObjM h x dx C mA) : ∃ od, PySem.W.InstAt h x (PySem.W.instObj C dx) C (some od) ∧ ∀ name, PySem.W.lookIn name od = some (mA name) :=
  let ⟨od, ho, hl⟩ := lookIn_ns I.ns
  ⟨od, ⟨I.obj, rfl, rfl, ho⟩, hl⟩
section
variable {prog : Program} {w : World} {A : Around} {E : Value → Shared → Prop} {s : Shared} {K : PySem.W.Frag} {x dx C f : Addr} {mA : Str → Option Value} {name : Str} {v : Value}
theorem get_map {expr : Bool} {Q : Value → Shared → Prop} (X : K.In s.heap) (I : ObjM s.heap x dx C mA) (hg : PySem.W.plainGet K C name = true) (hh : PySem.W.hasDictIn K C = true)
    (ha : PySem.W.findIn K (.ref C) name = some none) (hv : mA name = some v) (hv' : PySem.W.handedIn v = true) (h : Q v { s with toks := s.toks + 1 }) :
    wpAny (model prog w) A (getAttr (.ref x) name expr) Q E s := by
  obtain ⟨od, J, hl⟩ := I.look
  exact PySem.W.get_value X J (PySem.W.plainGet_of hg).1 (PySem.W.findObj_own hh ha rfl (by rw [hl, hv])) hv' h
theorem get_meth {pl : Sem Bool} {Q : Value × List Value → Shared → Prop} (X : K.In s.heap) (I : ObjM s.heap x dx C mA) (hg : PySem.W.plainGet K C name = true)
    (hf : PySem.W.findIn K (.ref C) name = some (some (.ref f))) (ht : PySem.W.isFn K (.ref f) = true) (hv : mA name = none) (h : Q (.ref f, [.ref x]) s) :
    wpAny (model prog w) A (getMethod (.ref x) name pl) Q E s := by
  obtain ⟨od, J, hl⟩ := I.look
  exact PySem.W.method_fn X J (PySem.W.plainGet_of hg).1 (PySem.W.plainGet_of hg).2 hf (beq_iff_eq.mp ht) (by show (PySem.W.lookIn name od).map (·.isSome) = some false; rw [hl, hv]; rfl) h
theorem set_map {ns : List Str} {Q : Unit → Shared → Prop} (X : K.In s.heap) (I : ObjM s.heap x dx C mA)
    (hs : PySem.W.findIn K (.ref C) "__setattr__" = some (some (.builtin "object.__setattr__"))) (hp : PySem.W.plainOver K C = true) (ht : PySem.W.takerIn K C name = some none) (hh : PySem.W.hasDictIn K C = true)
    (hw : PySem.Within mA ns) (hsz : ns.length ≤ sizeLine)
    (h : ∀ h', ObjM h' x dx C (fun y => if y = name then some v else mA y) → Heap.SameBut dx s.heap h' → Q () { s with heap := h', toks := s.toks + 2 }) :
    wpAny (model prog w) A (setAttr (.ref x) name v) Q E s := by
  obtain ⟨od, J, hl⟩ := I.look
  refine PySem.W.set_plain X J hs (PySem.W.osa_open (s := { s with toks := s.toks + 1 }) (r := none) X J hp ht fun b => ?_)
  obtain ⟨cd, hc, hd'⟩ := PySem.W.any_some hh
  have hx : s.heap.get? x = some ⟨.ref C, some dx, .plain, #[]⟩ := I.obj
  refine wpAny_bind (wpAny_pure (wpAny_bind (wpAny_bind (wpAny_loadPart hx (wpAny_bind (PySem.W.Looks.here (s := { s with toks := s.toks + 1 }) (PySem.W.looks_clsIn X hc) ?_))))))
  rw [hd']
  refine wpAny_pure (a := some dx) (wpAny_bind (wpAny_pure (wpAny_bind ?_)))
  refine wpAny_nsSet1 (s := { s with toks := s.toks + 1 }) I.ns fun h' hn2 hs2 => ?_
  obtain ⟨oD, esD, epD, hoD, hdD, hcD⟩ := hn2.count (PySem.Within.cons name v hw)
  refine wpAny_bind (wpAny_lookBehind hoD (by rw [hdD]; exact pastItsLine_dict (Nat.le_trans hcD (by rw [List.length_cons]; omega))) ?_)
  exact wpAny_pure (h _ ⟨(hs2.2 _ (Ne.symm I.ne)).trans I.obj, hn2, I.ne⟩ hs2)
theorem make_map {R : Result → Shared → Prop} {vs : List Value} {kw : List (Str × Value)} (X : K.In s.heap) (hm : PySem.W.makesIn K C = true)
    (hi : PySem.W.findIn K (.ref C) "__init__" = some (some (.ref f))) (hf : PySem.W.typeIn K (.ref f) = some (.type "function"))
    (h : codeAny (model prog w) (A.under (.builtin "type.__call__" ⟨.ref C :: vs, kw⟩)) (.call (.ref f) ⟨.ref (s.heap.objs.size + 1) :: vs, kw⟩) (PySem.W.InitBack (s.heap.objs.size + 1) R)
      { s with heap := (s.heap.push PySem.W.emptyDict).push (PySem.W.instObj C s.heap.objs.size) }) :
    codeAny (model prog w) A (.call (.ref C) ⟨vs, kw⟩) R s := by
  obtain ⟨hh, g, d, t, os⟩ := s
  exact PySem.W.make_core (PySem.W.makes_of X hm) (PySem.W.looks_findIn X hi) (fun self => PySem.W.bind_fn X self hf) (.inl rfl) h
end
def putF (f : Str) (v : V) : List (Str × V) → List (Str × V)
  | [] => [(f, v)]
  | (g, x) :: r => if g = f then (g, v) :: r else (g, x) :: putF f v r
theorem lookup_putF (f g : Str) (v : V) : ∀ fs : List (Str × V), (putF f v fs).lookup g = if g = f then some v else fs.lookup g
  | [] => by
    show List.lookup g [(f, v)] = _
    by_cases h : g = f
    · have hb : (g == f) = true := beq_iff_eq.mpr h
      simp only [List.lookup, hb, if_pos h]
    · have hb : (g == f) = false := beq_eq_false_iff_ne.mpr h
      simp only [List.lookup, hb, if_neg h]
  | (k, x) :: r => by
    have ih := lookup_putF f g v r
    rw [show putF f v ((k, x) :: r) = (if k = f then (k, v) :: r else (k, x) :: putF f v r) from rfl]
    by_cases hk : k = f
    · rw [if_pos hk]
      by_cases h : g = k
      · have hb : (g == k) = true := beq_iff_eq.mpr h
        simp only [List.lookup, hb, if_pos (h.trans hk)]
      · have hb : (g == k) = false := beq_eq_false_iff_ne.mpr h
        simp only [List.lookup, hb, if_neg (fun e : g = f => h (e.trans hk.symm))]
    · rw [if_neg hk]
      by_cases h : g = k
      · have hb : (g == k) = true := beq_iff_eq.mpr h
        simp only [List.lookup, hb, if_neg (fun e : g = f => hk (h.symm.trans e))]
      · have hb : (g == k) = false := beq_eq_false_iff_ne.mpr h
        simp only [List.lookup, hb]
        exact ih
theorem keys_putF (f : Str) (v : V) : ∀ fs : List (Str × V), f ∈ (putF f v fs).map (·.1) ∧ ∀ g, g ∈ fs.map (·.1) → g ∈ (putF f v fs).map (·.1)
  | [] => ⟨by simp [putF], fun g h => by simp at h⟩
  | (k, x) :: r => by
    obtain ⟨i1, i2⟩ := keys_putF f v r
    rw [show putF f v ((k, x) :: r) = (if k = f then (k, v) :: r else (k, x) :: putF f v r) from rfl]
    by_cases hk : k = f
    · rw [if_pos hk]
      subst hk
      exact ⟨by simp, fun g h => by simpa using h⟩
    · rw [if_neg hk]
      refine ⟨?_, fun g h => ?_⟩
      · rw [List.map_cons]
        exact List.mem_cons_of_mem _ i1
      · rw [List.map_cons] at h ⊢
        rcases List.mem_cons.mp h with e | e
        · exact List.mem_cons.mpr (.inl e)
        · exact List.mem_cons_of_mem _ (i2 g e)
theorem length_putF (f : Str) (v : V) : ∀ fs : List (Str × V), (putF f v fs).length ≤ fs.length + 1
  | [] => by simp [putF]
  | (k, x) :: r => by
    have ih := length_putF f v r
    rw [show putF f v ((k, x) :: r) = (if k = f then (k, v) :: r else (k, x) :: putF f v r) from rfl]
    by_cases hk : k = f
    · rw [if_pos hk, List.length_cons, List.length_cons]; omega
    · rw [if_neg hk, List.length_cons, List.length_cons]; omega
theorem RelO.some_of {v : V} {o : Option Value} (r : RelO (some v) o) : ∃ u, o = some u ∧ RelV v u := by
  cases o with
  | none => exact (show False from r).elim
  | some u => exact ⟨u, rfl, r⟩
theorem RelO.none_of {o : Option Value} (r : RelO none o) : o = none := by
  cases o with
  | none => rfl
  | some u => exact (show False from r).elim
theorem handed_of {v : V} {u : Value} (r : RelV v u) : PySem.W.handedIn u = true := by
  cases v with
  | non => cases (show u = Value.none from r); rfl
  | bl b => cases (show u = Value.bool b from r); rfl
  | int i => obtain ⟨t, e⟩ := (show ∃ t, u = Value.int i t from r); cases e; rfl
  | str x => obtain ⟨t, e⟩ := (show ∃ t, u = Value.str x t from r); cases e; rfl
  | byt b => obtain ⟨t, e⟩ := (show ∃ t, u = Value.bytes b t from r); cases e; rfl
  | flt b => obtain ⟨t, e⟩ := (show ∃ t, u = Value.float b t from r); cases e; rfl
  | ref a => cases (show u = Value.ref a from r); rfl
  | ty n => cases (show u = Value.type n from r); rfl
section
variable {P : Program} {w : World} {H H' : Hp} {h h' : Heap} {a C dx : Addr} {fs fs' : List (Str × V)}
theorem ins_get (hok : HOk P w H h) (e : H a = some (.ins C dx fs)) : ∃ mA, ObjM h a dx C mA ∧ (∀ f, RelO (fs.lookup f) (mA f)) ∧ PySem.Within mA (fs.map (·.1)) ∧ fs.length ≤ 1000 ∧ H dx = some (.own a) := by
  obtain ⟨d, z, ne, ob, mA, n, r, q⟩ := (show ObjOk P w H h a (.ins C dx fs) from hok a _ e)
  exact ⟨mA, ⟨ob, n, ne⟩, r, q, z, d⟩
end
structure Cls (K : PySem.W.Frag) (C : Addr) : Prop where
  pg : PySem.W.plainGet K C Str.empty = true
  hd : PySem.W.hasDictIn K C = true
  po : PySem.W.plainOver K C = true
  sa : PySem.W.findIn K (.ref C) "__setattr__" = some (some (.builtin "object.__setattr__"))
theorem Cls.get {K : PySem.W.Frag} {C : Addr} (c : Cls K C) (f : Str) : PySem.W.plainGet K C f = true := c.pg
def NoAttr (K : PySem.W.Frag) (C : Addr) (f : Str) : Prop := PySem.W.findIn K (.ref C) f = some none
theorem NoAttr.taker {K : PySem.W.Frag} {C : Addr} {f : Str} (n : NoAttr K C f) : PySem.W.takerIn K C f = some none := by
  unfold PySem.W.takerIn
  rw [show PySem.W.findIn K (.ref C) f = some none from n]
  rfl
structure Con (K : PySem.W.Frag) (C : Addr) (f : Str) (v : V) (u : Value) : Prop where
  at_ : PySem.W.findIn K (.ref C) f = some (some u)
  rel : RelV v u
  get : PySem.W.specialIn K u "__get__" = some none
  cp : PySem.W.copiedNames.contains f = false
structure Meth (K : PySem.W.Frag) (C : Addr) (m : Str) (f : Addr) : Prop where
  at_ : PySem.W.findIn K (.ref C) m = some (some (.ref f))
  fn : PySem.W.isFn K (.ref f) = true
  kp : PySem.W.keepIn K (.ref f) = true
section
variable {X : Cx} {pins : List (Addr × Obj)} {σ : St} {H : Hp} {s : Shared} {a C dx : Addr} {fs : List (Str × V)} {f : Str} {v : V} {A : Around} {E : Value → Shared → Prop}
theorem getattr_ok {b : Bool} {Q : Value → Shared → Prop} (I : Inv X pins σ H s) (e : H a = some (.ins C dx fs)) (c : Cls X.K C) (n : NoAttr X.K C f) (l : fs.lookup f = some v)
    (h : ∀ u s', Inv X pins σ H s' → RelV v u → Q u s') : wpAny (model X.prog X.w) A (getAttr (.ref a) f b) Q E s := by
  obtain ⟨mA, O, r, _, _, _⟩ := ins_get I.hok e
  obtain ⟨u, hu, ru⟩ := RelO.some_of (v := v) (o := mA f) (by rw [← l]; exact r f)
  exact get_map I.kIn O (c.get f) c.hd n hu (handed_of ru) (h u _ (I.tok _) ru)
theorem getmeth_ok {m : Str} {g : Addr} {pl : Sem Bool} {Q : Value × List Value → Shared → Prop} (I : Inv X pins σ H s) (e : H a = some (.ins C dx fs)) (c : Cls X.K C) (k : Meth X.K C m g) (l : fs.lookup m = none)
    (h : Q (.ref g, [.ref a]) s) : wpAny (model X.prog X.w) A (getMethod (.ref a) m pl) Q E s := by
  obtain ⟨mA, O, r, _, _, _⟩ := ins_get I.hok e
  have hn : mA m = none := RelO.none_of (by rw [← l]; exact r m)
  exact get_meth I.kIn O (c.get m) k.at_ k.fn hn h
theorem setattr_ok {y : V} {u : Value} {Q : Unit → Shared → Prop} (I : Inv X pins σ H s) (e : H a = some (.ins C dx fs)) (c : Cls X.K C) (n : NoAttr X.K C f) (hl : fs.length < 1000) (ry : RelV y u)
    (h : ∀ s', Inv X pins σ (upd H a (.ins C dx (putF f y fs))) s' → Q () s') : wpAny (model X.prog X.w) A (setAttr (.ref a) f u) Q E s := by
  obtain ⟨mA, O, r, wi, _, ho⟩ := ins_get I.hok e
  have hz : (fs.map (·.1)).length ≤ sizeLine := by rw [List.length_map, sizeLine_eq]; omega
  refine set_map I.kIn O c.sa c.po n.taker c.hd wi hz fun h' O' sb => h _ ?_
  have hd : ∃ o, h'.get? dx = some o := let ⟨o, _, _, e', _⟩ := O'.ns; ⟨o, e'⟩
  refine I.write (x := a) (e := dx) (by rw [e]; exact True.intro) (.inr ho) (fun b q hb z => (sb.2 b hb).trans z) hd ?_
  refine ⟨by rw [upd_ne O.ne]; exact ho, ?_, O.ne, O'.obj, _, O'.ns, fun g => ?_, fun g hg => ?_⟩
  · have := length_putF f y fs; omega
  · show RelO ((putF f y fs).lookup g) (if g = f then some u else mA g)
    rw [lookup_putF]
    by_cases q : g = f
    · rw [if_pos q, if_pos q]; exact ry
    · rw [if_neg q, if_neg q]; exact r g
  · by_cases q : g = f
    · rw [q]; exact (keys_putF f y fs).1
    · refine (keys_putF f y fs).2 g (wi g fun z => hg ?_)
      show (if g = f then some u else mA g) = none
      rw [if_neg q]; exact z
theorem Inv.made (I : Inv X pins σ H s) : Inv X pins σ (upd (upd H s.heap.objs.size (.own (s.heap.objs.size + 1))) (s.heap.objs.size + 1) (.ins C s.heap.objs.size []))
    { s with heap := (s.heap.push PySem.W.emptyDict).push (PySem.W.instObj C s.heap.objs.size) } := by
  have e1 : (s.heap.push PySem.W.emptyDict).get? s.heap.objs.size = some PySem.W.emptyDict := Heap.get?_push_size s.heap rfl
  have e2 : ((s.heap.push PySem.W.emptyDict).push (PySem.W.instObj C s.heap.objs.size)).get? (s.heap.objs.size + 1) = some (PySem.W.instObj C s.heap.objs.size) := by
    have := Heap.get?_push_size (s.heap.push PySem.W.emptyDict) (o := PySem.W.instObj C s.heap.objs.size) rfl
    rwa [Heap.size_push] at this
  have e3 : (s.heap.push PySem.W.emptyDict).Ns s.heap.objs.size (fun _ => none) := ⟨PySem.W.emptyDict, #[], _, e1, rfl, (fun e he => absurd he (by simp)), fun _ => rfl⟩
  have I1 := I.laid (a := s.heap.objs.size) (o := .own (s.heap.objs.size + 1)) (h' := s.heap.push PySem.W.emptyDict) (t' := s.toks) (fun b u q => Heap.get?_push_of_some _ q) (Nat.le_refl _) ⟨_, e1⟩
  refine I1.laid (a := s.heap.objs.size + 1) (o := .ins C s.heap.objs.size []) (t' := s.toks) (fun b u q => Heap.get?_push_of_some _ q) (Nat.le_of_eq (Heap.size_push _ _)) ?_
  have ne : s.heap.objs.size ≠ s.heap.objs.size + 1 := Nat.ne_of_lt (Nat.lt_succ_self _)
  refine ⟨by rw [upd_ne ne, upd_same], Nat.zero_le _, ne, e2, fun _ => none, (Heap.Ns1.of_empty e3).at fun o q => Heap.get?_push_of_some _ q, fun _ => True.intro, fun y hy => absurd rfl hy⟩
theorem attr_of {prog : Program} {w : World} {env : Env} {e : Expr} {f : Str} {pos : Pos} {s : Shared} {Q : Value → Shared → Prop} (hb : attributeBase e f env (eval e env) = eval e env)
    (h : wpAny (model prog w) A (eval e env) (fun o s₁ => wpAny (model prog w) A (getAttr o f true) Q E s₁) E s) : wpAny (model prog w) A (eval (.Attribute e f pos) env) Q E s :=
  Attribute_any_ h (by rw [arm_eval_Attribute, hb])
end
def tFld (K : PySem.W.Frag) (ta : TE) (f : Str) : TE := fun σ H Q => ta σ H fun x H1 => ∃ a C dx fs v, x = .ref a ∧ H1 a = some (.ins C dx fs) ∧ Cls K C ∧ NoAttr K C f ∧ fs.lookup f = some v ∧ Q v H1
def tCon (K : PySem.W.Frag) (ta : TE) (f : Str) : TE := fun σ H Q => ta σ H fun x H1 => ∃ a C dx fs v u, x = .ref a ∧ H1 a = some (.ins C dx fs) ∧ Cls K C ∧ Con K C f v u ∧ fs.lookup f = none ∧ Q v H1
def sFld (K : PySem.W.Frag) (ta tv : TE) (f : Str) : TS := fun D σ H => tv σ H fun y H1 => ta σ H1 fun x H2 => ∃ a C dx fs, x = .ref a ∧ H2 a = some (.ins C dx fs) ∧ Cls K C ∧ NoAttr K C f ∧ fs.length < 1000 ∧
  D.nx σ (upd H2 a (.ins C dx (putF f y fs)))
def InOp (X : Cx) (op : Operator) (rd : V → V → Hp → VK → Prop) : Prop :=
  ∀ (pins : List (Addr × Obj)) (s : Shared) (σ : St) (H : Hp) (x y : V) (u v : Value) (Q : VK), Inv X pins σ H s → RelV x u → RelV y v → rd x y H Q → wpAny (model X.prog X.w) X.A (inplaceOp op u v) (EP X pins σ Q) X.xe s
def sFldAug (K : PySem.W.Frag) (ta tv : TE) (rd : V → V → Hp → VK → Prop) (f : Str) : TS := fun D σ H => ta σ H fun x H1 => ∃ a C dx fs v, x = .ref a ∧ H1 a = some (.ins C dx fs) ∧ Cls K C ∧ NoAttr K C f ∧ fs.lookup f = some v ∧
  tv σ H1 fun y H2 => rd v y H2 fun z H3 => ∃ dx' fs', H3 a = some (.ins C dx' fs') ∧ fs'.length < 1000 ∧ D.nx σ (upd H3 a (.ins C dx' (putF f z fs')))
section
variable {X : Cx} {o e value : Expr} {f : Str} {pos pos' tpos : Pos} {ta tv : TE}
theorem pe_fld (he : PE X e ta) (hb : attributeBase e f X.env (eval e X.env) = eval e X.env) : PE X (.Attribute e f pos) (tFld X.K ta f) := by
  intro pins s σ H Q I h
  refine attr_of hb (thn (he pins s σ H _ I h) fun u s1 ⟨x, H1, I1, rx, a, C, dx, fs, v, ex, ea, c, n, l, q⟩ => ?_)
  subst ex
  obtain rfl : u = Value.ref a := rx
  exact getattr_ok I1 ea c n l fun u' s2 I2 ru => ⟨v, H1, I2, ru, q⟩
theorem ps_fld (ha : PE X o ta) (hv : PE X value tv) (hs : swapsWith value (some (.Attribute o f pos')) pos.line X.env = pure false) : PS X (.Assign [.Attribute o f pos'] value pos) (sFld X.K ta tv f) := by
  intro pins s σ H D I h
  refine plainObj_wpAny_Assign_Attribute (thn (hv pins s σ H _ I h) fun u s1 ⟨y, H1, I1, ry, q⟩ => thn (ha pins s1 σ H1 _ I1 q) fun ov s2 ⟨x, H2, I2, rx, a, C, dx, fs, ex, ea, c, n, l, q2⟩ => ?_) hs
  subst ex
  obtain rfl : ov = Value.ref a := rx
  exact setattr_ok I2 ea c n l ry fun s3 I3 => ⟨σ, _, I3, q2⟩
theorem ps_fldaug {op : Operator} {rd : V → V → Hp → VK → Prop} (ha : PE X o ta) (hv : PE X value tv) (hop : InOp X op rd) : PS X (.AugAssign (.Attribute o f tpos) op value pos) (sFldAug X.K ta tv rd f) := by
  intro pins s σ H D I h
  refine wpAny_AugAssign_AttributeAny (thn (ha pins s σ H _ I h) fun ov s1 ⟨x, H1, I1, rx, a, C, dx, fs, v, ex, ea, c, n, l, q⟩ => ?_)
  subst ex
  obtain rfl : ov = Value.ref a := rx
  refine getattr_ok I1 ea c n l fun u s2 I2 ru => thn (hv pins s2 σ H1 _ I2 q) fun w3 s3 ⟨y, H2, I3, ry, q3⟩ => thn (hop pins s3 σ H2 v y u w3 _ I3 ru ry q3) fun w4 s4 ⟨z, H3, I4, rz, dx', fs', ea', l', q4⟩ => ?_
  exact setattr_ok I4 ea' c n l' rz fun s5 I5 => ⟨σ, _, I5, q4⟩
def rAdd : V → V → Hp → VK → Prop := fun x y H Q => ∃ i j, x = .int i ∧ y = .int j ∧ Q (.int (i + j)) H
def rSub : V → V → Hp → VK → Prop := fun x y H Q => ∃ i j, x = .int i ∧ y = .int j ∧ Q (.int (i - j)) H
theorem in_add : InOp X .Add rAdd := by
  rintro pins s σ H x y u v Q I rx ry ⟨i, j, rfl, rfl, q⟩
  obtain ⟨t, rfl⟩ := (show ∃ t, u = Value.int i t from rx)
  obtain ⟨t', rfl⟩ := (show ∃ t', v = Value.int j t' from ry)
  exact PyProof.Rows.iadd_int ⟨.int (i + j), H, I.tok _, ⟨_, rfl⟩, q⟩
end
section
variable {X : Cx} {pins : List (Addr × Obj)} {σ : St} {H : Hp} {s : Shared} {A : Around} {E : Value → Shared → Prop} {Q : Value → Shared → Prop} {c : Value} {b : Bool}
inductive TyOf (K : PySem.W.Frag) (H : Hp) : V → Value → Prop where
  | non : TyOf K H .non (.type "NoneType")
  | bl (x : Bool) : TyOf K H (.bl x) (.type "bool")
  | int (i : Int) : TyOf K H (.int i) (.type "int")
  | str (x : Str) : TyOf K H (.str x) (.type "str")
  | flt (x : UInt64) : TyOf K H (.flt x) (.type "float")
  | lst {a : Addr} {xs : List V} (e : H a = some (.lst xs)) : TyOf K H (.ref a) (.type "list")
  | frz {a : Addr} {o : Obj} {xs : List V} (e : H a = some (.frz o (.lst xs))) : TyOf K H (.ref a) (.type "list")
  | tup {a : Addr} {xs : List V} (e : H a = some (.tup xs)) : TyOf K H (.ref a) (.type "tuple")
  | dK {a : Addr} {kvs : List (Key × V)} (e : H a = some (.dK kvs)) : TyOf K H (.ref a) (.type "dict")
  | dT {a : Addr} {kvs : List (List Key × V)} (e : H a = some (.dT kvs)) : TyOf K H (.ref a) (.type "dict")
  | ins {a C dx : Addr} {fs : List (Str × V)} (e : H a = some (.ins C dx fs)) (cl : Cls K C) (ha : PySem.W.findIn K (.ref C) "__class__" = some (some (.builtin "object.__class__")))
      (hn : PySem.W.specialIn K (.builtin "object.__class__") "__get__" = some (some (.builtin "getset_descriptor.__get__"))) (htk : PySem.W.takesIn K (.builtin "object.__class__") = some true)
      (hm : PySem.W.mroIn K C (.type "object") = some true) : TyOf K H (.ref a) (.ref C)
theorem isinst_ok {x : V} {u t : Value} (I : Inv X pins σ H s) (rx : RelV x u) (ty : TyOf X.K H x t) (e : PySem.W.kitOne X.K t c = some b) (h : ∀ tk, Q (.bool b) { s with toks := tk }) :
    wpAny (model X.prog X.w) A (call (.builtin "isinstance") [u, c]) Q E s := by
  cases ty with
  | non => cases (show u = Value.none from rx); exact PySem.W.kia_one PySem.W.kitx_none I.kIn True.intro e (fun z => nomatch z) h
  | bl y => cases (show u = Value.bool y from rx); exact PySem.W.kia_one PySem.W.kitx_bool I.kIn True.intro e (fun z => nomatch z) h
  | int i => obtain ⟨t, q⟩ := (show ∃ t, u = Value.int i t from rx); cases q; exact PySem.W.kia_one PySem.W.kitx_int I.kIn True.intro e (fun z => nomatch z) h
  | str y => obtain ⟨t, q⟩ := (show ∃ t, u = Value.str y t from rx); cases q; exact PySem.W.kia_one PySem.W.kitx_str I.kIn True.intro e (fun z => nomatch z) h
  | flt y => obtain ⟨t, q⟩ := (show ∃ t, u = Value.float y t from rx); cases q; exact PySem.W.kia_one PySem.W.kitx_float I.kIn True.intro e (fun z => nomatch z) h
  | @lst a xs ea =>
    cases (show u = Value.ref a from rx)
    obtain ⟨_, _, n, _, h1⟩ := (show ObjOk X.prog X.w H s.heap a (.lst xs) from I.hok a _ ea)
    exact PySem.W.kia_one PySem.W.kitx_list I.kIn ⟨_, h1, rfl⟩ e (fun z => nomatch z) h
  | @frz a ob xs ea =>
    cases (show u = Value.ref a from rx)
    obtain ⟨_, _, _, n, _, h1⟩ := (show ObjOk X.prog X.w H s.heap a (.frz ob (.lst xs)) from I.hok a _ ea)
    exact PySem.W.kia_one PySem.W.kitx_list I.kIn ⟨_, h1, rfl⟩ e (fun z => nomatch z) h
  | @tup a xs ea =>
    cases (show u = Value.ref a from rx)
    obtain ⟨_, _, _, p⟩ := (show ObjOk X.prog X.w H s.heap a (.tup xs) from I.hok a _ ea)
    obtain ⟨o, h1, h2, _⟩ := p
    exact PySem.W.kia_one PySem.W.kitx_tuple I.kIn ⟨o, h1, h2⟩ e (fun z => nomatch z) h
  | @dK a kvs ea =>
    cases (show u = Value.ref a from rx)
    obtain ⟨_, _, vs, _, p⟩ := (show ObjOk X.prog X.w H s.heap a (.dK kvs) from I.hok a _ ea)
    obtain ⟨o, es, ep, h1, h2, _⟩ := p
    exact PySem.W.kia_one PySem.W.kitx_dict I.kIn ⟨o, h1, h2.1⟩ e (fun z => nomatch z) h
  | @dT a kvs ea =>
    cases (show u = Value.ref a from rx)
    obtain ⟨_, _, xs, _, o, es, ep, h1, h2, _⟩ := (show ObjOk X.prog X.w H s.heap a (.dT kvs) from I.hok a _ ea)
    exact PySem.W.kia_one PySem.W.kitx_dict I.kIn ⟨o, h1, h2.1⟩ e (fun z => nomatch z) h
  | @ins a C dx fs ea cl ha hn htk hm =>
    cases (show u = Value.ref a from rx)
    obtain ⟨mA, O, _⟩ := ins_get I.hok ea
    obtain ⟨od, J, _⟩ := O.look
    exact PySem.W.kia_one (PySem.W.kitx_own (cl.get _) cl.hd ha hn htk hm) I.kIn J e (fun z => nomatch z) h
end
open PySem PySem.Spec PyProof.Rows
structure Room (k : Nat) (A : Around) : Prop where
  hd : A.handled = none
  dp : A.depth + 3 * k + 5 < recursionLimit
  un : A.units + 16 * k + 200 < cLine
theorem Room.mono {j k : Nat} {A : Around} (r : Room k A) (h : j ≤ k) : Room j A := ⟨r.hd, by have := r.dp; omega, by have := r.un; omega⟩
theorem Room.deeper {k : Nat} {A : Around} (r : Room (k + 1) A) (env : Env) : Room k (A.deeper env) :=
  ⟨r.hd, by have := r.dp; show A.depth + 1 + 3 * k + 5 < _; omega, by have := r.un; show A.units + 3 + 16 * k + 200 < _; omega⟩
theorem make_depth {A : Around} {C : Addr} {us : List Value} {kw : List (Str × Value)} : (A.under (.builtin "type.__call__" ⟨.ref C :: us, kw⟩)).depth = A.depth + 1 := by
  first | rfl | simp [Around.under, Code.weight, Code.isCreation, Code.isGuard, Code.isCaller, Code.frames, Code.isFrame, guardIds]
theorem make_units {A : Around} {C : Addr} {us : List Value} {kw : List (Str × Value)} : (A.under (.builtin "type.__call__" ⟨.ref C :: us, kw⟩)).units = A.units + 1 := by
  first | rfl | simp [Around.under, Code.cUnits, Code.frames, Code.isFrame]
theorem Room.make {k : Nat} {A : Around} (r : Room (k + 1) A) (C : Addr) (us : List Value) (kw : List (Str × Value)) : Room k (A.under (.builtin "type.__call__" ⟨.ref C :: us, kw⟩)) :=
  ⟨r.hd, by have := r.dp; rw [make_depth]; omega, by have := r.un; rw [make_units]; omega⟩
theorem Room.depth {k : Nat} {A : Around} (r : Room k A) : A.depth < recursionLimit := by have := r.dp; omega
theorem Room.units0 {k : Nat} {A : Around} (r : Room k A) : A.units < cLine := by have := r.un; omega
def tNil : TA := fun _ H Q => Q [] H
def tCons (ta : TE) (tr : TA) : TA := fun σ H Q => ta σ H fun x H1 => tr σ H1 fun xs H2 => Q (x :: xs) H2
section
variable {X : Cx} {e : Expr} {es : List Expr} {te : TE} {t : TA} {pos : Pos}
theorem pa_nil : PA X [] tNil := fun _ _ _ _ H Q I h => Calls.spliced_nil ⟨[], H, I, .nil, h⟩
theorem pa_cons (ha : PE X e te) (hr : PA X es t) (hs : starEach (e :: es) X.env = (false, eval e X.env) :: starEach es X.env := by rfl) : PA X (e :: es) (tCons te t) := by
  intro pos pins s σ H Q I h
  rw [hs]
  show wpAny _ _ (spliced ((false, eval e X.env) :: backTo pos (starEach es X.env))) _ _ s
  refine Calls.spliced_cons (thn (ha pins s σ H _ I h) fun u s1 ⟨x, H1, I1, r1, q1⟩ => ?_)
  exact thn (hr pos pins s1 σ H1 _ I1 q1) fun us s2 ⟨xs, H2, I2, r2, q2⟩ => ⟨x :: xs, H2, I2, .cons r1 r2, q2⟩
def tTup (t : TA) : TE := fun σ H Q => t σ H fun xs H1 => xs.length ≤ sizeLine ∧ ∀ p, H1 p = none → Q (.ref p) (upd H1 p (.tup xs))
def tLst (t : TA) : TE := fun σ H Q => t σ H fun xs H1 => xs.length ≤ sizeLine ∧ ∀ p, H1 p = none → Q (.ref p) (upd H1 p (.lst xs))
theorem pe_tup {x1} (h : PA X es t) : PE X (.Tuple es x1 pos) (tTup t) := by
  intro pins s σ H Q I hq
  refine wpAny_Tuple_spliced (thn (h pos pins s σ H _ I hq) fun us s1 ⟨xs, H1, I1, r, z, q⟩ => ⟨by rw [← r.length]; exact z, ?_⟩)
  have hf : H1 s1.heap.objs.size = none := I1.hok.fresh (Nat.le_refl _)
  refine ⟨.ref s1.heap.objs.size, upd H1 s1.heap.objs.size (.tup xs), I1.laid (t' := s1.toks) (fun b u e => Heap.get?_push_of_some _ e) (Nat.le_refl _) ?_, rfl, q _ hf⟩
  exact ⟨z, us, r, ⟨_, Heap.get?_push_size _ rfl, rfl, _, rfl⟩⟩
theorem pe_lst (h : PA X es t) : PE X (.List es pos) (tLst t) := by
  intro pins s σ H Q I hq
  refine wpAny_List_spliced (thn (h pos pins s σ H _ I hq) fun us s1 ⟨xs, H1, I1, r, z, q⟩ => ⟨by rw [← r.length]; exact z, ?_⟩)
  have hf : H1 s1.heap.objs.size = none := I1.hok.fresh (Nat.le_refl _)
  refine ⟨.ref s1.heap.objs.size, upd H1 s1.heap.objs.size (.lst xs), I1.laid (t' := s1.toks) (fun b u e => Heap.get?_push_of_some _ e) (Nat.le_refl _) ?_, rfl, q _ hf⟩
  exact ⟨z, us, 0, r, Heap.get?_push_size _ rfl⟩
end
abbrev Sp := List V → Hp → VK → XK → Prop
abbrev CXT := List Env → Hp → Shared → XK → Value → Shared → Prop
structure Env0 (P : Program) (w : World) (K : PySem.W.Frag) (mg : Str → Option Value) (base : Heap) (A : Around) (outer : List Env) (s : Shared) (H : Hp) : Prop where
  frames : A.frames = some outer
  mod : Mod K mg base
  bs : ∀ b o, base.get? b = some o → s.heap.get? b = some o ∧ H b = none
  bsz : base.objs.size ≤ s.heap.objs.size
  funs : s.heap.FunFrames base outer
  frf : ∀ b ∈ frs outer, H b = none
  hok : HOk P w H s.heap
  bare : AllBare s.gens
def CE (outer : List Env) (P : Program) (w : World) (H : Hp) (s : Shared) (Q : VK) (u : Value) (s' : Shared) : Prop :=
  ∃ v H', s'.os = s.os ∧ AllBare s'.gens ∧ Un (frs outer) [] H H' s.heap s'.heap ∧ HOk P w H' s'.heap ∧ RelV v u ∧ Q v H'
def CR (CX : CXT) (outer : List Env) (P : Program) (w : World) (H : Hp) (s : Shared) (Q : VK) (E : XK) (r : Result) (s' : Shared) : Prop :=
  match r with
  | .ok (.ret u) => CE outer P w H s Q u s'
  | .ok _ => False
  | .error e => CX outer H s E e s'
structure FnOk (P : Program) (w : World) (K : PySem.W.Frag) (mg : Str → Option Value) (base : Heap) (CX : CXT) (k : Nat) (f : Addr) (fd : FuncData) (ps : List Str) (sp : Sp) : Prop where
  len : ∀ vs H Q E, sp vs H Q E → vs.length = ps.length
  run : ∀ (A : Around) (outer : List Env) (s : Shared) (H : Hp) (args : Args) (us : List Value) (vs : List V) (Q : VK) (E : XK), Room k A → Env0 P w K mg base A outer s H → BindsTo s fd args (ps.zip us) → Vals vs us → sp vs H Q E →
    codeAny (model P w) A (.call (.ref f) args) (CR CX outer P w H s Q E) s
theorem FnOk.mono {P : Program} {w : World} {K : PySem.W.Frag} {mg : Str → Option Value} {base : Heap} {CX : CXT} {j k : Nat} {f : Addr} {fd : FuncData} {ps : List Str} {sp : Sp} (F : FnOk P w K mg base CX j f fd ps sp) (h : j ≤ k) :
    FnOk P w K mg base CX k f fd ps sp := ⟨F.len, fun A outer s H args us vs Q E hr => F.run A outer s H args us vs Q E (hr.mono h)⟩
theorem Env0.make {P : Program} {w : World} {K : PySem.W.Frag} {mg : Str → Option Value} {base : Heap} {A : Around} {outer : List Env} {s : Shared} {H : Hp} (e : Env0 P w K mg base A outer s H) (C : Addr) (us : List Value) (kw : List (Str × Value)) :
    Env0 P w K mg base (A.under (.builtin "type.__call__" ⟨.ref C :: us, kw⟩)) outer s H := ⟨by first | exact e.frames | (simpa [Around.under, Code.envs, Code.isFrame, pushEnvs] using e.frames), e.mod, e.bs, e.bsz, e.funs, e.frf, e.hok, e.bare⟩
section
variable {X : Cx} {pins : List (Addr × Obj)} {σ : St} {H : Hp} {s s' : Shared}
theorem Inv.env0 (I : Inv X pins σ H s) : Env0 X.prog X.w X.K X.mg X.base X.A X.stack s H :=
  ⟨I.ok.frames, I.ok.mod, I.bs, Nat.le_trans I.ok.bsz I.sz, I.stack, I.stkFree, I.hok, I.bare⟩
theorem Inv.after {Q : VK} {u : Value} (I : Inv X pins σ H s) (h : CE X.stack X.prog X.w H s Q u s') : EP X pins σ Q u s' := by
  obtain ⟨v, H', os, bare, un, hok, r, q⟩ := h
  obtain ⟨hh, g, d, t, os'⟩ := s'
  obtain rfl : os' = s.os := os
  exact ⟨v, H', I.call (h' := hh) (g' := g) (d' := d) (t' := t) (ch := []) un hok bare (fun b z => absurd z (by simp)), r, q⟩
end
def tCall (sp : Sp) (dvs : List V) (E : XK) (t : TA) : TE := fun σ H Q => t σ H fun vs H1 => sp (vs ++ dvs) H1 Q E
def tMeth (C : Addr) (m : Str) (sp : Sp) (dvs : List V) (E : XK) (ta : TE) (t : TA) : TE := fun σ H Q => ta σ H fun x H1 => ∃ a dx fs, x = .ref a ∧ H1 a = some (.ins C dx fs) ∧ fs.lookup m = none ∧
  t σ H1 fun vs H2 => sp (x :: (vs ++ dvs)) H2 Q E
def tMake (C : Addr) (sp : Sp) (dvs : List V) (E : XK) (t : TA) : TE := fun σ H Q => t σ H fun vs H1 => ∀ x dx, H1 x = none → H1 dx = none → dx ≠ x →
  sp (.ref x :: (vs ++ dvs)) (upd (upd H1 dx (.own x)) x (.ins C dx [])) (fun v H2 => v = .non ∧ Q (.ref x) H2) E
def Binds (K : PySem.W.Frag) (fd : FuncData) (ps : List Str) (ds : List Value) : Prop :=
  ∀ (s : Shared) (us : List Value), K.In s.heap → (us ++ ds).length = ps.length → BindsTo s fd ⟨us, []⟩ (ps.zip (us ++ ds))
theorem Binds.all {K : PySem.W.Frag} {fd : FuncData} {ps : List Str} (h : ∀ us : List Value, us.length = ps.length → bindArgs fd ⟨us, []⟩ = pure (ps.zip us)) : Binds K fd ps [] := fun s us _ hl => by
  rw [List.append_nil] at hl ⊢
  exact .of_eq (h us hl)
def Passes (CX : CXT) (X : Cx) (E : XK) : Prop := ∀ (pins : List (Addr × Obj)) (σ : St) (H : Hp) (s : Shared) (e : Value) (s' : Shared), Inv X pins σ H s → CX X.stack H s E e s' → X.xe e s'
section
variable {X : Cx} {CX : CXT} {k : Nat} {f C : Addr} {fd : FuncData} {ps : List Str} {sp : Sp} {dvs : List V} {ds : List Value} {E : XK} {x m : Str} {p pos apos : Pos} {e o : Expr} {es : List Expr} {ta : TE} {t : TA}
theorem run_fn {pins : List (Addr × Obj)} {σ : St} {H : Hp} {s : Shared} {Q : VK} {us : List Value} {vs : List V} (F : FnOk X.prog X.w X.K X.mg X.base CX k f fd ps sp) (hr : Room k X.A) (hb : Binds X.K fd ps ds) (hd : Vals dvs ds) (hx : Passes CX X E)
    (I : Inv X pins σ H s) (r : Vals vs us) (h : sp (vs ++ dvs) H Q E) : wpAny (model X.prog X.w) X.A (call (.ref f) us) (EP X pins σ Q) X.xe s := by
  have r2 : Vals (vs ++ dvs) (us ++ ds) := r.append hd
  have hl : (us ++ ds).length = ps.length := by rw [← r2.length]; exact F.len _ _ _ _ h
  refine wpAny_call (codeAny_mono (F.run X.A X.stack s H ⟨us, []⟩ (us ++ ds) (vs ++ dvs) Q E hr I.env0 (hb s us I.kIn hl) r2 h) fun r s' hq => ?_)
  cases r with
  | error e => exact hx pins σ H s e s' I hq
  | ok fl =>
    cases fl with
    | ret u => exact I.after hq
    | next => exact False.elim hq
    | brk => exact False.elim hq
    | cont => exact False.elim hq
theorem pe_call (F : FnOk X.prog X.w X.K X.mg X.base CX k f fd ps sp) (hr : Room k X.A) (hg : Gl X x) (hm : X.mg x = some (.ref f)) (hk : PySem.W.keepIn X.K (.ref f) = true) (hb : Binds X.K fd ps ds) (hd : Vals dvs ds) (hx : Passes CX X E)
    (ha : PA X (e :: es) t) (hdb : (x == ("__debug__" : Str)) = false := by decide) (he : starEach (e :: es) X.env = (false, eval e X.env) :: starEach es X.env := by rfl) (hpl : (backTo pos (starEach es X.env)).any (·.1) = false := by rfl) :
    PE X (.Call (.Name x p) (e :: es) [] pos) (tCall sp dvs E t) := by
  intro pins s σ H Q I h
  refine wpAny_Call_Name_kw (ld_glob I hg hm ?_ hdb)
  refine PySem.W.callWith_K (h₀ := X.base) I.ok.mod.kin hk (thn (ha pos pins s σ H _ I h) fun us s1 ⟨vs, H1, I1, r, q⟩ => ⟨I1.kIn, ?_⟩) he hpl
  exact run_fn F hr hb hd hx I1 r q
theorem pe_meth {pl : Sem Bool} (he : PE X o ta) (c : Cls X.K C) (hm : Meth X.K C m f) (F : FnOk X.prog X.w X.K X.mg X.base CX k f fd ps sp) (hr : Room k X.A) (hb : Binds X.K fd ps ds) (hd : Vals dvs ds) (hx : Passes CX X E) (ha : PA X (e :: es) t)
    (hst : starEach (e :: es) X.env = (false, eval e X.env) :: starEach es X.env := by rfl) (hpl : (backTo pos (starEach es X.env)).any (·.1) = false := by rfl)
    (ht : eval (.Call (.Attribute o m apos) (e :: es) [] pos) X.env = (do
      let ov ← eval o X.env
      standAt apos.atName
      let (f, first) ← holding [ov] (getMethod ov m pl)
      callWith pos f first (backTo pos (starEach (e :: es) X.env)) (backToKw pos (keywordEach [] X.env))) := by rfl) :
    PE X (.Call (.Attribute o m apos) (e :: es) [] pos) (tMeth C m sp dvs E ta t) := by
  intro pins s σ H Q I h
  refine PySem.W.methodCall_KW (pl := pl) (thn (he pins s σ H _ I h) fun u s1 ⟨x, H1, I1, rx, a, dx, fs, ex, ea, l, q⟩ => ?_) ht
  subst ex
  obtain rfl : u = Value.ref a := rx
  refine getmeth_ok I1 ea c hm l ?_
  refine PySem.W.callWith_K (first := [.ref a]) (h₀ := X.base) I.ok.mod.kin hm.kp (thn (ha pos pins s1 σ H1 _ I1 q) fun us s2 ⟨vs, H2, I2, r, q2⟩ => ⟨I2.kIn, ?_⟩) hst hpl
  exact run_fn (us := .ref a :: us) (vs := .ref a :: vs) F hr hb hd hx I2 (.cons rfl r) q2
theorem pe_meth0 {pl : Sem Bool} (he : PE X o ta) (c : Cls X.K C) (hm : Meth X.K C m f) (F : FnOk X.prog X.w X.K X.mg X.base CX k f fd ps sp) (hr : Room k X.A) (hb : Binds X.K fd ps ds) (hd : Vals dvs ds) (hx : Passes CX X E)
    (ht : eval (.Call (.Attribute o m apos) [] [] pos) X.env = (do
      let ov ← eval o X.env
      standAt apos.atName
      let (f, first) ← holding [ov] (getMethod ov m pl)
      callWith pos f first (backTo pos (starEach [] X.env)) (backToKw pos (keywordEach [] X.env))) := by rfl) :
    PE X (.Call (.Attribute o m apos) [] [] pos) (tMeth C m sp dvs E ta tNil) := by
  intro pins s σ H Q I h
  refine PySem.W.methodCall_KW (pl := pl) (thn (he pins s σ H _ I h) fun u s1 ⟨x, H1, I1, rx, a, dx, fs, ex, ea, l, q⟩ => ?_) ht
  subst ex
  obtain rfl : u = Value.ref a := rx
  refine getmeth_ok I1 ea c hm l ?_
  exact PySem.W.callWith_K0 (first := [.ref a]) I1.kIn hm.kp (run_fn (us := [.ref a]) (vs := [.ref a]) F hr hb hd hx I1 (.cons rfl .nil) q)
structure Mk (K : PySem.W.Frag) (C f : Addr) : Prop where
  makes : PySem.W.makesIn K C = true
  init : PySem.W.findIn K (.ref C) "__init__" = some (some (.ref f))
  fn : PySem.W.isFn K (.ref f) = true
  kp : PySem.W.keepIn K (.ref C) = true
theorem run_make {pins : List (Addr × Obj)} {σ : St} {H : Hp} {s : Shared} {Q : VK} {us : List Value} {vs : List V} (M : Mk X.K C f) (F : FnOk X.prog X.w X.K X.mg X.base CX k f fd ps sp) (hr : Room (k + 1) X.A) (hb : Binds X.K fd ps ds) (hd : Vals dvs ds)
    (hx : Passes CX X E) (I : Inv X pins σ H s) (r : Vals vs us)
    (h : ∀ x dx, H x = none → H dx = none → dx ≠ x → sp (.ref x :: (vs ++ dvs)) (upd (upd H dx (.own x)) x (.ins C dx [])) (fun v H2 => v = .non ∧ Q (.ref x) H2) E) :
    wpAny (model X.prog X.w) X.A (call (.ref C) us) (EP X pins σ Q) X.xe s := by
  have hq := h (s.heap.objs.size + 1) s.heap.objs.size (I.hok.fresh (Nat.le_succ _)) (I.hok.fresh (Nat.le_refl _)) (Nat.ne_of_lt (Nat.lt_succ_self _))
  have I2 := Inv.made (C := C) I
  have r2 : Vals (V.ref (s.heap.objs.size + 1) :: (vs ++ dvs)) (Value.ref (s.heap.objs.size + 1) :: (us ++ ds)) := .cons rfl (r.append hd)
  have hl : (Value.ref (s.heap.objs.size + 1) :: us ++ ds).length = ps.length := by
    have e := r2.length
    rw [F.len _ _ _ _ hq] at e
    exact e.symm
  refine wpAny_call (make_map (f := f) I.kIn M.makes M.init (beq_iff_eq.mp M.fn) (codeAny_mono (F.run _ X.stack _ _ ⟨Value.ref (s.heap.objs.size + 1) :: us, []⟩ (Value.ref (s.heap.objs.size + 1) :: (us ++ ds)) _ _ E (hr.make C us [])
    (I2.env0.make C us []) (hb _ (Value.ref (s.heap.objs.size + 1) :: us) I2.kIn hl) r2 hq) fun r s' hq' => ?_))
  cases r with
  | error e => exact hx pins σ _ _ e s' I2 hq'
  | ok fl =>
    cases fl with
    | ret u =>
      obtain ⟨v, H', I3, rv, ev, q3⟩ := I2.after hq'
      subst ev
      exact ⟨rv, ⟨V.ref (s.heap.objs.size + 1), H', I3, rfl, q3⟩⟩
    | next => exact False.elim hq'
    | brk => exact False.elim hq'
    | cont => exact False.elim hq'
theorem pe_make (M : Mk X.K C f) (F : FnOk X.prog X.w X.K X.mg X.base CX k f fd ps sp) (hr : Room (k + 1) X.A) (hg : Gl X x) (hm : X.mg x = some (.ref C)) (hb : Binds X.K fd ps ds) (hd : Vals dvs ds) (hx : Passes CX X E)
    (ha : PA X (e :: es) t) (hdb : (x == ("__debug__" : Str)) = false := by decide) (he : starEach (e :: es) X.env = (false, eval e X.env) :: starEach es X.env := by rfl) (hpl : (backTo pos (starEach es X.env)).any (·.1) = false := by rfl) :
    PE X (.Call (.Name x p) (e :: es) [] pos) (tMake C sp dvs E t) := by
  intro pins s σ H Q I h
  refine wpAny_Call_Name_kw (ld_glob I hg hm ?_ hdb)
  refine PySem.W.callWith_K (h₀ := X.base) I.ok.mod.kin M.kp (thn (ha pos pins s σ H _ I h) fun us s1 ⟨vs, H1, I1, r, q⟩ => ⟨I1.kIn, ?_⟩) he hpl
  exact run_make M F hr hb hd hx I1 r q
end
def PK (X : Cx) (kws : List Keyword) (t : TA) : Prop :=
  ∀ (pos : Pos) (pins : List (Addr × Obj)) (s : Shared) (σ : St) (H : Hp) (Q : List V → Hp → Prop), Inv X pins σ H s → t σ H Q → wpAny (model X.prog X.w) X.A (evalAll ((backToKw pos (keywordEach kws X.env)).map (·.2))) (AP X pins σ Q) X.xe s
section
variable {X : Cx} {CX : CXT} {k : Nat} {f C : Addr} {fd : FuncData} {ps ks : List Str} {sp : Sp} {E : XK} {x m : Str} {p pos apos kpos : Pos} {e o : Expr} {es : List Expr} {kws : List Keyword} {te ta : TE} {t tk : TA} {nm : Option Str}
structure KBinds (K : PySem.W.Frag) (fd : FuncData) (ps ks : List Str) (g : List Value → List Value → List Value) (gV : List V → List V → List V) : Prop where
  to : ∀ (s : Shared) (us ws : List Value), K.In s.heap → (g us ws).length = ps.length → BindsTo s fd ⟨us, ks.zip ws⟩ (ps.zip (g us ws))
  rel : ∀ {vs : List V} {us : List Value} {zs : List V} {ws : List Value}, Vals vs us → Vals zs ws → Vals (gV vs zs) (g us ws)
def tCallK (sp : Sp) (gV : List V → List V → List V) (E : XK) (t tk : TA) : TE := fun σ H Q => t σ H fun vs H1 => tk σ H1 fun zs H2 => sp (gV vs zs) H2 Q E
variable {g : List Value → List Value → List Value} {gV : List V → List V → List V}
end
structure FnScope (N P : List Str) (sc : Scope) : Prop where
  kind : sc.kind = .function
  co : sc.isCoroutine = false
  gen : sc.isGenerator = false
  nd : N.Nodup
  pre : N.take P.length = P
  par : ∀ x ∈ P, sc.names.lookup x = some .local ∨ sc.names.lookup x = some .cell
  nofree : ∀ y ∈ sc.names, y.2 ≠ .free
theorem bindL_out {kindOf : Str → Option NameKind} {x : Str} : ∀ {binds : List (Str × Value)} {m : Str → Option Value}, (∀ v, (x, v) ∉ binds) → bindL kindOf binds m x = m x
  | [], _, _ => rfl
  | (n, v) :: r, m, h => by
    unfold bindL
    rw [bindL_out fun w hw => h w (List.mem_cons_of_mem _ hw)]
    split
    · have : x ≠ n := by rintro rfl; exact h v List.mem_cons_self
      simp [this]
    · rfl
theorem bindC_out {kindOf : Str → Option NameKind} {x : Str} : ∀ {binds : List (Str × Value)} {m : Str → Option Value}, (∀ v, (x, v) ∉ binds) → bindC kindOf binds m x = m x
  | [], _, _ => rfl
  | (n, v) :: r, m, h => by
    unfold bindC
    rw [bindC_out fun w hw => h w (List.mem_cons_of_mem _ hw)]
    split
    · rfl
    · have : x ≠ n := by rintro rfl; exact h v List.mem_cons_self
      simp [this]
theorem bindL_get {kindOf : Str → Option NameKind} {x : Str} {v : Value} : ∀ {P : List Str} {vs : List Value} {i : Nat} {m : Str → Option Value}, P.Nodup → P[i]? = some x → vs[i]? = some v → kindOf x = some .local →
    bindL kindOf (P.zip vs) m x = some v
  | [], _, _, _, _, h, _, _ => by simp at h
  | _ :: _, [], _, _, _, _, h, _ => by simp at h
  | p :: P, w :: vs, 0, m, nd, h1, h2, hk => by
    simp at h1 h2; subst h1; subst h2
    show bindL kindOf ((p, w) :: P.zip vs) m p = _
    unfold bindL
    rw [bindL_out fun v hv => (List.nodup_cons.mp nd).1 (List.of_mem_zip hv).1, if_pos hk]
    simp
  | p :: P, w :: vs, i + 1, m, nd, h1, h2, hk => by
    show bindL kindOf ((p, w) :: P.zip vs) m x = _
    unfold bindL
    exact bindL_get (i := i) (List.nodup_cons.mp nd).2 (by simpa using h1) (by simpa using h2) hk
theorem bindC_get {kindOf : Str → Option NameKind} {x : Str} {v : Value} : ∀ {P : List Str} {vs : List Value} {i : Nat} {m : Str → Option Value}, P.Nodup → P[i]? = some x → vs[i]? = some v → kindOf x ≠ some .local →
    bindC kindOf (P.zip vs) m x = some v
  | [], _, _, _, _, h, _, _ => by simp at h
  | _ :: _, [], _, _, _, _, h, _ => by simp at h
  | p :: P, w :: vs, 0, m, nd, h1, h2, hk => by
    simp at h1 h2; subst h1; subst h2
    show bindC kindOf ((p, w) :: P.zip vs) m p = _
    unfold bindC
    rw [bindC_out fun v hv => (List.nodup_cons.mp nd).1 (List.of_mem_zip hv).1, if_neg hk]
    simp
  | p :: P, w :: vs, i + 1, m, nd, h1, h2, hk => by
    show bindC kindOf ((p, w) :: P.zip vs) m x = _
    unfold bindC
    exact bindC_get (i := i) (List.nodup_cons.mp nd).2 (by simpa using h1) (by simpa using h2) hk
def start (N : List Str) (vs : List V) : St := vs.map some ++ List.replicate (N.length - vs.length) none
def cxOf (CX : CXT) (P : Program) (w : World) (K : PySem.W.Frag) (mg : Str → Option Value) (base : Heap) (N : List Str) (qual : Str) (scope : Scope) (f : Addr) (cd : Value) (A : Around) (outer : List Env) (s : Shared) (H : Hp) (E : XK) : Cx where
  prog := P
  w := w
  K := K
  mg := mg
  base := base
  A := A.deeper (envOfC qual scope s.heap.objs.size f cd)
  N := N
  s₀ := s
  H₀ := H
  env := envOfC qual scope s.heap.objs.size f cd
  outer := outer
  stack := envOfC qual scope s.heap.objs.size f cd :: outer
  ex := []
  calm := true
  fn := fun _ => true
  pn := []
  xe := fun e s' => wpAny (model P w) (A.deeper (envOfC qual scope s.heap.objs.size f cd)) (leaving (envOfC qual scope s.heap.objs.size f cd) e) (fun _ s'' => CX outer H s E e s'') (fun e' s'' => CX outer H s E e' s'') s'
theorem cell_has {sc : Scope} {n : Nat} {x : Str} (h : sc.names.lookup x = some .cell) : ∃ c, (cellsFrom n sc.names []).lookup x = some c := by
  have q := PySem.W.cellsFrom_some sc.names n [] (.inl h)
  exact Option.isSome_iff_exists.mp q
theorem inv_start {CX : CXT} {P : Program} {w : World} {K : PySem.W.Frag} {mg : Str → Option Value} {base : Heap} {N ps : List Str} {qual : Str} {scope : Scope} {f : Addr} {cd : Value} {A : Around} {outer : List Env} {s s1 : Shared} {H : Hp} {E : XK} {us : List Value} {vs : List V}
    (S : FnScope N ps scope) (hd : A.handled = none) (e0 : Env0 P w K mg base A outer s H) (hl : vs.length = ps.length) (r : Vals vs us)
    (x : InCallC s s.heap.objs.size (bindL (envOfC qual scope s.heap.objs.size f cd).kindOf (ps.zip us) fun _ => none) (cellsFrom (s.heap.objs.size + 1) scope.names []) (bindC (envOfC qual scope s.heap.objs.size f cd).kindOf (ps.zip us) fun _ => none) s1) :
    Inv (cxOf CX P w K mg base N qual scope f cd A outer s H E) [] (start N vs) H s1 := by
  have hpl : ps.length ≤ N.length := by have := congrArg List.length S.pre; rw [List.length_take] at this; omega
  obtain ⟨h1, tk, rfl, hk⟩ := x.done
  have noA : ∀ b : Addr, b ∉ (cxOf CX P w K mg base N qual scope f cd A outer s H E).ex := fun b z => absurd (show b ∈ ([] : List Addr) from z) (by simp)
  refine ⟨⟨e0.mod, S.kind, rfl, rfl, Nat.le_refl _, fun y z c h1 h2 => ?_, fun y hy => ?_, fun y c _ h => ?_, fun _ => hd, Around.frames_deeper e0.frames, .inr ⟨rfl, rfl⟩, fun b z => absurd z (noA b), e0.bs, e0.bsz, fun b _ _ => noA b, fun b z => absurd z (noA b), e0.funs, e0.frf⟩,
    rfl, e0.bare, Un.kept hk, ⟨_, x.toInCall.ns, fun i y v h1 h2 h3 => ?_⟩, fun y c h => ⟨_, x.cell y c h⟩, e0.hok.fresh (Nat.le_refl _), fun y c h => ?_, fun p hp => absurd (show p ∈ ([] : List (Addr × Obj)) from hp) (by simp), e0.hok.kept hk, ?_⟩
  · exact name_of_addr x.apart (PySem.mem_of_lookup h1) (PySem.mem_of_lookup h2)
  · have hy : scope.names.lookup y = some .cell ∨ scope.names.lookup y = some .free := hy
    rcases hy with hy | hy
    · exact cell_has hy
    · exact absurd rfl (S.nofree _ (PySem.mem_of_lookup hy))
  · exact Nat.le_of_lt (x.above y c (PySem.mem_of_lookup h))
  · have hi : i < vs.length := by
      unfold start at h2
      by_cases hi : i < vs.length
      · exact hi
      · rw [List.getElem?_append_right (by simpa using hi)] at h2
        rw [List.getElem?_replicate] at h2
        split at h2 <;> cases h2
    have ha : vs[i]? = some v := by
      unfold start at h2
      rw [List.getElem?_append_left (by simpa using hi), List.getElem?_map] at h2
      cases e : vs[i]? with
      | none => rw [e] at h2; cases h2
      | some a => rw [e] at h2; cases h2; rfl
    obtain ⟨u, hu, rv⟩ := r.get ha
    have hp : ps[i]? = some y := by
      rw [← S.pre, List.getElem?_take_of_lt (by omega)]; exact h1
    have ndP : ps.Nodup := by rw [← S.pre]; exact S.nd.sublist (List.take_sublist _ _)
    refine ⟨u, rv, ?_⟩
    rcases S.par y (List.mem_of_getElem? hp) with k | k
    · exact .inl ⟨k, bindL_get ndP hp hu k⟩
    · obtain ⟨c, e⟩ := cell_has (n := s.heap.objs.size + 1) k
      refine .inr ⟨.inl k, c, e, ?_⟩
      have q := x.cell y c e
      rw [bindC_get ndP hp hu (by show scope.names.lookup y ≠ _; rw [k]; decide)] at q
      exact q
  · exact e0.hok.fresh (Nat.le_of_lt (x.above y c (PySem.mem_of_lookup h)))
  · unfold start
    show _ = N.length
    rw [List.length_append, List.length_map, List.length_replicate]
    omega
theorem fn_of {CX : CXT} {P : Program} {w : World} {K : PySem.W.Frag} {mg : Str → Option Value} {base : Heap} {k : Nat} {f : Addr} {name qual : Str} {params : Arguments} {body : List Stmt} {scope : Scope} {dV kV doc pm cdv ct oc : Value} {an od : Option Addr}
    {osl : Array (Option Value)} {N ps : List Str} {sp : Sp} (lk : K.lookup f = some ⟨oc, od, .func (PySem.W.fnOf name qual params body scope dV kV doc pm an cdv ct), osl⟩) (hcd : PySem.W.codeIn K cdv qual = true) (S : FnScope N ps scope)
    (len : ∀ vs H Q E, sp vs H Q E → vs.length = ps.length)
    (hbody : ∀ (A : Around) (outer : List Env) (s : Shared) (H : Hp) (vs : List V) (Q : VK) (E : XK), Room k (A.deeper (envOfC qual scope s.heap.objs.size f cdv)) → sp vs H Q E →
      ∃ t, PSs (cxOf CX P w K mg base N qual scope f cdv A outer s H E) body t ∧ t { nx := fun _ H' => Q .non H', rt := Q } (start N vs) H) :
    FnOk P w K mg base CX (k + 1) f (PySem.W.fnOf name qual params body scope dV kV doc pm an cdv ct) ps sp := by
  refine ⟨len, fun A outer s H args us vs Q E hr e0 hb r hsp => ?_⟩
  have hl := len _ _ _ _ hsp
  have KX : K.In s.heap := e0.mod.kin.keeps fun b o e => (e0.bs b o e).1
  have lim : s.heap.NoLimit := e0.mod.nolimit.keeps fun b o e => (e0.bs b o e).1
  have hkind : ∀ y ∈ ps.zip us, scope.names.lookup y.1 = some .local ∨ (scope.names.lookup y.1 = some .cell ∧ ((cellsFrom (s.heap.objs.size + 1) scope.names []).lookup y.1).isSome = true) := fun ⟨n, v⟩ hy => by
    rcases S.par n (List.of_mem_zip hy).1 with q | q
    · exact .inl q
    · exact .inr ⟨q, PySem.W.cellsFrom_some _ _ _ (.inl q)⟩
  refine codeAny_call_function hr.depth (KX _ _ lk) rfl S.co S.gen rfl (PySem.W.codeRec_of KX hcd) (hb _ _ _ _ ?_)
  refine wpAny_newFunctionEnv_cells S.kind hkind fun env he s1 x => ?_
  subst he
  refine ⟨lim.keeps x.toInCall.keep, codeAny_func ?_⟩
  obtain ⟨t, ht, hq⟩ := hbody A outer s H vs Q E (hr.deeper _) hsp
  have I : Inv (cxOf CX P w K mg base N qual scope f cdv A outer s H E) [] (start N vs) H s1 := inv_start S hr.hd e0 hl r x
  refine wpAny_mono (ht [] s1 (start N vs) H _ I hq) (fun fl s' hs => ?_) fun e s' hs => hs
  have fin : ∀ {σ' : St} {H' : Hp} {v : V} {u : Value}, Inv (cxOf CX P w K mg base N qual scope f cdv A outer s H E) [] σ' H' s' → RelV v u → Q v H' → CE outer P w H s Q u s' :=
    fun {σ' H' v u} J rv q => ⟨v, H', J.os, J.bare, J.base, J.hok, rv, q⟩
  cases fl with
  | ret u =>
    obtain ⟨v, σ', H', J, rv, q⟩ := hs
    exact fin J rv q
  | next =>
    obtain ⟨σ', H', J, q⟩ := hs
    exact fin (v := V.non) (u := Value.none) J rfl q
  | brk =>
    obtain ⟨_, _, _, q⟩ := hs
    exact False.elim q
  | cont =>
    obtain ⟨_, _, _, q⟩ := hs
    exact False.elim q
open PySem PySem.Spec PyProof.Rows
section
variable {X : Cx} {x : Str} {p pos : Pos} {e : Expr} {es : List Expr} {t : TA} {id T : String} {r : List V → Hp → VK → Prop}
def tCB (r : List V → Hp → VK → Prop) (t : TA) : TE := fun σ H Q => t σ H fun vs H1 => r vs H1 Q
theorem pe_callB (hc : CallR X (.builtin id) r) (hg : Gl X x) (hm : X.mg x = none) (hv : bootBuiltins x = some (.builtin id)) (ha : PA X (e :: es) t) (hn : x ≠ "__name__" := by decide) (hdb : (x == ("__debug__" : Str)) = false := by decide)
    (he : starEach (e :: es) X.env = (false, eval e X.env) :: starEach es X.env := by rfl) (hpl : (backTo pos (starEach es X.env)).any (·.1) = false := by rfl) : PE X (.Call (.Name x p) (e :: es) [] pos) (tCB r t) := by
  intro pins s σ H Q I h
  refine wpAny_Call_Name_kw (ld_blt I hg hm hv ?_ hn hdb)
  exact PyProof.Rows.callWith_builtin1 (thn (ha pos pins s σ H _ I h) fun us s1 ⟨vs, H1, I1, r1, q1⟩ => hc pins s1 σ H1 vs us Q I1 r1 q1) he hpl
theorem pe_callTy (hc : CallR X (.type T) r) (hg : Gl X x) (hm : X.mg x = none) (hv : bootBuiltins x = some (.type T)) (ha : PA X (e :: es) t) (hn : x ≠ "__name__" := by decide) (hdb : (x == ("__debug__" : Str)) = false := by decide)
    (he : starEach (e :: es) X.env = (false, eval e X.env) :: starEach es X.env := by rfl) (hpl : (backTo pos (starEach es X.env)).any (·.1) = false := by rfl) : PE X (.Call (.Name x p) (e :: es) [] pos) (tCB r t) := by
  intro pins s σ H Q I h
  refine wpAny_Call_Name_kw (ld_blt I hg hm hv ?_ hn hdb)
  exact PyProof.Rows.callWith_type1 (thn (ha pos pins s σ H _ I h) fun us s1 ⟨vs, H1, I1, r1, q1⟩ => hc pins s1 σ H1 vs us Q I1 r1 q1) he hpl
end
end L2
namespace HT
open PySem PyProof.Rows
def lexLt : List Int → List Int → Bool
  | [], [] => false
  | [], _ :: _ => true
  | _ :: _, [] => false
  | x :: xs, y :: ys => if x = y then lexLt xs ys else decide (x < y)
section
open PySem.SeqAt
open PySem.AutoSeq1 (wpAny_loadPart')
open PySem.MeetsSeq PySem.MeetsSeq2 PySem.MeetsSeq3
end
section
variable {prog : Program} {w : World} {A : Around} {E : Value → Shared → Prop} {s : Shared}
def sIx (n d : Nat) : Option Int → Nat
  | none => d
  | some v => if v < 0 then (v + (n : Int)).toNat else min v.toNat n
theorem sIx_none (n d : Nat) : sIx n d none = d := rfl
theorem sIx_nat (n d k : Nat) : sIx n d (some (k : Int)) = min k n := by
  show (if (k : Int) < 0 then ((k : Int) + (n : Int)).toNat else min (k : Int).toNat n) = min k n
  rw [if_neg (by omega), Int.toNat_natCast]
theorem sIx_le (n d : Nat) (hd : d ≤ n) (o : Option Int) : sIx n d o ≤ n := by
  cases o with
  | none => exact hd
  | some v =>
    show (if v < 0 then (v + (n : Int)).toNat else min v.toNat n) ≤ n
    by_cases hv : v < 0
    · rw [if_pos hv]; omega
    · rw [if_neg hv]; exact Nat.min_le_right _ _
end
end HT
namespace L2
open PySem PySem.Spec PyProof.Rows
abbrev TO := St → Hp → (Option Int → Hp → Prop) → Prop
def PO (X : Cx) (e : Option Expr) (t : TO) : Prop :=
  ∀ (pins : List (Addr × Obj)) (s : Shared) (σ : St) (H : Hp) (Q : Option Int → Hp → Prop), Inv X pins σ H s → t σ H Q →
    wpAny (model X.prog X.w) X.A (evalPart e X.env) (fun u s' => ∃ o H', Inv X pins σ H' s' ∧ IsPart u o ∧ Q o H') X.xe s
def tNoPart : TO := fun _ H Q => Q none H
def tPart (t : TE) : TO := fun σ H Q => t σ H fun x H1 => ∃ i, x = .int i ∧ Q (some i) H1
section
variable {X : Cx} {e : Expr} {te : TE} {lo hi : Option Expr} {tl th : TO} {pos p2 : Pos}
theorem po_none : PO X none tNoPart := by
  intro pins s σ H Q I h
  rw [evalPart_none]
  exact wpAny_pure ⟨none, H, I, .none, h⟩
theorem po_some (h : PE X e te) : PO X (some e) (tPart te) := by
  intro pins s σ H Q I hw
  rw [evalPart_some]
  refine thn (h pins s σ H _ I hw) fun u s1 ⟨x, H1, I1, r1, q1⟩ => ?_
  obtain ⟨i, rfl, q⟩ := q1
  obtain ⟨t, rfl⟩ := r1
  exact ⟨some i, H1, I1, .int i t, q⟩
def SlR (X : Cx) (r : V → Option Int → Option Int → Hp → VK → Prop) : Prop :=
  ∀ (pins : List (Addr × Obj)) (s : Shared) (σ : St) (H : Hp) (x : V) (v vl vu : Value) (lo hi : Option Int) (sl : Addr) (Q : VK), Inv X pins σ H s → RelV x v → s.heap.IsSliceOf sl vl vu .none → IsPart vl lo → IsPart vu hi → r x lo hi H Q →
    ∃ T id, typeLookup (.type T) "__getitem__" = pure (some (.builtin id)) ∧ s.TypeIs v T ∧ wpAny (model X.prog X.w) X.A (getItem v (.ref sl)) (EP X pins σ Q) X.xe s
def tSl (r : V → Option Int → Option Int → Hp → VK → Prop) (te : TE) (tl th : TO) : TE := fun σ H Q => te σ H fun x H1 => tl σ H1 fun l H2 => th σ H2 fun u H3 => r x l u H3 Q
theorem pe_slice {r : V → Option Int → Option Int → Hp → VK → Prop} (hr : SlR X r) (he : PE X e te) (hl : PO X lo tl) (hu : PO X hi th) : PE X (.Subscript e (.Slice lo hi none p2) pos) (tSl r te tl th) := by
  intro pins s σ H Q I h
  refine Subscript_ (thn (he pins s σ H _ I h) fun v s1 ⟨x, H1, I1, r1, q1⟩ => ?_)
  refine wpAny_Slice (thn (hl pins s1 σ H1 _ I1 q1) fun vl s2 ⟨l, H2, I2, pl, q2⟩ => thn (hu pins s2 σ H2 _ I2 q2) fun vu s3 ⟨u, H3, I3, pu, q3⟩ => ?_)
  rw [evalPart_none]
  refine wpAny_pure ?_
  have I4 : Inv X pins σ H3 { s3 with heap := s3.heap.push { cls := .type "slice", data := .fields #[vl, vu, .none] } } := I3.kept (t' := s3.toks) fun b ob q => Heap.get?_push_of_some _ q
  obtain ⟨T, id, hT, ht, hg⟩ := hr pins { s3 with heap := s3.heap.push { cls := .type "slice", data := .fields #[vl, vu, .none] } } σ H3 x v vl vu l u s3.heap.objs.size Q I4 r1 (Heap.IsSliceOf.new ..) pl pu q3
  show wpAny (model X.prog X.w) X.A (subscriptTail e (.Slice lo hi none p2) v (.ref s3.heap.objs.size)) (EP X pins σ Q) X.xe { s3 with heap := s3.heap.push { cls := .type "slice", data := .fields #[vl, vu, .none] } }
  exact tail_any (ops := [.ref s3.heap.objs.size, v]) ht hT hg (by with_unfolding_all rfl)
def cutV (xs : List V) (lo hi : Option Int) : List V := (xs.drop (HT.sIx xs.length 0 lo)).take (HT.sIx xs.length xs.length hi - HT.sIx xs.length 0 lo)
theorem cutV_length (xs : List V) (lo hi : Option Int) : (cutV xs lo hi).length ≤ xs.length := by
  unfold cutV
  rw [List.length_take, List.length_drop]
  omega
def rSlT (K : PySem.W.Frag) : V → Option Int → Option Int → Hp → VK → Prop := fun x lo hi H Q => ∃ a xs, x = .ref a ∧ SqT K H a xs ∧
  ¬ (HT.sIx xs.length 0 lo = 0 ∧ HT.sIx xs.length xs.length hi = xs.length) ∧ ∀ p, H p = none → Q (.ref p) (upd H p (.tup (cutV xs lo hi)))
def rLtT (K : PySem.W.Frag) : R2 := fun x y H Q => ∃ a b ns ms, x = .ref a ∧ y = .ref b ∧ SqT K H a (ns.map V.int) ∧ SqT K H b (ms.map V.int) ∧ Q (.bl (HT.lexLt ns ms)) H
def rCatT (K : PySem.W.Frag) : R2 := fun x y H Q => ∃ a b xs ys, x = .ref a ∧ y = .ref b ∧ SqT K H a xs ∧ SqT K H b ys ∧ xs ≠ [] ∧ xs.length + ys.length ≤ sizeLine ∧
  (ys = [] → Q (.ref a) H) ∧ (ys ≠ [] → ∀ p, H p = none → Q (.ref p) (upd H p (.tup (xs ++ ys))))
end
open PySem PySem.Spec PyProof.Rows
def ixN (n : Nat) (i : Int) : Option Nat := if 0 ≤ i then (if i < n then some i.toNat else none) else if -(n : Int) ≤ i then some (i + n).toNat else none
def atI {α : Type} (xs : List α) (i : Int) : Option α := (ixN xs.length i).bind fun j => xs[j]?
theorem ixN_seq {n : Nat} {i : Int} {j : Nat} (h : ixN n i = some j) : seqIndex? i n = some j ∧ j < n ∧ -(n : Int) ≤ i ∧ i < n := by
  unfold ixN at h
  by_cases h0 : 0 ≤ i
  · rw [if_pos h0] at h
    by_cases h1 : i < n
    · rw [if_pos h1] at h
      have e : i.toNat = j := Option.some.inj h
      exact ⟨by rw [seqIndex_of h0 h1, e], by omega, by omega, h1⟩
    · rw [if_neg h1] at h; cases h
  · rw [if_neg h0] at h
    by_cases h1 : -(n : Int) ≤ i
    · rw [if_pos h1] at h
      have e : (i + n).toNat = j := Option.some.inj h
      exact ⟨by rw [seqIndex_neg (by omega) h1, e], by omega, h1, by omega⟩
    · rw [if_neg h1] at h; cases h
theorem atI_get {α : Type} {xs : List α} {i : Int} {v : α} (h : atI xs i = some v) : ∃ j, seqIndex? i xs.length = some j ∧ xs[j]? = some v ∧ j < xs.length ∧ -(xs.length : Int) ≤ i ∧ i < xs.length := by
  unfold atI at h
  cases e : ixN xs.length i with
  | none => rw [e] at h; cases h
  | some j =>
    rw [e] at h
    obtain ⟨h1, h2, h3, h4⟩ := ixN_seq e
    exact ⟨j, h1, h, h2, h3, h4⟩
theorem atI_nat {α : Type} {xs : List α} {j : Nat} {v : α} (h : xs[j]? = some v) : atI xs (j : Int) = some v := by
  have hj : j < xs.length := (List.getElem?_eq_some_iff.mp h).1
  have e : ixN xs.length (j : Int) = some j := by
    unfold ixN
    rw [if_pos (by omega), if_pos (by omega)]; simp
  unfold atI; rw [e]; exact h
def PlainIx (b : Expr) : Prop := ∀ o i, subscripted b false o i = operate [o, i] (getItem o i)
def IxR (X : Cx) (r : R2) : Prop :=
  ∀ (value slice : Expr) (pins : List (Addr × Obj)) (s : Shared) (σ : St) (H : Hp) (x y : V) (v u : Value) (Q : VK), Inv X pins σ H s → RelV x v → RelV y u → r x y H Q →
    subscripted slice false v u = operate [v, u] (getItem v u) → wpAny (model X.prog X.w) X.A (subscriptTail value slice v u) (EP X pins σ Q) X.xe s
def MtR (X : Cx) (id : String) (r : V → List V → Hp → VK → Prop) : Prop :=
  ∀ (pins : List (Addr × Obj)) (s : Shared) (σ : St) (H : Hp) (x : V) (xs : List V) (v : Value) (us : List Value) (Q : VK), Inv X pins σ H s → RelV x v → Vals xs us → r x xs H Q →
    wpAny (model X.prog X.w) X.A (call (.builtin id) (v :: us)) (EP X pins σ Q) X.xe s
section
variable {X : Cx} {a b : Expr} {ta tb : TE} {pos : Pos}
theorem pe_ix {r : R2} (hr : IxR X r) (ha : PE X a ta) (hb : PE X b tb) (hs : PlainIx b) : PE X (.Subscript a b pos) (tOp r ta tb) := by
  intro pins s σ H Q I h
  exact Subscript_ (binT ha hb I h fun v u s2 x y H2 I2 rx ry q => hr a b pins s2 σ H2 x y v u Q I2 rx ry q (hs _ _))
def rIxL (K : PySem.W.Frag) : R2 := fun x y H Q => ∃ p xs i v, x = .ref p ∧ y = .int i ∧ SqL K H p xs ∧ atI xs i = some v ∧ Q v H
def rIxT (K : PySem.W.Frag) : R2 := fun x y H Q => ∃ p xs i v, x = .ref p ∧ y = .int i ∧ SqT K H p xs ∧ atI xs i = some v ∧ Q v H
def rIxS : R2 := fun x y H Q => ∃ z i c, x = .str z ∧ y = .int i ∧ z.length ≤ sizeLine ∧ atI z.cps.toList i = some c ∧ Q (.str ⟨#[c]⟩) H
theorem ix_list : IxR X (rIxL X.K) := by
  intro value slice pins s σ H x y v u Q I rx ry h hs
  obtain ⟨p, xs, i, z, rfl, rfl, hq, he, q⟩ := h
  cases rx
  obtain ⟨t, rfl⟩ := ry
  obtain ⟨its, r, pl, hz⟩ := I.list hq
  obtain ⟨j, h1, h2, h3, h4, h5⟩ := atI_get he
  obtain ⟨w, ew, rw'⟩ := r.get h2
  have hl := r.length
  have hn := line63
  have fin : EP X pins σ Q w s := ⟨z, H, I, rw', q⟩
  by_cases h0 : 0 ≤ i
  · have hj : i.toNat = j := by
      rw [seqIndex_of h0 h5] at h1
      exact Option.some.inj h1
    exact item_listR pl.isList h0 (by omega) (by rw [hj]; simpa using ew) fin hs
  · have hj : (i + (its.toArray.size : Int)).toNat = j := by
      rw [seqIndex_neg (by omega) h4] at h1
      rw [List.size_toArray, ← hl]
      exact Option.some.inj h1
    exact subscriptTail_builtinR (x := w) pl.isList.typeIs slot_list_getitem.lookup
      (wpAny_getItem_list_neg (Q := fun r s' => r = w ∧ EP X pins σ Q r s') pl.isList (by omega) (by rw [List.size_toArray] <;> omega) (by omega) (by rw [hj]; simpa using ew) ⟨rfl, fin⟩) hs
theorem ix_tup : IxR X (rIxT X.K) := by
  intro value slice pins s σ H x y v u Q I rx ry h hs
  obtain ⟨p, xs, i, z, rfl, rfl, hq, he, q⟩ := h
  cases rx
  obtain ⟨t, rfl⟩ := ry
  obtain ⟨its, r, pl, hz⟩ := I.tuple hq
  obtain ⟨j, h1, h2, h3, h4, h5⟩ := atI_get he
  obtain ⟨w, ew, rw'⟩ := r.get h2
  have hl := r.length
  have hn := line63
  have fin : EP X pins σ Q w s := ⟨z, H, I, rw', q⟩
  exact subscriptTail_builtinR (x := w) pl.typeIs slot_tuple_getitem.lookup
    (getItem_tuple (j := j) (Q := fun r s' => r = w ∧ EP X pins σ Q r s') pl (by omega) (by omega) (by rw [List.size_toArray, ← hl]; exact h1) (by simpa using ew) ⟨rfl, fin⟩) hs
theorem ix_str : IxR X rIxS := by
  intro value slice pins s σ H x y v u Q I rx ry h hs
  obtain ⟨z, i, c, rfl, rfl, hz, he, q⟩ := h
  obtain ⟨t, rfl⟩ := rx
  obtain ⟨t', rfl⟩ := ry
  obtain ⟨j, h1, h2, h3, h4, h5⟩ := atI_get he
  have hl : z.cps.toList.length = z.length := by simp [Str.length]
  rw [hl] at h1 h4 h5
  have hn := line63
  exact tail_any (typeIs_str s z t) slot_str_getitem.lookup (getItem_str (c := c) (by
    have e1 : decide (i < -(2 ^ 63 : Int)) = false := decide_eq_false (by omega)
    have e2 : decide (i ≥ 2 ^ 63) = false := decide_eq_false (by omega)
    rw [e1, e2, Bool.or_false]) (by rw [h1]; simpa using h2) ⟨.str ⟨#[c]⟩, H, I.tok _, ⟨_, rfl⟩, q⟩) hs
def rIx (K : PySem.W.Frag) : R2 := fun x y H Q => rIxL K x y H Q ∨ rIxT K x y H Q ∨ rIxS x y H Q
def rSetL : V → V → V → Hp → (Hp → Prop) → Prop := fun o i v H Q => ∃ p xs k j, o = .ref p ∧ i = .int k ∧ H p = some (.lst xs) ∧ ixN xs.length k = some j ∧ Q (upd H p (.lst (xs.set j v)))
theorem slice_bounds (lo hi : Option Int) (n : Nat) : (sliceBounds lo hi none n).1 = ((HT.sIx n 0 lo : Nat) : Int) ∧ (sliceBounds lo hi none n).2.1 = ((HT.sIx n n hi : Nat) : Int) ∧ (sliceBounds lo hi none n).2.2 = 1 := by
  refine ⟨?_, ?_, rfl⟩
  · cases lo with
    | none => simp [sliceBounds, HT.sIx]
    | some i =>
      simp only [sliceBounds, HT.sIx, Option.getD_none, show (1 : Int) > 0 by decide, if_true]
      by_cases h : i < 0
      · simp only [h, if_true] <;> omega
      · simp only [h, if_false] <;> omega
  · cases hi with
    | none => simp [sliceBounds, HT.sIx]
    | some i =>
      simp only [sliceBounds, HT.sIx, Option.getD_none, show (1 : Int) > 0 by decide, if_true]
      by_cases h : i < 0
      · simp only [h, if_true] <;> omega
      · simp only [h, if_false] <;> omega
theorem slicePick_cut (its : List Value) (lo hi : Option Int) : slicePick its.toArray lo hi none = ((its.drop (HT.sIx its.length 0 lo)).take (HT.sIx its.length its.length hi - HT.sIx its.length 0 lo)).toArray := by
  obtain ⟨h1, h2, h3⟩ := slice_bounds lo hi its.toArray.size
  unfold slicePick
  rw [h1, h2, h3]
  simp only [sliceRange_one, pick_run, List.size_toArray] <;> rfl
def rSlL (K : PySem.W.Frag) : V → Option Int → Option Int → Hp → VK → Prop := fun x lo hi H Q => ∃ a xs, x = .ref a ∧ SqL K H a xs ∧ ∀ p, H p = none → Q (.ref p) (upd H p (.lst (cutV xs lo hi)))
theorem sl_list : SlR X (rSlL X.K) := by
  intro pins s σ H x v vl vu lo hi sl Q I rx hs pl pu h
  obtain ⟨a, xs, rfl, hx, q⟩ := h
  cases rx
  obtain ⟨its, r, ht, hz⟩ := I.list hx
  have hlen := r.length
  refine ⟨"list", _, slot_list_getitem.lookup, ht.isList.typeIs, ?_⟩
  refine wpAny_getItem_list_slice ht.isList hs pl pu .none (by simp) ?_ (by rw [List.size_toArray] <;> omega)
  rw [slicePick_cut, ← hlen]
  refine ⟨.ref s.heap.objs.size, _, I.laid (t' := s.toks) (o := .lst (cutV xs lo hi)) (fun b ob q => Heap.get?_push_of_some _ q) (Nat.le_refl _) ?_, rfl, q _ (I.hok.fresh (Nat.le_refl _))⟩
  exact ⟨Nat.le_trans (cutV_length xs lo hi) hz, _, 0, (r.drop (HT.sIx xs.length 0 lo)).take (HT.sIx xs.length xs.length hi - HT.sIx xs.length 0 lo), Heap.get?_push_size _ rfl⟩
def flatV : V → Bool
  | .non => true
  | .bl _ => true
  | .int _ => true
  | .str _ => true
  | _ => false
def eqV : V → V → Bool
  | .non, .non => true
  | .bl a, .bl b => a == b
  | .bl a, .int b => (if a then 1 else 0) == b
  | .int a, .bl b => a == (if b then 1 else 0)
  | .int a, .int b => a == b
  | .str a, .str b => a == b
  | _, _ => false
theorem eqAt_V {A : Around} {s : Shared} {y x : V} {u v : Value} (ry : RelV y u) (rx : RelV x v) (fy : flatV y = true) (fx : flatV x = true) : SeqAt.EqAt A s u v (eqV y x) := by
  cases y with
  | non =>
    cases ry
    cases x with
    | non => cases rx; exact SeqAt.EqAt.same _
    | bl b => cases rx; exact SeqAt.EqAt.none_bool b
    | int b => obtain ⟨t, rfl⟩ := rx; exact SeqAt.EqAt.none_int b t
    | str b => obtain ⟨t, rfl⟩ := rx; exact SeqAt.EqAt.none_str b t
    | _ => exact absurd (show false = true from fx) Bool.false_ne_true
  | bl a =>
    cases ry
    cases x with
    | non => cases rx; exact SeqAt.EqAt.bool_none a
    | bl b => cases rx; exact SeqAt.EqAt.bool_bool a b
    | int b => obtain ⟨t, rfl⟩ := rx; exact SeqAt.EqAt.bool_int a b t
    | str b => obtain ⟨t, rfl⟩ := rx; exact SeqAt.EqAt.bool_str a b t
    | _ => exact absurd (show false = true from fx) Bool.false_ne_true
  | int a =>
    obtain ⟨t', rfl⟩ := ry
    cases x with
    | non => cases rx; exact SeqAt.EqAt.int_none a t'
    | bl b => cases rx; exact SeqAt.EqAt.int_bool a t' b
    | int b => obtain ⟨t, rfl⟩ := rx; exact SeqAt.EqAt.int_int a t' b t
    | str b => obtain ⟨t, rfl⟩ := rx; exact SeqAt.EqAt.int_str a t' b t
    | _ => exact absurd (show false = true from fx) Bool.false_ne_true
  | str a =>
    obtain ⟨t', rfl⟩ := ry
    cases x with
    | non => cases rx; exact SeqAt.EqAt.str_none a t'
    | bl b => cases rx; exact SeqAt.EqAt.str_bool a t' b
    | int b => obtain ⟨t, rfl⟩ := rx; exact SeqAt.EqAt.str_int a t' b t
    | str b => obtain ⟨t, rfl⟩ := rx; exact SeqAt.EqAt.str_str a t' b t
    | _ => exact absurd (show false = true from fx) Bool.false_ne_true
  | _ => exact absurd (show false = true from fy) Bool.false_ne_true
def eqU (x : V) (u : Value) : Bool := match u with
  | .none => eqV .non x
  | .bool b => eqV (.bl b) x
  | .int i _ => eqV (.int i) x
  | .str z _ => eqV (.str z) x
  | _ => false
def inV (x : V) (xs : List V) : Bool := xs.any fun y => eqV y x
def rIn (K : PySem.W.Frag) (neg : Bool) : R2 := fun x y H Q => ∃ p xs, y = .ref p ∧ (SqL K H p xs ∨ SqT K H p xs) ∧ flatV x = true ∧ xs.all flatV = true ∧ Q (.bl (if neg then !inV x xs else inV x xs)) H
theorem call_len_seq : CallR X (.builtin "len") (fun xs H Q => ∃ p ys, xs = [.ref p] ∧ (SqL X.K H p ys ∨ SqT X.K H p ys) ∧ Q (.int ys.length) H) := by
  intro pins s σ H xs us Q I r h
  obtain ⟨p, ys, rfl, hq, q⟩ := h
  obtain ⟨u, rfl, rx⟩ := vals1 r
  cases rx
  have hn := line63
  rcases hq with hq | hq
  · obtain ⟨its, r', pl, hz⟩ := I.list hq
    have hlen := r'.length
    exact Calls.call_len_list pl.isList (by simp only [List.size_toArray] <;> omega) ⟨.int ys.length, H, I.tok _, ⟨s.toks + 1, by rw [List.size_toArray, hlen]⟩, q⟩
  · obtain ⟨its, r', pl, hz⟩ := I.tuple hq
    have hlen := r'.length
    exact len_tuple pl (by simp only [List.size_toArray] <;> omega) ⟨.int ys.length, H, I.tok _, ⟨s.toks + 1, by rw [List.size_toArray, hlen]⟩, q⟩
theorem call_len_str : CallR X (.builtin "len") (fun xs H Q => ∃ z, xs = [.str z] ∧ z.length ≤ sizeLine ∧ Q (.int z.length) H) := by
  intro pins s σ H xs us Q I r h
  obtain ⟨z, rfl, hz, q⟩ := h
  obtain ⟨u, rfl, t, rfl⟩ := vals1 r
  have hn := line63
  exact len_str (by omega) ⟨.int z.length, H, I.tok _, ⟨_, rfl⟩, q⟩
theorem call_list_of : CallR X (.type "list") (fun xs H Q => ∃ p ys, xs = [.ref p] ∧ (SqL X.K H p ys ∨ SqT X.K H p ys) ∧ ∀ l, H l = none → Q (.ref l) (upd H l (.lst ys))) := by
  intro pins s σ H xs us Q I r h
  obtain ⟨p, ys, rfl, hq, q⟩ := h
  obtain ⟨u, rfl, rx⟩ := vals1 r
  cases rx
  have fin : ∀ (its : List Value), Vals ys its → ys.length ≤ sizeLine → ∀ (h' : Heap) (c' : Nat), (∀ b o', s.heap.get? b = some o' → h'.get? b = some o') →
      h'.get? s.heap.objs.size = some { cls := .type "list", dict := none, data := .seq its.toArray c', slots := #[] } → EP X pins σ Q (.ref s.heap.objs.size) { s with heap := h' } := fun its r' hz h' c' kp e =>
    ⟨.ref s.heap.objs.size, _, I.laid (t' := s.toks) kp (Nat.le_refl _) (show ObjOk X.prog X.w _ h' _ (.lst ys) from ⟨hz, its, c', r', e⟩), rfl, q _ (I.hok.fresh (Nat.le_refl _))⟩
  rcases hq with hq | hq
  · obtain ⟨its, r', pl, hz⟩ := I.list hq
    have hlen := r'.length
    obtain ⟨o, ho, hc, n, hd⟩ := pl.isList
    exact call_list_seq p (.inl rfl) ho hc hd (fun h' c' kp e => fin its r' hz h' c' kp e) (by simp only [List.size_toArray] <;> omega)
  · obtain ⟨its, r', pl, hz⟩ := I.tuple hq
    have hlen := r'.length
    obtain ⟨o, ho, hc, n, hd⟩ := pl
    exact call_list_seq p (.inr rfl) ho hc hd (fun h' c' kp e => fin its r' hz h' c' kp e) (by simp only [List.size_toArray] <;> omega)
def tyV (K : PySem.W.Frag) (T : String) (x : V) (H : Hp) : Prop := match x with
  | .str _ => T = "str"
  | .int _ => T = "int"
  | .ref p => (T = "list" ∧ ∃ xs, SqL K H p xs) ∨ (T = "tuple" ∧ ∃ o, K.lookup p = some o ∧ o.cls = .type "tuple" ∧ o.dict = none) ∨
      (T = "dict" ∧ ((∃ kvs, H p = some (.dK kvs)) ∨ ∃ kvs, H p = some (.dT kvs))) ∨ (T = "set" ∧ ∃ S n, H p = some (.set S n))
  | _ => False
theorem tyV_is {pins : List (Addr × Obj)} {σ : St} {H : Hp} {s : Shared} {T : String} {x : V} {v : Value} (I : Inv X pins σ H s) (r : RelV x v) (ty : tyV X.K T x H) :
    s.TypeIs v T ∧ ∀ a, v = .ref a → ∃ ob, s.heap.get? a = some ob ∧ ob.dict = none := by
  cases x with
  | str z =>
    obtain ⟨t, rfl⟩ := r
    cases (show T = "str" from ty)
    exact ⟨typeIs_str s z t, fun _ e => nomatch e⟩
  | int i =>
    obtain ⟨t, rfl⟩ := r
    cases (show T = "int" from ty)
    exact ⟨typeIs_int s i t, fun _ e => nomatch e⟩
  | ref p =>
    cases r
    rcases ty with ⟨rfl, xs, hq⟩ | ⟨rfl, o, hk, hc, hd⟩ | ⟨rfl, hk⟩ | ⟨rfl, S, n, hk⟩
    · obtain ⟨its, _, pl, _⟩ := I.list hq
      refine ⟨pl.isList.typeIs, fun a e => ?_⟩
      cases e
      obtain ⟨o, n, e, c, hd, _⟩ := pl
      exact ⟨o, e, hd⟩
    · refine ⟨⟨o, I.kIn p o hk, hc⟩, fun a e => ?_⟩
      cases e
      exact ⟨o, I.kIn _ o hk, hd⟩
    · have z : ∃ o, s.heap.get? p = some o ∧ o.ExactDict := by
        rcases hk with ⟨kvs, hk⟩ | ⟨kvs, hk⟩
        · obtain ⟨_, _, _, _, o, _, _, e, ex, _⟩ := I.hok p _ hk
          exact ⟨o, e, ex⟩
        · obtain ⟨_, _, _, _, o, _, _, e, ex, _⟩ := I.hok p _ hk
          exact ⟨o, e, ex⟩
      obtain ⟨o, e, ex⟩ := z
      refine ⟨⟨o, e, ex.1⟩, fun a e2 => ?_⟩
      cases e2
      exact ⟨o, e, ex.2.1⟩
    · obtain ⟨o, _, _, _, e, ex, _⟩ := I.hok p _ hk
      refine ⟨⟨o, e, ex.1⟩, fun a e2 => ?_⟩
      cases e2
      exact ⟨o, e, ex.2.1⟩
  | _ => exact False.elim ty
def tBM0 (K : PySem.W.Frag) (T : String) (r : V → List V → Hp → VK → Prop) (to : TE) : TE := fun σ H Q => to σ H fun x H1 => tyV K T x H1 ∧ r x [] H1 Q
def tBM (K : PySem.W.Frag) (T : String) (r : V → List V → Hp → VK → Prop) (to : TE) (t : TA) : TE := fun σ H Q => to σ H fun x H1 => tyV K T x H1 ∧ t σ H1 fun xs H2 => r x xs H2 Q
variable {o e : Expr} {es : List Expr} {to : TE} {t : TA} {name : Str} {apos cpos : Pos} {T id : String} {r : V → List V → Hp → VK → Prop}
theorem pe_bm (pa : PlainAttrs T) (slot : Slot T name id) (hty : typeOf (.builtin id) = pure (.type "method_descriptor")) (hm : MtR X id r) (ho : PE X o to) (ha : PA X (e :: es) t)
    (hbase : attributeBase o name X.env (eval o X.env) = eval o X.env := by rfl)
    (hfew : ((backTo cpos (starEach (e :: es) X.env)).all (fun x => !x.1) && (backToKw cpos (keywordEach [] X.env)).all (fun x => x.1.isSome)
      && decide ((e :: es).length + ([] : List Keyword).length + (if ([] : List Keyword).isEmpty then 0 else 1) < 30)) = true := by rfl)
    (hline : (apos.endLine == cpos.line) = true := by rfl) (hs : starEach (e :: es) X.env = (false, eval e X.env) :: starEach es X.env := by rfl) (hplain : (backTo cpos (starEach es X.env)).any (·.1) = false := by rfl) :
    PE X (.Call (.Attribute o name apos) (e :: es) [] cpos) (tBM X.K T r to t) := by
  intro pins s σ H Q I h
  refine wpAny_Call_method_late hbase hfew hline rfl (thn (ho pins s σ H _ I h) fun v s1 ⟨x, H1, I1, r1, ty, q1⟩ => ?_)
  obtain ⟨h1, h2⟩ := tyV_is I1 r1 ty
  refine ⟨T, id, pa, slot, hty, h1, h2, ?_⟩
  have hA := ha cpos pins s1 σ H1 _ I1 q1
  rw [hs] at hA ⊢
  refine Calls.callWith_builtin (by show (false || (backTo cpos (starEach es X.env)).any (·.1)) = false; rw [hplain] <;> rfl) (Calls.evalArgs_plain ?_)
  exact thn hA fun us s2 ⟨vs, H2, I2, r2, q2⟩ => hm pins s2 σ H2 x vs v us Q I2 r1 r2 q2
end
open PySem PySem.Spec PyProof.Rows
def MtM (X : Cx) (id : String) (r : V → List V → Hp → VK → Prop) : Prop :=
  ∀ (pins : List (Addr × Obj)) (s : Shared) (σ : St) (H : Hp) (x : V) (xs : List V) (v : Value) (us : List Value) (Q : VK), Inv X pins σ H s → RelV x v → Vals xs us → r x xs H Q →
    wpAny (model X.prog X.w) X.A (call (.builtin id) (v :: us)) (EP X pins σ Q) X.xe s
theorem Vals.one : ∀ {x : V} {us : List Value}, Vals [x] us → ∃ u, us = [u] ∧ RelV x u
  | _, _, .cons r .nil => ⟨_, rfl, r⟩
theorem Vals.two : ∀ {x y : V} {us : List Value}, Vals [x, y] us → ∃ u v, us = [u, v] ∧ RelV x u ∧ RelV y v
  | _, _, _, .cons r (.cons q .nil) => ⟨_, _, rfl, r, q⟩
section
variable {X : Cx} {pins : List (Addr × Obj)} {σ : St} {H : Hp} {s : Shared} {l b : Addr} {xs ys zs : List V}
theorem Inv.lset {its its' : List Value} {n : Nat} {f : Array Value → Array Value} {t' : Nat} (I : Inv X pins σ H s) (hH : H l = some (.lst xs))
    (e : s.heap.get? l = some { cls := .type "list", data := .seq its.toArray n }) (hf : f its.toArray = its'.toArray) (hv : Vals ys its') (hz : ys.length ≤ sizeLine) :
    Inv X pins σ (upd H l (.lst ys)) { s with heap := s.heap.update l (Obj.mapSeq f), toks := t' } := by
  have q := PySem.IsL.update e f
  rw [hf] at q
  refine I.write (x := l) (e := l) (by rw [hH]; exact trivial) (.inl rfl) (fun b' u hb hu => (Heap.get?_update_other s.heap (Obj.mapSeq f) (Ne.symm hb)).trans hu) ⟨_, q⟩ ?_
  exact ⟨hz, its', _, hv, q⟩
theorem Inv.lstM (I : Inv X pins σ H s) (hH : H l = some (.lst xs)) : xs.length ≤ sizeLine ∧ ∃ (its : List Value) (n : Nat), Vals xs its ∧ xs.length = its.length ∧ s.heap.get? l = some { cls := .type "list", data := .seq its.toArray n } := by
  obtain ⟨z, its, n, r, e⟩ := I.hok l _ hH
  exact ⟨z, its, n, r, r.length, e⟩
end
section
variable {X : Cx}
def rAppend : V → List V → Hp → VK → Prop := fun x vs H Q => ∃ l xs y, x = .ref l ∧ vs = [y] ∧ H l = some (.lst xs) ∧ xs.length < sizeLine ∧ Q .non (upd H l (.lst (xs ++ [y])))
theorem mt_append : MtM X "list.append" rAppend := by
  intro pins s σ H x vs v us Q I rx rv h
  obtain ⟨l, xs, y, rfl, rfl, hH, hz, q⟩ := h
  cases rx
  obtain ⟨u, rfl, ru⟩ := rv.one
  obtain ⟨z, its, n, r, hl, e⟩ := I.lstM hH
  refine call_meets F.slot_list_append ⟨_, e, rfl⟩ F.entry_list_append (F.args_list_append_2 _ _) (PySem.list_append l its.toArray n u (by rw [List.size_toArray]; omega)) ⟨e, ?_⟩
  refine ⟨.non, _, I.lset (its' := its ++ [u]) hH e (by simp) (r.append (.cons ru .nil)) ?_, rfl, q⟩
  rw [List.length_append, List.length_singleton]
  omega
def rExtend : V → List V → Hp → VK → Prop := fun x vs H Q => ∃ l b xs zs, x = .ref l ∧ vs = [.ref b] ∧ H l = some (.lst xs) ∧ H b = some (.lst zs) ∧ xs.length + zs.length ≤ sizeLine ∧ Q .non (upd H l (.lst (xs ++ zs)))
def rPop : V → List V → Hp → VK → Prop := fun x vs H Q => ∃ l xs y, x = .ref l ∧ vs = [] ∧ H l = some (.lst xs) ∧ xs[xs.length - 1]? = some y ∧ Q y (upd H l (.lst xs.dropLast))
def rPopAt : V → List V → Hp → VK → Prop := fun x vs H Q => ∃ l xs i k y, x = .ref l ∧ vs = [.int i] ∧ H l = some (.lst xs) ∧ -(2 ^ 63) ≤ i ∧ i < 2 ^ 63 ∧ seqIndex? i xs.length = some k ∧ xs[k]? = some y ∧ Q y (upd H l (.lst (xs.eraseIdx k)))
def rReverse : V → List V → Hp → VK → Prop := fun x vs H Q => ∃ l xs, x = .ref l ∧ vs = [] ∧ H l = some (.lst xs) ∧ Q .non (upd H l (.lst xs.reverse))
def rClear : V → List V → Hp → VK → Prop := fun x vs H Q => ∃ l xs, x = .ref l ∧ vs = [] ∧ H l = some (.lst xs) ∧ Q .non (upd H l (.lst []))
def rCat : R2 := fun x y H Q => ∃ l b xs zs, x = .ref l ∧ y = .ref b ∧ H l = some (.lst xs) ∧ H b = some (.lst zs) ∧ xs.length + zs.length ≤ sizeLine ∧ ∀ p, H p = none → Q (.ref p) (upd H p (.lst (xs ++ zs)))
def rRep : R2 := fun x y H Q => ∃ l k xs, x = .ref l ∧ y = .int k ∧ H l = some (.lst xs) ∧ -(2 ^ 63) ≤ k ∧ k < 2 ^ 63 ∧ xs.length * k.toNat ≤ sizeLine ∧
  ∀ p, H p = none → Q (.ref p) (upd H p (.lst (List.replicate k.toNat xs).flatten))
theorem len_rep {α : Type} (xs : List α) (k : Nat) : (List.replicate k xs).flatten.length = k * xs.length := by
  induction k with
  | zero => simp
  | succ k ih => rw [List.replicate_succ, List.flatten_cons, List.length_append, ih, Nat.succ_mul, Nat.add_comm]
end
section
variable {prog : Program} {w : World} {A : Around} {E : Value → Shared → Prop} {s : Shared}
end
section
variable {X : Cx}
end
end L2
namespace Att
open PySem PySem.W PySem.Calls PyProof.Rows
theorem ints_of_wellAll {P : Params} {h : Heap} : ∀ (ns : List Int) (vs : List Value), WellAll P h vs (ns.map WData.int) → IntsAre vs ns := by
  intro ns
  induction ns with
  | nil =>
    intro vs w
    rw [List.map_nil] at w
    cases w
    exact .nil
  | cons n ns ih =>
    intro vs w
    rw [List.map_cons] at w
    cases w with
    | cons a b =>
      cases a
      exact .cons _ _ (ih _ b)
theorem script_of {l : OpenLaw} {n : Nat} (hn : l.most = some n) {P : Params} {h : Heap} {args : List WData} {vals : List Value}
    (hpre : l.row.toRowW.claim.pre args = true) (hwl : WellAll P h vals args) :
    ∃ a vs ns, vals = [Value.ref a] ∧ args = [WData.list (ns.map WData.int)] ∧ h.get? a = some { cls := .type "list", data := .seq vs.toArray } ∧ IntsAre vs ns ∧ ns.length ≤ n := by
  have hsh : WShape.hasAll [] args [.list .int] = true := (pre_splitW hpre).1
  have hc : l.pre.holds [] { args := args } = true := (pre_splitW hpre).2
  obtain ⟨d, r, rfl, h1, h2⟩ := hasAllW_cons hsh
  obtain rfl := hasAllW_nil h2
  obtain ⟨xs, rfl, h3⟩ := hasW_list h1
  obtain ⟨ns, rfl⟩ := items_int h3
  have hlen : ns.length ≤ n := by
    unfold OpenLaw.pre at hc
    have h4 : (WTm.not (.lt (.lit (.int (n : Int))) (.len (.arg 0)))).holds [] { args := [.list (ns.map .int)] } = true := by
      have h4 := (holds_andW hc).1
      rw [hn] at h4
      exact h4
    have h5 := condW_of h4 (w_not (w_lt w_lit (w_len_list (w_arg rfl))))
    rw [List.length_map] at h5
    refine Nat.le_of_not_lt fun q => ?_
    have q' : (n : Int) < ((ns.length : Nat) : Int) := by omega
    first
      | (rw [decide_eq_true q'] at h5; exact absurd h5 (by decide))
      | (simp at h5; omega)
  cases hwl with
  | cons w1 w2 =>
    cases w2
    cases w1 with
    | list ho hall => exact ⟨_, _, ns, rfl, rfl, ho, ints_of_wellAll ns _ hall, hlen⟩
theorem post_true (l : OpenLaw) (args : List WData) : l.row.toRowW.claim.post args (.bool true) args = true :=
  postW_of (r := l.row.toRowW) (X := (true == true))
    (show WShape.has [] (.bool true) .bool = true by first | rfl | decide | simp [WShape.has, WShape.arms, WShape.armsAll])
    (show (WTm.eq .res (.lit (.bool true))).value [] { args := args, res := some (.bool true), after := args } = some (.bool (true == true)) from w_eq_bool (w_res rfl) w_lit) rfl
theorem attach_call {l : OpenLaw} {n : Nat} {q : Program} {loose : List Str} {XP : (Str → Option Value) → Heap → Prop} {YP : World → Heap → Prop} {d : DefRec}
    (hn : l.most = some n) (hdf : d.params.defaults = [])
    (call : ∀ (w : World) (s₀ s₁ : Shared) (mg mb : Str → Option Value) (fa : Addr) (o : Obj) (pm cd doc : Value) (a : Addr) (vs : List Value) (ns : List Int),
      Ground q loose [] XP w s₀ mg mb s₁.heap → YP w s₁.heap →
      s₁.heap.get? fa = some o → o.data = .func (docDef d.name d.params d.body d.scope pm cd doc) → s₁.heap.CodeRec cd d.name → mg d.name = some (.ref fa) →
      s₁.heap.get? a = some { cls := .type "list", data := .seq vs.toArray } → IntsAre vs ns → ns.length ≤ n → s₁.gens = #[] →
      codeAny (model l.prog w) callerA (.call (.ref fa) ⟨[.ref a], []⟩) (fun r s' => r = .ok (.ret (.bool true)) ∧ OldK s₁.heap s'.heap ∧ s'.os = s₁.os ∧ AllBare s'.gens) s₁) :
    WalkO q loose XP YP l.row.toRowW d [] (fun f vs => PySem.call f vs) := by
  intro w s₀ s₁ mg mb G Y fa o pm cd doc dV kV ho hd hcd hD hmg hg args vals as hpre hlay hrd hwl hlo
  obtain rfl : dV = .none := Dflts.none hD hdf
  obtain rfl : kV = .none := Dflts.noKw hD
  obtain ⟨a, vs, ns, rfl, rfl, hobj, hints, hlen⟩ := script_of hn hpre hwl
  refine enter_call (codeAny_mono (call w s₀ s₁ mg mb fa o pm cd doc a vs ns G Y ho (fd_plain hd) hcd hmg hobj hints hlen hg) fun r s' hq => ?_)
  obtain ⟨rfl, h2, h3, h4⟩ := hq
  exact ⟨.inl ⟨.bool true, .bool true, [], rfl, fun _ => rfl, .bool true, post_true l _, fun _ => ⟨List.Pairwise.nil, fun _ hm => (nomatch hm)⟩⟩, h2, h3, h4⟩
section
variable {prog : Program} {w : World} {A : Around} {E : Value → Shared → Prop} {s : Shared} {K : Frag}
def noObjs (h : Heap) : Heap := { h with objs := #[] }
def ledger (h : Heap) (L d : Addr) : List (Addr × Obj) := (List.range h.objs.size).filterMap fun a => if a = L ∨ a = d then none else (h.get? a).map fun o => (a, o)
end
end Att
namespace L2
open PySem PySem.Spec PyProof.Rows
theorem vals_ints : ∀ {vs : List Value} {ns : List Int}, IntsAre vs ns → Vals (ns.map V.int) vs
  | _, _, .nil => .nil
  | _, _, .cons n t h => .cons ⟨t, rfl⟩ (vals_ints h)
def Only (H : Hp) : Prop := ∀ b, H b = none ∨ ∃ o xs, H b = some (.frz o (.lst xs))
theorem law_call {P : Program} {w : World} {K : PySem.W.Frag} {mg mb : Str → Option Value} {CX : CXT} {k : Nat} {fa a : Addr} {fd : FuncData} {x : Str} {sp : Sp} {s₁ : Shared} {vs : List Value} {ns : List Int}
    (KX : K.In s₁.heap) (hns : s₁.heap.Ns mainGlobals mg) (hb : s₁.heap.Ns builtinsNs mb) (hbb : ∀ x : Str, x ≠ "__name__" → mb x = bootBuiltins x) (hlim : s₁.heap.NoLimit) (hg : s₁.gens = #[])
    (ha : s₁.heap.get? a = some { cls := .type "list", data := .seq vs.toArray }) (hi : IntsAre vs ns) (hl : ns.length ≤ sizeLine) (hr : Room k callerA)
    (F : ∀ base : Heap, K.In base → base.Ns mainGlobals mg → FnOk P w K mg base CX k fa fd [x] sp) (hbind : ∀ (s : Shared) (u : Value), BindsTo s fd ⟨[u], []⟩ [(x, u)])
    (hsp : ∀ H : Hp, Only H → SqL K H a (ns.map V.int) → sp [.ref a] H (fun v _ => v = .bl true) fun _ _ _ => False)
    (hCX : ∀ H e s', CX [] H s₁ (fun _ _ _ => False) e s' → False) :
    codeAny (model P w) callerA (.call (.ref fa) ⟨[.ref a], []⟩) (fun r s' => r = .ok (.ret (.bool true)) ∧ OldK s₁.heap s'.heap ∧ s'.os = s₁.os ∧ AllBare s'.gens) s₁ := by
  have rv := vals_ints hi
  have lenV := hi.length
  have core : ∀ H : Hp, Only H → SqL K H a (ns.map V.int) → HOk P w H s₁.heap → (∀ b, H b ≠ none → b = a) → (H a ≠ none → K.lookup a = none) →
      codeAny (model P w) callerA (.call (.ref fa) ⟨[.ref a], []⟩) (fun r s' => r = .ok (.ret (.bool true)) ∧ OldK s₁.heap s'.heap ∧ s'.os = s₁.os ∧ AllBare s'.gens) s₁ := by
    intro H hO hS hok hA hK
    have base_of : ∀ {b : Addr} {o : Obj}, s₁.heap.get? b = some o → H b = none → (hidT s₁.heap H).get? b = some o := fun e n => hidT_get e n
    have noA : ∀ {b : Addr} {o : Obj} {es : Array DictEntry} {ep : Nat}, s₁.heap.get? b = some o → o.data = .dict es ep → H b = none := fun {b o es ep} e d => by
      cases q : H b with
      | none => rfl
      | some u =>
        have e' : b = a := hA b (by rw [q]; simp)
        subst e'
        rw [ha] at e; cases e
        have d' : Data.seq vs.toArray _ = Data.dict es ep := d
        cases d'
    have nsK : ∀ {b : Addr} {m : Str → Option Value}, s₁.heap.Ns b m → (hidT s₁.heap H).Ns b m := fun {b m} ⟨o, es, ep, e, d, r⟩ => ⟨o, es, ep, base_of e (noA e d), d, r⟩
    have hKb : K.In (hidT s₁.heap H) := fun b o e => base_of (KX b o e) (by
      cases q : H b with
      | none => rfl
      | some u =>
        have e' : b = a := hA b (by rw [q]; simp)
        subst e'
        rw [hK (by rw [q]; simp)] at e; cases e)
    have hM : Mod K mg (hidT s₁.heap H) := ⟨hKb, nsK hns, ⟨mb, nsK hb, hbb⟩, let ⟨mc, h1, h2⟩ := hlim; ⟨mc, nsK h1, h2⟩⟩
    have e0 : Env0 P w K mg (hidT s₁.heap H) callerA [] s₁ H := ⟨rfl, hM, fun b o e => of_hidT e, Nat.le_of_eq (hidT_size _ _), trivial, fun b hb => absurd (show b ∈ ([] : List Addr) from hb) (by simp), hok, .of_eq hg⟩
    refine codeAny_mono ((F _ hKb (nsK hns)).run callerA [] s₁ H ⟨[.ref a], []⟩ [.ref a] [.ref a] _ _ hr e0 (hbind s₁ (.ref a)) (.cons rfl .nil) (hsp H hO hS)) fun r s' h => ?_
    cases r with
    | error e => exact (hCX H e s' h).elim
    | ok fl =>
      cases fl with
      | next => exact False.elim h
      | brk => exact False.elim h
      | cont => exact False.elim h
      | ret u =>
        obtain ⟨v, H', os, bare, un, hok', r', q⟩ := h
        have q' : v = .bl true := q
        subst q'
        obtain rfl : u = Value.bool true := r'
        refine ⟨rfl, OldK.of_keep fun b o e => ?_, os, bare⟩
        cases q : H b with
        | none => exact un.keep b o e q (by intro z; exact absurd (show b ∈ ([] : List Addr) from z) (by simp)) (by simp)
        | some u =>
          rcases hO b with z | ⟨ob, xs, z⟩
          · rw [q] at z; cases z
          · have z2 := un.frzs b ob _ z
            obtain ⟨e1, _⟩ := hok b _ z
            obtain ⟨e2, _⟩ := hok' b _ z2
            rw [e] at e1; cases e1
            exact e2
  cases hk : K.lookup a with
  | some o =>
    have e := KX a o hk
    rw [ha] at e
    cases e
    refine core (fun _ => none) (fun _ => .inl rfl) (.inr ⟨_, vs.toArray, _, hk, rfl, rfl, rfl, by rw [List.size_toArray, lenV]; exact hl, by simpa using rv⟩) (fun b u z => by have z' : (none : Option HO) = some u := z; cases z') (fun b z => absurd rfl z) fun z => absurd rfl z
  | none =>
    refine core (fun b => if b = a then some (.frz { cls := .type "list", data := .seq vs.toArray } (.lst (ns.map V.int))) else none) (fun b => ?_) (.inl (.inr ⟨{ cls := .type "list", data := .seq vs.toArray }, if_pos rfl⟩)) (fun b u z => ?_) (fun b z => ?_) fun _ => hk
    · by_cases hb : b = a
      · exact .inr ⟨_, _, if_pos hb⟩
      · exact .inl (if_neg hb)
    · by_cases hb : b = a
      · have z' := (if_pos hb).symm.trans z
        cases z'
        subst hb
        exact ⟨ha, by rw [List.length_map]; exact hl, vs, _, rv, ha⟩
      · have z' := (if_neg hb).symm.trans z
        cases z'
    · by_cases hb : b = a
      · exact hb
      · exact absurd (if_neg hb) z
open PySem PySem.Spec PyProof.Rows
abbrev KOf {K : PySem.W.Frag} {h : Heap} (_ : K.In h) : PySem.W.Frag := K
theorem walk_of {l : PySem.W.OpenLaw} {n k : Nat} {q : Program} {loose : List Str} {XP : (Str → Option Value) → Heap → Prop} {YP : World → Heap → Prop} {d : DefRec} {K : Params → PySem.W.Frag} {CX : World → CXT} {sp : World → Sp} {x : Str}
    (hn : l.most = some n) (hn2 : n ≤ sizeLine) (hdf : d.params.defaults = []) (hr : Room k callerA)
    (hY : ∀ (w : World) (h : Heap), YP w h → (K w.params).In h)
    (F : ∀ (w : World) (mg : Str → Option Value) (fa : Addr) (h : Heap), (K w.params).In h → h.Ns mainGlobals mg → mg d.name = some (.ref fa) →
      ∃ fd : FuncData, (∀ (s : Shared) (u : Value), BindsTo s fd ⟨[u], []⟩ [(x, u)]) ∧
        ∀ base : Heap, (K w.params).In base → base.Ns mainGlobals mg → FnOk l.prog w (K w.params) mg base (CX w) k fa fd [x] (sp w))
    (hsp : ∀ (w : World) (H : Hp) (a : Addr) (ns : List Int), ns.length ≤ n → Only H → SqL (K w.params) H a (ns.map V.int) → sp w [.ref a] H (fun v _ => v = .bl true) fun _ _ _ => False)
    (hCX : ∀ (w : World) (H : Hp) (s : Shared) (e : Value) (s' : Shared), CX w [] H s (fun _ _ _ => False) e s' → False) :
    PySem.W.WalkO q loose XP YP l.row.toRowW d [] (fun f vs => PySem.call f vs) := by
  refine Att.attach_call hn hdf fun w s₀ s₁ mg mb fa o pm cd doc a vs ns G Y ho hd hcd hmg hobj hints hlen hg => ?_
  have KX := hY w _ Y
  obtain ⟨fd, hb, hF⟩ := F w mg fa _ KX G.T.g hmg
  exact law_call KX G.T.g G.T.b G.T.builtins G.T.nolimit hg hobj hints (Nat.le_trans hlen hn2) hr hF hb (fun H hO hS => hsp w H a ns hlen hO hS) fun H e s' => hCX w H s₁ e s'
theorem walk_ofK {l : PySem.W.OpenLaw} {n k : Nat} {q : Program} {loose : List Str} {XP : (Str → Option Value) → Heap → Prop} {YP : World → Heap → Prop} {d : DefRec} {K : Params → PySem.W.Frag} {CX : CXT} {sp : PySem.W.Frag → Sp} {x : Str}
    (hn : l.most = some n) (hn2 : n ≤ sizeLine) (hdf : d.params.defaults = []) (hr : Room k callerA)
    (hY : ∀ (w : World) (h : Heap), YP w h → (K w.params).In h)
    (F : ∀ (w : World) (mg : Str → Option Value) (fa : Addr) (h : Heap), (K w.params).In h → h.Ns mainGlobals mg → mg d.name = some (.ref fa) →
      ∃ fd : FuncData, (∀ (s : Shared) (u : Value), BindsTo s fd ⟨[u], []⟩ [(x, u)]) ∧
        ∀ base : Heap, (K w.params).In base → base.Ns mainGlobals mg → FnOk l.prog w (K w.params) mg base CX k fa fd [x] (sp (K w.params)))
    (hsp : ∀ (K : PySem.W.Frag) (H : Hp) (a : Addr) (ns : List Int), ns.length ≤ n → Only H → SqL K H a (ns.map V.int) → sp K [.ref a] H (fun v _ => v = .bl true) fun _ _ _ => False)
    (hCX : ∀ (H : Hp) (s : Shared) (e : Value) (s' : Shared), CX [] H s (fun _ _ _ => False) e s' → False) :
    PySem.W.WalkO q loose XP YP l.row.toRowW d [] (fun f vs => PySem.call f vs) :=
  walk_of (K := K) (CX := fun _ => CX) (sp := fun w => sp (K w.params)) hn hn2 hdf hr hY F (fun w H a ns h1 h2 h3 => hsp (K w.params) H a ns h1 h2 h3) fun _ H s e s' => hCX H s e s'
open PySem PySem.Spec PyProof.Rows
def inClass (s : Stmt) (j : Nat) : Stmt := match s with
  | .ClassDef _ _ _ body _ _ _ _ _ _ _ => body.getD j (.Pass ⟨0, 0, 0, 0⟩)
  | _ => .Pass ⟨0, 0, 0, 0⟩
def defArgs (s : Stmt) : Arguments := match s with
  | .FunctionDef _ a _ _ _ _ _ _ _ _ => a
  | _ => { posonlyargs := [], args := [], vararg := none, kwonlyargs := [], kw_defaults := [], kwarg := none, defaults := [] }
def defBody (s : Stmt) : List Stmt := match s with
  | .FunctionDef _ _ b _ _ _ _ _ _ _ => b
  | _ => []
def defScope (s : Stmt) : Scope := match s with
  | .FunctionDef _ _ _ _ _ _ sc _ _ _ => sc
  | _ => { kind := .function, names := [], isGenerator := false, isCoroutine := false }
abbrev CX0 : CXT := fun _ _ _ _ _ _ => False
abbrev E0 : XK := fun _ _ _ => False
theorem pass0 {X : Cx} : Passes CX0 X E0 := fun _ _ _ _ _ _ _ h => h.elim
structure Fun (K : PySem.W.Frag) (x qual : Str) (st : Stmt) (f : Addr) (fd : FuncData) : Prop where
  ex : ∃ (oc : Value) (od : Option Addr) (kV doc pm : Value) (an : Option Addr) (cdv ct : Value) (osl : Array (Option Value)),
    fd = PySem.W.fnOf x qual (defArgs st) (defBody st) (defScope st) .none kV doc pm an cdv ct ∧ K.lookup f = some ⟨oc, od, .func fd, osl⟩ ∧ PySem.W.codeIn K cdv qual = true
  kp : PySem.W.keepIn K (.ref f) = true
section
variable {P : Program} {w : World} {K : PySem.W.Frag} {mg : Str → Option Value} {base : Heap}
theorem Fun.ok {x qual : Str} {st : Stmt} {f : Addr} {fd : FuncData} {N ps : List Str} {k : Nat} {sp : Sp} (F : Fun K x qual st f fd) (S : FnScope N ps (defScope st)) (len : ∀ vs H Q E, sp vs H Q E → vs.length = ps.length)
    (hbody : ∀ (cdv : Value) (A : Around) (outer : List Env) (s : Shared) (H : Hp) (vs : List V) (Q : VK) (E : XK), Room k (A.deeper (envOfC qual (defScope st) s.heap.objs.size f cdv)) → sp vs H Q E →
      ∃ t, PSs (cxOf CX0 P w K mg base N qual (defScope st) f cdv A outer s H E).nox (defBody st) t ∧ t { nx := fun _ H' => Q .non H', rt := Q } (start N vs) H) : FnOk P w K mg base CX0 (k + 1) f fd ps sp := by
  obtain ⟨oc, od, kV, doc, pm, an, cdv, ct, osl, rfl, lk, hcd⟩ := F.ex
  refine fn_of lk hcd S len fun A outer s H vs Q E hr hsp => ?_
  obtain ⟨t, h, q⟩ := hbody cdv A outer s H vs Q E hr hsp
  exact ⟨t, h.nox, q⟩
theorem Fun.binds {x qual : Str} {st : Stmt} {f : Addr} {fd : FuncData} {ps : List Str} (F : Fun K x qual st f fd)
    (h : ∀ (kV doc pm : Value) (an : Option Addr) (cdv ct : Value) (us : List Value), us.length = ps.length → bindArgs (PySem.W.fnOf x qual (defArgs st) (defBody st) (defScope st) .none kV doc pm an cdv ct) ⟨us, []⟩ = pure (ps.zip us)) : Binds K fd ps [] := by
  obtain ⟨oc, od, kV, doc, pm, an, cdv, ct, osl, rfl, lk, hcd⟩ := F.ex
  exact .all (h kV doc pm an cdv ct)
theorem fun_mk {x qual : Str} {st : Stmt} {f : Addr} {oc : Value} {od an : Option Addr} {osl : Array (Option Value)} {kV doc pm cdv ct : Value} (l : K.lookup f = some ⟨oc, od, .func (PySem.W.fnOf x qual (defArgs st) (defBody st) (defScope st) .none kV doc pm an cdv ct), osl⟩)
    (c : PySem.W.codeIn K cdv qual = true) (k : PySem.W.keepIn K (.ref f) = true) : Fun K x qual st f (PySem.W.fnOf x qual (defArgs st) (defBody st) (defScope st) .none kV doc pm an cdv ct) := ⟨⟨oc, od, kV, doc, pm, an, cdv, ct, osl, rfl, l, c⟩, k⟩
end
section
variable {X : Cx}
theorem pv (i : Nat) {x : Str} {pos : Pos} (hN : X.N[i]? = some x := by rfl) (hv : Vis X.env.scope x := by first | exact Or.inl rfl | exact Or.inr (Or.inl rfl) | exact Or.inr (Or.inr rfl)) (hd : (x == ("__debug__" : Str)) = false := by decide)
    (hcd : (x == ("__classdict__" : Str)) = false := by decide) : PE X (.Name x pos) (tVar i) := pe_var hN hv hd hcd
end
theorem iteF {A B : Prop} (h : B) : if false = true then A else B := by
  rw [if_neg Bool.false_ne_true]
  exact h
theorem iteT {A B : Prop} (h : A) : if true = true then A else B := by
  rw [if_pos rfl]
  exact h
theorem iteNS {c A B : Prop} [Decidable c] (hc : c) (h : B) : if (!decide c) = true then A else B := by
  rw [decide_eq_true hc]
  exact iteF h
def Same (H H' : Hp) : Prop := ∀ b o, H b = some o → H' b = some o
theorem Same.refl (H : Hp) : Same H H := fun _ _ h => h
theorem Same.trans {H H1 H2 : Hp} (a : Same H H1) (b : Same H1 H2) : Same H H2 := fun c o h => b c o (a c o h)
open PySem PySem.Spec PyProof.Rows
theorem closure_is {scope : Scope} {env : Env} (h : ∀ y ∈ scope.names, y.2 = .free → ∃ c, env.cells.lookup y.1 = some c) :
    ∃ cl, closureFor scope env = pure cl ∧ (∀ x c, cl.lookup x = some c → env.cells.lookup x = some c ∧ (x, NameKind.free) ∈ scope.names) ∧
      ∀ x, (x, NameKind.free) ∈ scope.names → cl.lookup x = env.cells.lookup x := by
  have key : ∀ (l : List (Str × NameKind)) (cs : List (Str × Addr)), (∀ y ∈ l, y.2 = .free → ∃ c, env.cells.lookup y.1 = some c) →
      ∃ cl, (forIn l cs (fun (x : Str × NameKind) (cs : List (Str × Addr)) => do
          if x.2 == .free then
            let c ← cellOf env x.1
            pure (ForInStep.yield ((x.1, c) :: cs))
          else pure (ForInStep.yield cs)) : Sem (List (Str × Addr))) = pure cl ∧
        (∀ x c, cl.lookup x = some c → (env.cells.lookup x = some c ∧ (x, NameKind.free) ∈ l) ∨ cs.lookup x = some c) ∧
        ∀ x, ((x, NameKind.free) ∈ l → cl.lookup x = env.cells.lookup x) ∧ ((cs.lookup x = env.cells.lookup x) → cl.lookup x = env.cells.lookup x) := by
    intro l
    induction l with
    | nil => intro cs _; exact ⟨cs, rfl, fun x c e => .inr e, fun x => ⟨fun z => absurd z (by simp), fun z => z⟩⟩
    | cons y r ih =>
      intro cs hl
      obtain ⟨n, k⟩ := y
      by_cases hk : k = .free
      · subst hk
        obtain ⟨c, hc⟩ := hl (n, .free) List.mem_cons_self rfl
        obtain ⟨cl, e1, e2, e3⟩ := ih ((n, c) :: cs) fun y hy => hl y (List.mem_cons_of_mem _ hy)
        refine ⟨cl, ?_, fun x d e => ?_, fun x => ⟨fun z => ?_, fun z => ?_⟩⟩
        · rw [List.forIn_cons]
          simp only [beq_self_eq_true, if_true, cellOf, hc]
          exact e1
        · rcases e2 x d e with ⟨z1, z2⟩ | z
          · exact .inl ⟨z1, List.mem_cons_of_mem _ z2⟩
          · rw [List.lookup_cons] at z
            by_cases hx : x == n
            · rw [hx] at z
              have hx' : x = n := by simpa using hx
              subst hx'
              refine .inl ⟨?_, List.mem_cons_self⟩
              rw [hc]; exact z
            · have hx' : (x == n) = false := by simpa using hx
              rw [hx'] at z
              exact .inr z
        · rcases List.mem_cons.mp z with z | z
          · injection z with z1 _
            subst z1
            refine (e3 x).2 ?_
            rw [List.lookup_cons, hc]
            simp
          · exact (e3 x).1 z
        · by_cases hx : x = n
          · subst hx
            refine (e3 x).2 ?_
            rw [List.lookup_cons, hc]
            simp
          · refine (e3 x).2 ?_
            rw [List.lookup_cons]
            have hx' : (x == n) = false := by simpa using hx
            rw [hx']
            exact z
      · obtain ⟨cl, e1, e2, e3⟩ := ih cs fun y hy => hl y (List.mem_cons_of_mem _ hy)
        have hb : (k == NameKind.free) = false := by simpa using hk
        refine ⟨cl, ?_, fun x d e => ?_, fun x => ⟨fun z => ?_, (e3 x).2⟩⟩
        · rw [List.forIn_cons]
          simp only [hb, Bool.false_eq_true, if_false]
          exact e1
        · rcases e2 x d e with ⟨z1, z2⟩ | z
          · exact .inl ⟨z1, List.mem_cons_of_mem _ z2⟩
          · exact .inr z
        · rcases List.mem_cons.mp z with z | z
          · injection z with _ z2
            exact absurd z2.symm hk
          · exact (e3 x).1 z
  obtain ⟨cl, e1, e2, e3⟩ := key scope.names [] h
  refine ⟨cl, ?_, fun x c e => ?_, fun x z => (e3 x).1 z⟩
  · unfold closureFor
    have := e1
    simpa using this
  · rcases e2 x c e with z | z
    · exact z
    · simp at z
theorem lookup_relabel {env : Env} (hk : env.scope.kind = .function) : ∀ {names : List (Str × NameKind)} {x : Str} {k : NameKind}, names.lookup x = some k → k ≠ .free →
    (names.map fun (n, k) => if (k == NameKind.free && env.scope.kind == .function && env.kindOf n == some .cell) then (n, NameKind.cell) else (n, k)).lookup x = some k
  | [], _, _, h, _ => by simp at h
  | (n, k') :: r, x, k, h, hf => by
    have ih := @lookup_relabel env hk r x k
    show List.lookup x ((if (k' == NameKind.free && env.scope.kind == .function && env.kindOf n == some .cell) = true then (n, NameKind.cell) else (n, k')) :: _) = _
    cases hx : x == n with
    | true =>
      simp only [List.lookup_cons, hx] at h
      cases h
      have : (k' == NameKind.free) = false := by simpa using hf
      simp [List.lookup_cons, hx, this]
    | false =>
      simp only [List.lookup_cons, hx] at h
      by_cases hc : (k' == NameKind.free && env.scope.kind == .function && env.kindOf n == some .cell) = true
      · rw [if_pos hc]; simp only [List.lookup_cons, hx]; exact ih h hf
      · rw [if_neg hc]; simp only [List.lookup_cons, hx]; exact ih h hf
theorem lookup_relabel_free {env : Env} (hk : env.scope.kind = .function) : ∀ {names : List (Str × NameKind)} {x : Str}, names.lookup x = some .free → env.kindOf x = some .cell →
    (names.map fun (n, k) => if (k == NameKind.free && env.scope.kind == .function && env.kindOf n == some .cell) then (n, NameKind.cell) else (n, k)).lookup x = some .cell
  | [], _, h, _ => by simp at h
  | (n, k') :: r, x, h, hc => by
    have ih := @lookup_relabel_free env hk r x
    show List.lookup x ((if (k' == NameKind.free && env.scope.kind == .function && env.kindOf n == some .cell) = true then (n, NameKind.cell) else (n, k')) :: _) = _
    cases hx : x == n with
    | true =>
      simp only [List.lookup_cons, hx] at h
      cases h
      have hxn : x = n := by simpa using hx
      subst hxn
      simp [List.lookup_cons, hk, hc]
    | false =>
      simp only [List.lookup_cons, hx] at h
      by_cases hd : (k' == NameKind.free && env.scope.kind == .function && env.kindOf n == some .cell) = true
      · rw [if_pos hd]; simp only [List.lookup_cons, hx]; exact ih h hc
      · rw [if_neg hd]; simp only [List.lookup_cons, hx]; exact ih h hc
def cxComp (X : Cx) (Nc : List Str) (scope : Scope) (cl : List (Str × Addr)) (C : Addr) (fp : List Addr) (s : Shared) (H : Hp) : Cx where
  prog := X.prog
  w := X.w
  K := X.K
  mg := X.mg
  base := X.base
  A := X.A
  N := Nc
  s₀ := s
  H₀ := H
  env := compEnvC scope cl C X.env
  outer := X.stack
  stack := X.stack
  ex := fp
  fn := fun _ => false
  calm := X.calm
  pn := []
  xe := fun _ _ => False
def capV (σ : St) (caps : List Nat) : St := caps.map fun j => (σ[j]?).join
structure CompOk (X : Cx) (x : Str) (Nc : List Str) (caps : List Nat) (scope : Scope) : Prop where
  kind : scope.kind = .function
  cell : ∀ y ∈ scope.names, y.2 ≠ .cell
  names : ∀ y ∈ scope.names, y.2 = .local → scope.names.lookup y.1 = some .local
  fr : ∀ y ∈ scope.names, y.2 = .free → X.env.scope.names.lookup y.1 = some .cell ∧ scope.names.lookup y.1 = some .free
  loc : scope.names.lookup x = some .local
  len : Nc.length = caps.length + 1
  hd : Nc[0]? = some x
  nd : Nc.Nodup
  cap : ∀ k j, caps[k]? = some j → ∃ y, Nc[k + 1]? = some y ∧ X.N[j]? = some y ∧ scope.names.lookup y = some .free
theorem compLoop_any {prog : Program} {w : World} {A : Around} {R : Result → Shared → Prop} {s : Shared} {elt target iter : Expr} {ifs : List Expr} {scope : Scope} {pos : Pos} {it acc : Value} {env : Env} (I : Nat → Shared → Prop)
    (turn : ∀ n s, I n s → wpAny (model prog w) A (pyNext it) (fun r s₁ => match r with
      | none => R (.ok .next) s₁
      | some v => wpAny (model prog w) A (letOwnedTupleGo target it v) (fun _ s1' => wpAny (model prog w) A (assign target env v) (fun _ s₂ =>
          wpAny (model prog w) A (forIn ifs true fun c r => if r = true then do let ok ← isTrue c env (eval c env); pure (ForInStep.yield ok) else pure (ForInStep.yield r)) (fun ok s₃ =>
            if ok = true then wpAny (model prog w) A (eval elt env) (fun x s₄ =>
              wpAny (model prog w) A (call (.builtin "list.append") [acc, x]) (fun _ s₅ => ∃ m, m < n ∧ I m s₅) (notedBy (model prog w) A env fun e s' => R (.error e) s') s₄) (notedBy (model prog w) A env fun e s' => R (.error e) s') s₃
            else ∃ m, m < n ∧ I m s₃) (notedBy (model prog w) A env fun e s' => R (.error e) s') s₂) (notedBy (model prog w) A env fun e s' => R (.error e) s') s1') (notedBy (model prog w) A env fun e s' => R (.error e) s') s₁) (notedBy (model prog w) A env fun e s' => R (.error e) s') s)
    (n : Nat) (h : I n s) :
    codeAny (model prog w) A (.compLoop (.ListComp elt [⟨target, iter, ifs, 0⟩] scope pos) 0 it acc env) R s := by
  refine codeAny_loop rfl I (fun n s hI => ?_) n h
  show wpAny _ A ((compTurn (.ListComp elt [⟨target, iter, ifs, 0⟩] scope pos) 0 it acc env).onRaise (fun x => do noteFrame x env; theTreesLotGoes x)) _ _ s
  refine wpAny_noted ?_
  rw [compTurn_list]
  refine wpAny_bind (wpAny_standAt (wpAny_bind (wpAny_mono (turn n s hI) (fun r s₁ h₁ => ?_) fun _ _ h' => h')))
  cases r with
  | none => exact wpAny_pure h₁
  | some v =>
    refine wpAny_bind (wpAny_mono h₁ (fun _ s1' h₁ => ?_) fun _ _ h' => h')
    refine wpAny_bind (wpAny_mono h₁ (fun _ s₂ h₂ => wpAny_bind (wpAny_mono h₂ (fun ok s₃ h₃ => ?_) fun _ _ h' => h')) fun _ _ h' => h')
    cases ok with
    | false => exact wpAny_pure ⟨rfl, h₃⟩
    | true =>
      exact wpAny_bind (wpAny_bind (wpAny_mono h₃ (fun x s₄ h₄ => wpAny_bind (wpAny_mono h₄ (fun _ s₅ h₅ => wpAny_pure (wpAny_pure ⟨rfl, h₅⟩)) fun _ _ h' => h')) fun _ _ h' => h'))
def tNoTest : TT := fun _ H Q => Q true H
inductive PIf (X : Cx) : List Expr → TT → Prop where
  | nil : PIf X [] tNoTest
  | one {c : Expr} {t : TT} (h : PT X c t) : PIf X [c] t
theorem PIf.run {X : Cx} {ifs : List Expr} {t : TT} (h : PIf X ifs t) {pins : List (Addr × Obj)} {s : Shared} {σ : St} {H : Hp} {Q : Bool → Hp → Prop} (I : Inv X pins σ H s) (ht : t σ H Q) :
    wpAny (model X.prog X.w) X.A (forIn ifs true fun c r => if r = true then do let ok ← isTrue c X.env (eval c X.env); pure (ForInStep.yield ok) else pure (ForInStep.yield r)) (TP X pins σ Q) X.xe s := by
  cases h with
  | nil => exact wpAny_tests_nil ⟨H, I, ht⟩
  | one h => exact wpAny_tests_one (h pins s σ H Q I ht)
def tCompW (caps : List Nat) (tc : TT) (te : TE) (J : It) (σ : St) (H : Hp) (Q : VK) : Prop :=
  ∃ W : Nat → Nat → List V → Hp → Prop, (∃ m, W 0 m [] H) ∧ ∀ i m ys H, W i m ys H →
    (J.stop i H ∧ ys.length ≤ sizeLine ∧ ∀ p, H p = none → Q (.ref p) (upd H p (.lst ys))) ∨
    (J.go i H ∧ ys.length < sizeLine ∧ ∀ x H', J.yld i H x H' → tc (some x :: capV σ caps) H' fun b H2 =>
      if b = true then te (some x :: capV σ caps) H2 fun y H3 => ∃ m', m' < m ∧ W (i + 1) m' (ys ++ [y]) H3 else ∃ m', m' < m ∧ W (i + 1) m' ys H2)
def tComp (wi : TI) (caps : List Nat) (tc : TT) (te : TE) : TE := fun σ H Q => wi σ H fun J H1 => tCompW caps tc te J σ H1 Q
section
variable {X : Cx} {pins : List (Addr × Obj)} {σ : St} {H : Hp} {s : Shared}
theorem Un.track {fs ex : List Addr} {H H' : Hp} {h h' : Heap} {a : Addr} {o : HO} (u : Un fs ex H H' h h') (ha : h.objs.size ≤ a) (hn : H' a = none) : Un fs ex H (upd H' a o) h h' where
  keep := u.keep
  slot := u.slot
  free := fun b ob q n hx => by rw [upd_ne (Nat.ne_of_lt (Nat.lt_of_lt_of_le (Heap.lt_size q) ha))]; exact u.free b ob q n hx
  there := u.there
  tups := fun b xs q => by rw [upd_ne (ne_of_none (u.tups b xs q) hn)]; exact u.tups b xs q
  frzs := fun b ob xs q => by rw [upd_ne (ne_of_none (u.frzs b ob xs q) hn)]; exact u.frzs b ob xs q
  tbls := fun b ps q => by
    obtain ⟨m, e⟩ := u.tbls b ps q
    exact ⟨m, by rw [upd_ne (ne_of_none e hn)]; exact e⟩
theorem HOk.track {P : Program} {w : World} {H : Hp} {h : Heap} {a : Addr} {o : HO} (x : HOk P w H h) (hn : H a = none) (new : ObjOk P w (upd H a o) h a o) : HOk P w (upd H a o) h := fun b u e => by
  by_cases hb : b = a
  · subst hb; rw [upd_same] at e; cases e; exact new
  · rw [upd_ne hb] at e
    exact (x b u e).stay (fun c v _ q => q) (fun c q => by rw [upd_ne (ne_of_none q hn)]; exact q) fun c xs q => by rw [upd_ne (ne_of_none q hn)]; exact q
theorem comp_ok {x : Str} {Nc : List Str} {caps : List Nat} {scope : Scope} {cl : List (Str × Addr)} {C : Addr} {fp : List Addr} (I : Inv X pins σ H s) (O : CompOk X x Nc caps scope)
    (hcl : ∀ x c, cl.lookup x = some c → X.env.cells.lookup x = some c ∧ (x, NameKind.free) ∈ scope.names) (hcl2 : ∀ x, (x, NameKind.free) ∈ scope.names → cl.lookup x = X.env.cells.lookup x)
    (hC : s.heap.objs.size ≤ C) (hfp : ∀ b ∈ fp, FpOk X pins H b) (hfo : ∀ b ∈ fp, b < s.heap.objs.size) : (cxComp X Nc scope cl C fp s H).Ok where
  mod := I.ok.mod
  kind := O.kind
  glob := I.ok.glob
  blt := I.ok.blt
  above := hC
  inj := fun a b c e1 e2 => I.ok.inj a b c (hcl a c e1).1 (hcl b c e2).1
  has := fun y hy => by
    have mem : (y, NameKind.free) ∈ scope.names := by
      have hy' : ((relabel scope X.env).names.lookup y = some .cell) ∨ ((relabel scope X.env).names.lookup y = some .free) := hy
      have hm : ∃ k, (y, k) ∈ (relabel scope X.env).names ∧ (k = .cell ∨ k = .free) := by
        rcases hy' with h | h
        · exact ⟨_, PySem.mem_of_lookup h, .inl rfl⟩
        · exact ⟨_, PySem.mem_of_lookup h, .inr rfl⟩
      obtain ⟨k, hm, hk⟩ := hm
      obtain ⟨⟨n, k'⟩, hm', e⟩ := List.mem_map.mp hm
      dsimp only at e
      by_cases hc : (k' == NameKind.free && X.env.scope.kind == .function && X.env.kindOf n == some .cell) = true
      · rw [if_pos hc] at e
        injection e with e1 _
        subst e1
        have : k' = .free := by
          have := (Bool.and_eq_true _ _ ▸ (Bool.and_eq_true _ _ ▸ hc).1).1
          simpa using this
        subst this
        exact hm'
      · rw [if_neg hc] at e
        injection e with e1 e2
        subst e1 e2
        rcases hk with hk | hk
        · subst hk; exact absurd rfl (O.cell _ hm')
        · subst hk; exact hm'
    obtain ⟨c, e⟩ := I.ok.has y (.inl (O.fr _ mem rfl).1)
    exact ⟨c, (hcl2 y mem).trans e⟩
  cab := fun _ _ z => nomatch z
  hd := I.ok.hd
  frames := I.ok.frames
  stk := .inl rfl
  exf := fun b hb => ⟨Nat.ne_of_lt (Nat.lt_of_lt_of_le (hfo b hb) hC), fun y c e => (hfp b hb).2.2.2.2.1 y c (hcl y c e).1⟩
  bs := I.bs
  bsz := Nat.le_trans I.ok.bsz I.sz
  noex := fun b o e hb => by
    rcases (hfp b hb).2.2.2.1 with z | z
    · exact I.ok.noex b o e z
    · exact absurd (Nat.lt_of_lt_of_le (Heap.lt_size e) (Nat.le_trans I.ok.bsz z)) (Nat.lt_irrefl _)
  exfs := fun b hb z => by
    rcases List.mem_cons.mp (I.stkSub b z) with e | e
    · exact (hfp b hb).2.1 e
    · exact (hfp b hb).2.2.1 e
  funs := I.stack
  frf := I.stkFree
end
open PySem PySem.Spec PyProof.Rows
section
variable {X : Cx} {pins : List (Addr × Obj)} {σ : St} {H : Hp} {s : Shared}
theorem capV_len (σ : St) (caps : List Nat) : (capV σ caps).length = caps.length := by unfold capV; rw [List.length_map]
theorem capV_get {σ : St} {caps : List Nat} {k : Nat} {v : V} (e : (capV σ caps)[k]? = some (some v)) : ∃ j, caps[k]? = some j ∧ σ[j]? = some (some v) := by
  unfold capV at e
  rw [List.getElem?_map] at e
  cases hk : caps[k]? with
  | none => rw [hk] at e; cases e
  | some j =>
    rw [hk] at e
    have e' : (σ[j]?).join = some v := Option.some.inj e
    refine ⟨j, rfl, ?_⟩
    cases hj : σ[j]? with
    | none => rw [hj] at e'; cases e'
    | some o => rw [hj] at e'; rw [show o = some v from e']
theorem Un.but {fs ex : List Addr} {H H' : Hp} {h h1 h2 : Heap} {C : Addr} (u : Un fs ex H H' h h1) (hs : Heap.SameBut C h1 h2) (hC : h.objs.size ≤ C) : Un fs ex H H' h h2 where
  keep := fun b o q n hb hx => (hs.2 b (Nat.ne_of_lt (Nat.lt_of_lt_of_le (Heap.lt_size q) hC))).trans (u.keep b o q n hb hx)
  slot := fun b o q n hb hx => by
    obtain ⟨sl, e⟩ := u.slot b o q n hb hx
    exact ⟨sl, (hs.2 b (Nat.ne_of_lt (Nat.lt_of_lt_of_le (Heap.lt_size q) hC))).trans e⟩
  free := u.free
  there := fun b o q hx => by
    obtain ⟨o', e⟩ := u.there b o q hx
    exact ⟨o', (hs.2 b (Nat.ne_of_lt (Nat.lt_of_lt_of_le (Heap.lt_size q) hC))).trans e⟩
  tups := u.tups
  frzs := u.frzs
  tbls := u.tbls
theorem comp_start {x : Str} {Nc : List Str} {caps : List Nat} {scope : Scope} {cl : List (Str × Addr)} {C : Addr} {fp : List Addr} {h' : Heap} {tk : Nat} {m0 : Str → Option Value} (I : Inv X pins σ H s) (O : CompOk X x Nc caps scope)
    (hcl : ∀ x c, cl.lookup x = some c → X.env.cells.lookup x = some c ∧ (x, NameKind.free) ∈ scope.names) (hcl2 : ∀ x, (x, NameKind.free) ∈ scope.names → cl.lookup x = X.env.cells.lookup x)
    (hC : s.heap.objs.size ≤ C) (hfp : ∀ b ∈ fp, FpOk X pins H b) (hfo : ∀ b ∈ fp, b < s.heap.objs.size)
    (old : ∀ b o, s.heap.get? b = some o → h'.get? b = some o) (hns : h'.Ns C m0) :
    Inv (cxComp X Nc scope cl C fp s H) [] (none :: capV σ caps) H { s with heap := h', toks := tk } where
  ok := comp_ok I O hcl hcl2 hC hfp hfo
  os := rfl
  bare := I.bare
  base := Un.kept old
  loc := by
    refine ⟨m0, hns, fun i y v hN hσ hv => ?_⟩
    cases i with
    | zero => simp at hσ
    | succ k =>
      rw [List.getElem?_cons_succ] at hσ
      obtain ⟨j, hj, hs⟩ := capV_get hσ
      obtain ⟨z, hz1, hz2, hz3⟩ := O.cap k j hj
      have hN' : Nc[k + 1]? = some y := hN
      rw [hz1] at hN'
      cases hN'
      have mem : (y, NameKind.free) ∈ scope.names := PySem.mem_of_lookup hz3
      have hk := (O.fr _ mem rfl).1
      obtain ⟨m, hn, hl⟩ := I.loc
      obtain ⟨u, r, l⟩ := hl j y v hz2 hs (.inr (.inl hk))
      refine ⟨u, r, ?_⟩
      rcases l with ⟨k', _⟩ | ⟨_, c, hc, z⟩
      · have k'' : X.env.scope.names.lookup y = some .local := k'
        rw [hk] at k''; cases k''
      · obtain ⟨o, ho, hd⟩ := z
        exact .inr ⟨.inl (lookup_relabel_free I.ok.kind hz3 hk), c, (hcl2 y mem).trans hc, o, old _ _ ho, hd⟩
  cell := fun y c e => by
    obtain ⟨v, o, ho, hd⟩ := I.cell y c (hcl y c e).1
    exact ⟨v, o, old _ _ ho, hd⟩
  free := I.hok.fresh hC
  freeC := fun y c e => I.freeC y c (hcl y c e).1
  pin := fun p hp => absurd (show p ∈ ([] : List (Addr × Obj)) from hp) (by simp)
  hok := I.hok.kept old
  len := by
    show (none :: capV σ caps).length = Nc.length
    rw [List.length_cons, capV_len, O.len]
abbrev rawL (us : List Value) (n : Nat) : Obj := { cls := .type "list", data := .seq us.toArray n }
theorem comp_fr {X : Cx} {sc0 scope : Scope} (h : X.env.scope = sc0) (hd : ∀ y ∈ scope.names, y.2 = .free → sc0.names.lookup y.1 = some .cell ∧ scope.names.lookup y.1 = some .free) :
    ∀ y ∈ scope.names, y.2 = .free → X.env.scope.names.lookup y.1 = some .cell ∧ scope.names.lookup y.1 = some .free := by
  rw [h]
  exact hd
theorem comp_block {x : Str} {px : Pos} {Nc : List Str} {caps : List Nat} {scope : Scope} {cl : List (Str × Addr)} {iter elt : Expr} {ifs : List Expr} {pos : Pos} {tc : TT} {te : TE} {Q : VK} {it : Addr} {fp : List Addr} {tn : Nat → Heap → Prop} {J : It}
    {RR : Value → Addr → Result → Shared → Prop} {E : Value → Shared → Prop}
    (O : CompOk X x Nc caps scope) (hc : X.calm = true)
    (hcl : ∀ x c, cl.lookup x = some c → X.env.cells.lookup x = some c ∧ (x, NameKind.free) ∈ scope.names) (hcl2 : ∀ x, (x, NameKind.free) ∈ scope.names → cl.lookup x = X.env.cells.lookup x)
    (hte : ∀ C fp s H, PE (cxComp X Nc scope cl C fp s H) elt te) (htc : ∀ C fp s H, PIf (cxComp X Nc scope cl C fp s H) ifs tc)
    (I : Inv X pins σ H s) (T : Turn X.prog X.w X.K (.Name x px) J fp it tn) (st : tn 0 s.heap) (hfp : ∀ b ∈ fp, FpOk X pins H b) (h : tCompW caps tc te J σ H Q)
    (hRR : ∀ (D C : Addr) (s' : Shared) (m : Str → Option Value), s'.heap.Ns C m → (∀ h', Heap.SameBut C s'.heap h' → ∃ H', Inv X pins σ H' { s' with heap := h' } ∧ H' C = none ∧ Q (.ref D) H') →
      s.heap.objs.size ≤ C → RR (.ref D) C (.ok .next) s') :
    wpAny (model X.prog X.w) X.A (newList []) (fun acc s₃ => wpAny (model X.prog X.w) X.A (newFunctionEnv scope X.env.globals cl [] X.env.qual none .none (some X.env)) (fun cenv s₄ =>
      codeAny (model X.prog X.w) X.A (.compStart (.ListComp elt [⟨.Name x px, iter, ifs, 0⟩] scope pos) 0 (.ref it) acc { cenv with scope := relabel scope X.env }) (RR acc cenv.locals) s₄) E s₃) E s := by
  refine wpAny_newObj_type (wpAny_newFunctionEnv O.cell (by intro y hy; simp at hy) (fun h₁ hns₁ hsb₁ => ?_) O.kind)
  dsimp only at hns₁ hsb₁ ⊢
  generalize hH2 : s.heap.push { cls := .type "list", dict := none, data := .seq ([] : List Value).toArray } = H2 at hns₁ hsb₁ ⊢
  have hC : H2.objs.size = s.heap.objs.size + 1 := by rw [← hH2, Heap.size_push]
  have hCle : s.heap.objs.size ≤ H2.objs.size := by rw [hC]; exact Nat.le_succ _
  have hDC : s.heap.objs.size ≠ H2.objs.size := by rw [hC]; exact Nat.ne_of_lt (Nat.lt_succ_self _)
  have below : ∀ b, b < s.heap.objs.size → b ≠ H2.objs.size ∧ b ≠ s.heap.objs.size := fun b hb => ⟨by rw [hC]; exact Nat.ne_of_lt (Nat.lt_succ_of_lt hb), Nat.ne_of_lt hb⟩
  have old : ∀ b o, s.heap.get? b = some o → h₁.get? b = some o := fun b o e => hsb₁.extBut b o (below b (Heap.lt_size e)).1 (Heap.get?_push_of_some _ (hH2 ▸ Heap.get?_push_of_some _ e))
  have hacc : h₁.get? s.heap.objs.size = some (rawL [] 0) := hsb₁.extBut _ _ hDC (Heap.get?_push_of_some _ (hH2 ▸ Heap.get?_push_size _ rfl))
  have hfo : ∀ b ∈ fp, b < s.heap.objs.size := fun b hb => by
    obtain ⟨o, e, _⟩ := T.obj _ _ st b hb
    exact Heap.lt_size e
  have st1 : tn 0 h₁ := T.keep _ _ _ st fun b _ o e => old b o e
  generalize hDD : s.heap.objs.size = D at *
  generalize hCC : H2.objs.size = C at *
  have DleC : D ≤ C := hCle
  let Y : Cx := cxComp X Nc scope cl C fp s H
  have I0 : Inv Y [] (none :: capV σ caps) H { s with heap := h₁, toks := s.toks + ([] : List (Str × Value)).length } := comp_start I O hcl hcl2 (by rw [hDD]; exact hCle) hfp (fun b hb => by rw [hDD]; exact hfo b hb) old hns₁
  have Dfree : H D = none := by rw [← hDD]; exact I.hok.fresh (Nat.le_refl _)
  have DneC : D ≠ C := hDC
  have Dfs : D ∉ Y.fs := fun z => by
    have := I.stack.mem (show D ∈ frs X.stack from z)
    obtain ⟨_, o, e, _⟩ := this
    have := Heap.lt_size e
    rw [hDD] at this
    exact Nat.lt_irrefl _ this
  have Dcell : ∀ y c, Y.env.cells.lookup y = some c → c ≠ D := fun y c e z => by
    obtain ⟨v, q⟩ := I.cell y c (hcl y c e).1
    have := q.lt
    rw [z, hDD] at this
    exact Nat.lt_irrefl _ this
  have Dfp : ∀ b ∈ fp, b ≠ D := fun b hb => Nat.ne_of_lt (hfo b hb)
  have fpY : ∀ {H' : Hp}, (∀ b ∈ fp, H' b = none) → ∀ b ∈ fp, FpOk Y [] H' b := fun hn b hb =>
    ⟨hn b hb, Nat.ne_of_lt (Nat.lt_of_lt_of_le (hfo b hb) DleC), fun z => I0.ok.exfs b hb z, .inl hb, fun y c e => (I0.ok.exf b hb).2 y c e, fun p hp => absurd (show p ∈ ([] : List (Addr × Obj)) from hp) (by simp)⟩
  obtain ⟨W, ⟨m0, w0⟩, turn⟩ := h
  have loop : ∀ s₃ : Shared, s₃ = { s with heap := h₁, toks := s.toks + ([] : List (Str × Value)).length } →
      codeAny (model X.prog X.w) X.A (.compLoop (.ListComp elt [⟨.Name x px, iter, ifs, 0⟩] scope pos) 0 (.ref it) (.ref D) (compEnvC scope cl C X.env)) (RR (.ref D) C) s₃ := by
    rintro s₃ rfl
    refine compLoop_any (fun n s' => ∃ (i : Nat) (o : Option V) (H' : Hp) (ys : List V) (us : List Value) (k : Nat), Inv Y [] (o :: capV σ caps) H' s' ∧ tn i s'.heap ∧ (∀ b ∈ fp, H' b = none) ∧ s'.heap.get? D = some (rawL us k) ∧ H' D = none ∧ Vals ys us ∧ W i n ys H')
      ?_ m0 ⟨0, none, H, [], [], 0, I0, st1, fun b hb => (hfp b hb).1, hacc, Dfree, .nil, w0⟩
    rintro n s3 ⟨i, o3, H3, ys, us, k, I3, st3, fr3, hD3, nD3, rv, w3⟩
    have fpP : ∀ {H' : Hp} {ob : Obj}, (∀ b ∈ fp, H' b = none) → ∀ b ∈ fp, FpOk Y [(D, ob)] H' b := fun hn b hb => by
      obtain ⟨g0, g1, g2, g3, g4, _⟩ := fpY hn b hb
      refine ⟨g0, g1, g2, g3, g4, fun p hp => ?_⟩
      have e : p = (D, _) := List.mem_singleton.mp (show p ∈ [(D, _)] from hp)
      rw [e]
      exact Ne.symm (Dfp b hb)
    have IP : Inv Y [(D, rawL us k)] (o3 :: capV σ caps) H3 s3 := I3.pins_of fun p hp => by
      have e : p = (D, rawL us k) := List.mem_singleton.mp hp
      subst e
      exact ⟨hD3, nD3, DneC, Dfs, fun v z => by cases z⟩
    have pinD : ∀ {σ' : St} {H' : Hp} {s' : Shared} {pl : List (Addr × Obj)}, Inv Y ([(D, rawL us k)] ++ pl) σ' H' s' → s'.heap.get? D = some (rawL us k) ∧ H' D = none := fun I' => by
      have z := I'.pin (D, rawL us k) (List.mem_append_right _ (List.mem_append_left _ List.mem_cons_self))
      exact ⟨z.1, z.2.1⟩
    rcases turn i n ys H3 w3 with ⟨stop, hlen, fin⟩ | ⟨go, hlen, step⟩
    ·
      refine wpAny_mono (T.done Y rfl rfl rfl hc i _ s3 _ H3 (fun _ _ => False) IP (fpP fr3) st3 stop) (fun r s4 hr => ?_) fun _ _ z => z.elim
      obtain ⟨hr, I4⟩ := hr
      subst hr
      obtain ⟨gD, nD⟩ := pinD (pl := []) (by simpa using I4)
      obtain ⟨m, hn, _⟩ := I4.loc
      refine hRR D C s4 m hn (fun h' hs' => ⟨upd H3 D (.lst ys), ?_, (upd_ne (Ne.symm DneC)).trans I4.free, fin D nD⟩) hCle
      have nt : ∀ b ob, H3 b = some ob → b ≠ C := fun b ob e z => by
        have := I4.free
        rw [z] at e
        rw [show H3 C = none from this] at e
        cases e
      have u1 : Un (frs X.stack) fp H H3 s.heap h' := Un.but I4.base hs' (show s.heap.objs.size ≤ C by rw [hDD]; exact hCle)
      have ok1 : HOk X.prog X.w H3 h' := fun b ob e => (I4.hok b ob e).stay (fun c v hc q => (hs'.2 c (by
        rcases hc with z | z
        · rw [z]; exact nt b ob e
        · exact nt c _ z)).trans q) (fun _ q => q) fun _ _ q => q
      have gD' : h'.get? D = some (rawL us k) := (hs'.2 D DneC).trans gD
      exact I.call' (s' := { s4 with heap := h' }) (ch := fp) I4.os (u1.track (Nat.le_of_eq hDD) nD) (ok1.track nD ⟨hlen, us, k, rv, gD'⟩) I4.bare fun b hb => by
        obtain ⟨_, g1, _, g3, g4, g5⟩ := hfp b hb
        exact ⟨g3, g1, g4, g5⟩
    ·
      refine wpAny_mono (T.item Y rfl rfl rfl hc i _ s3 _ H3 (fun _ _ => False) IP (fpP fr3) st3 go) (fun r s4 hr => ?_) fun _ _ z => z.elim
      obtain ⟨u0, hr, h4⟩ := hr
      subst hr
      refine wpAny_mono h4 (fun _ s5 h5 => ?_) fun _ _ z => z.elim
      obtain ⟨x5, H5, I5, r5, y5, st5, fr5⟩ := h5
      have I5' := I5.pinned (fpP fr5) (T.obj _ _ st5)
      have tgt : PG Y (.Name x px) (gName 0) := pg_name (i := 0) O.nd O.hd (.inl (lookup_relabel I.ok.kind O.loc (by intro z; cases z))) (.inr (lookup_relabel I.ok.kind O.loc (by intro z; cases z)))
      refine wpAny_mono (tgt _ s5 _ H5 x5 u0 (fun σ2 H2 => σ2 = some x5 :: capV σ caps ∧ H2 = H5) I5' r5 ⟨rfl, rfl⟩) (fun _ s6 h6 => ?_) fun _ _ z => z.elim
      obtain ⟨_, _, I6, rfl, rfl⟩ := h6
      refine wpAny_mono ((htc C fp s H).run I6 (step x5 _ y5)) (fun b s7 h7 => ?_) fun _ _ z => z.elim
      obtain ⟨H7, I7, q7⟩ := h7
      have keepT : ∀ {σ' : St} {H' : Hp} {s' : Shared}, Inv Y ([(D, rawL us k)] ++ pinsAt fp s5.heap) σ' H' s' → tn (i + 1) s'.heap ∧ ∀ b ∈ fp, H' b = none := fun I' =>
        ⟨T.keep _ _ _ st5 fun b hb o e => (I'.pin (b, o) (List.mem_append_right _ (List.mem_append_right _ (mem_pinsAt hb e)))).1, fun b hb => by
          obtain ⟨o, e, d⟩ := T.obj _ _ st5 b hb
          exact (I'.pin (b, o) (List.mem_append_right _ (List.mem_append_right _ (mem_pinsAt hb e)))).2.1⟩
      cases b with
      | false =>
        rw [if_neg Bool.false_ne_true] at q7
        rw [if_neg Bool.false_ne_true]
        obtain ⟨m', hm, w7⟩ := q7
        obtain ⟨gD, nD⟩ := pinD I7
        obtain ⟨k1, k2⟩ := keepT I7
        exact ⟨m', hm, i + 1, some x5, H7, ys, us, k, I7.pins_of (fun p hp => nomatch hp), k1, k2, gD, nD, rv, w7⟩
      | true =>
        rw [if_pos rfl] at q7
        rw [if_pos rfl]
        refine wpAny_mono (hte C fp s H _ s7 _ H7 _ I7 q7) (fun u8 s8 h8 => ?_) fun _ _ z => z.elim
        obtain ⟨y8, H8, I8, r8, m', hm, w8⟩ := h8
        obtain ⟨gD, nD⟩ := pinD I8
        obtain ⟨k1, k2⟩ := keepT I8
        refine call_meets F.slot_list_append ⟨_, gD, rfl⟩ F.entry_list_append (F.args_list_append_2 _ _) (PySem.list_append D us.toArray k u8 (by rw [List.size_toArray, ← rv.length]; omega)) ⟨gD, ?_⟩
        have q := PySem.IsL.update gD (·.push u8)
        have e1 : us.toArray.push u8 = (us ++ [u8]).toArray := by simp
        rw [e1] at q
        have I8' : Inv Y [] (some x5 :: capV σ caps) H8 s8 := I8.pins_of (fun p hp => nomatch hp)
        have I9 : Inv Y [] (some x5 :: capV σ caps) H8 { s8 with heap := s8.heap.update D (Obj.mapSeq (·.push u8)), toks := s8.toks } :=
          I8'.turned (it := D) (fun b o hb e => (Heap.get?_update_other s8.heap (Obj.mapSeq (·.push u8)) (Ne.symm hb)).trans e) nD DneC (.inr (Nat.le_of_eq hDD)) Dcell (fun p hp => nomatch hp)
        refine ⟨m', hm, i + 1, some x5, H8, ys ++ [y8], us ++ [u8], _, I9, T.keep _ _ _ k1 fun b hb o e => (Heap.get?_update_other s8.heap (Obj.mapSeq (·.push u8)) (Ne.symm (Dfp b hb))).trans e, k2, q, nD, rv.append (.cons r8 .nil), w8⟩
  exact codeAny_compStart_list (loop _ rfl) (T.self X.A 0 _ _ _ st1 (loop _ rfl))
theorem pe_comp {x : Str} {px pos : Pos} {Nc : List Str} {caps : List Nat} {scope : Scope} {iter elt : Expr} {ifs : List Expr} {wi : TI} {tc : TT} {te : TE} (O : CompOk X x Nc caps scope) (hc : X.calm = true) (hi : PI X (.Name x px) iter wi)
    (htc : ∀ cl C fp s H, PIf (cxComp X Nc scope cl C fp s H) ifs tc) (hte : ∀ cl C fp s H, PE (cxComp X Nc scope cl C fp s H) elt te) (hs : ∀ x, foldedSetIterable iter X.env x = pure x := by intro _; rfl) :
    PE X (.ListComp elt [⟨.Name x px, iter, ifs, 0⟩] scope pos) (tComp wi caps tc te) := by
  intro pins s σ H Q I h
  rw [eval_ListComp]
  obtain ⟨cl, e1, e2, e3⟩ := closure_is (scope := scope) (env := X.env) fun y hy hf => I.ok.has y.1 (.inl (O.fr y hy hf).1)
  refine wpAny_comprehension_free (use := none) rfl hs e1 O.kind O.names (thn (hi pins s σ H _ I h) fun v s1 h1 => thn h1 fun itv s2 h2 => ?_)
  obtain ⟨it, fp, tn, J, H2, e, I2, T, st2, f2, w2⟩ := h2
  subst e
  refine comp_block (RR := fun acc C => compPost (model X.prog X.w) X.A X.xe none (EP X pins σ Q) acc C) O hc e2 e3 (hte cl) (htc cl) I2 T st2 f2 w2 ?_
  intro D C s' m hn hq hC
  refine ⟨m, hn, fun h' hs' => ?_⟩
  obtain ⟨H', I', _, q⟩ := hq h' hs'
  exact ⟨.ref D, H', I', rfl, q⟩
theorem ps_setC {i : Nat} {y x : Str} {px py pos spos : Pos} {Nc : List Str} {caps : List Nat} {scope : Scope} {iter elt : Expr} {ifs : List Expr} {wi : TI} {tc : TT} {te : TE} (O : CompOk X x Nc caps scope) (hc : X.calm = true)
    (hN : X.N.Nodup) (hy : X.N[i]? = some y) (hx : X.env.scope.names.lookup y = some .local) (hi : PI X (.Name x px) iter wi)
    (htc : ∀ cl C fp s H, PIf (cxComp X Nc scope cl C fp s H) ifs tc) (hte : ∀ cl C fp s H, PE (cxComp X Nc scope cl C fp s H) elt te)
    (hsw : swapsWith (.ListComp elt [⟨.Name x px, iter, ifs, 0⟩] scope pos) (some (.Name y py)) spos.line X.env = pure true) (hs : ∀ x, foldedSetIterable iter X.env x = pure x := by intro _; rfl) :
    PS X (.Assign [.Name y py] (.ListComp elt [⟨.Name x px, iter, ifs, 0⟩] scope pos) spos) (tAsg (tComp wi caps tc te) (gName i)) := by
  intro pins s σ H Dn I h
  rw [exec_Assign_Name_used _ _ _ _ hsw]
  refine wpAny_bind (wpAny_standAt (wpAny_bind ?_))
  obtain ⟨cl, e1, e2, e3⟩ := closure_is (scope := scope) (env := X.env) fun y hy hf => I.ok.has y.1 (.inl (O.fr y hy hf).1)
  show wpAny _ X.A (do let _ ← comprehension (.ListComp elt [⟨.Name x px, iter, ifs, 0⟩] scope pos) scope X.env _ (newList []) false (eval iter X.env) (some (assign (.Name y py) X.env))) _ _ s
  refine wpAny_bind (wpAny_mono (wpAny_comprehension_free (use := some (assign (.Name y py) X.env)) (Q := fun _ s' => SP X pins Dn .next s') rfl hs e1 O.kind O.names
    (thn (hi pins s σ H _ I h) fun v s1 h1 => thn h1 fun itv s2 h2 => ?_)) (fun _ s' hq => wpAny_pure (wpAny_pure hq)) fun _ _ e => e)
  obtain ⟨it, fp, tn, J, H2, e, I2, T, st2, f2, w2⟩ := h2
  subst e
  refine comp_block (RR := fun acc C => compPost (model X.prog X.w) X.A X.xe (some (assign (.Name y py) X.env)) (fun _ s' => SP X pins Dn .next s') acc C) O hc e2 e3 (hte cl) (htc cl) I2 T st2 f2 w2 ?_
  intro D C s' m hn hq hC
  show wpAny _ X.A (assign (.Name y py) X.env (.ref D)) _ _ _
  obtain ⟨H', I', nC, q⟩ := hq s'.heap (.refl ..)
  have I'' : Inv X pins σ H' s' := I'
  have CL : C ≠ X.env.locals := Nat.ne_of_gt (Nat.lt_of_lt_of_le I2.lt hC)
  have Ccell : ∀ y c, X.env.cells.lookup y = some c → c ≠ C := fun y c e z => by
    obtain ⟨v, q⟩ := I2.cell y c e
    have := Nat.lt_of_lt_of_le q.lt hC
    rw [z] at this
    exact Nat.lt_irrefl _ this
  refine wpAny_assign_Name (store_ok2 I'' hN hy (.inl hx) (show RelV (.ref D) (.ref D) from rfl) (fun s3 I3 hsb => ?_) (.inr hx))
  obtain ⟨a, hsb, ha⟩ := hsb
  have aC : C ≠ a := by
    rcases ha with z | z
    · rw [z]; exact CL
    · exact Ne.symm (Ccell _ _ z)
  refine ⟨m, hn.sameBut hsb aC, fun h4 hs4 => ?_⟩
  refine ⟨_, H', I3.turned (it := C) (t' := s3.toks) (fun b o hb e => (hs4.2 b hb).trans e) nC CL (.inr (Nat.le_trans I2.sz hC)) Ccell (fun p hp z => ?_), q⟩
  · have := Nat.lt_of_lt_of_le (Heap.lt_size (I2.pin p hp).1) hC
    rw [z] at this
    exact Nat.lt_irrefl _ this
end
open PySem PySem.Spec PyProof.Rows
def Its (x : Str) : It := ⟨fun i _ => i < x.cps.size, fun i H v H' => H' = H ∧ ∃ c, x.cps[i]? = some c ∧ v = .str ⟨#[c]⟩, fun i _ => x.cps.size ≤ i⟩
theorem turn_strA {P : Program} {w : World} {K : PySem.W.Frag} {tg : Expr} (it : Addr) (x : Str) (t : Tok) : Turn P w K tg (Its x) [it] it (fun i h => i ≤ x.cps.size ∧ h.IsStrIter it "str_ascii_iterator" x t i) where
  mem := by simp
  obj := fun i h st b hb => by
    have e : b = it := by simpa using hb
    subst e
    obtain ⟨_, o, e, c, d⟩ := st
    exact ⟨o, e, fun v z => by rw [d] at z; cases z⟩
  keep := fun i h h' st k => by
    obtain ⟨hl, o, e, c, d⟩ := st
    exact ⟨hl, o, k it (by simp) o e, c, d⟩
  item := by
    intro X hP hw hK hc i pins s σ H E I hf st hg
    subst hP hw hK
    obtain ⟨hl, st⟩ := st
    have hg : i < x.cps.size := hg
    obtain ⟨f0, f1, f2, f3, f4, f5⟩ := hf it (by simp)
    have hx : x.cps[i]? = some x.cps[i] := by simp [hg]
    refine wpAny_pyNext_ascii_item st hx fun h' st' sb => ?_
    have I1 : Inv X pins σ H { s with heap := h', toks := s.toks + 1 } := I.turned (fun b o hb e => (sb.2 b hb).trans e) f0 f1 f3 f4 f5
    obtain ⟨o, e, c, d⟩ := id st'
    exact ⟨_, rfl, go_of (s := { s with heap := h', toks := s.toks + 1 }) e c d (by decide) ⟨.str ⟨#[x.cps[i]]⟩, H, I1, ⟨_, rfl⟩, ⟨rfl, _, hx, rfl⟩, ⟨hg, st'⟩, fun b hb => (hf b hb).1⟩⟩
  done := by
    intro X hP hw hK hc i pins s σ H E I hf st hg
    subst hP hw hK
    obtain ⟨hl, st⟩ := st
    have hg : x.cps.size ≤ i := hg
    obtain ⟨f0, f1, f2, f3, f4, f5⟩ := hf it (by simp)
    exact wpAny_pyNext_ascii_end (I.ok.hd hc) st (by simp; omega) fun h' eb => ⟨rfl, I.turned (t' := s.toks) (fun b o hb e => eb b o hb e) f0 f1 f3 f4 f5⟩
  self := fun _ _ _ _ _ st h => wpAny_pyIter_striter_ascii st.2 h
theorem turn_strW {P : Program} {w : World} {K : PySem.W.Frag} {tg : Expr} (it : Addr) (x : Str) (t : Tok) : Turn P w K tg (Its x) [it] it (fun i h => i ≤ x.cps.size ∧ h.IsStrIter it "str_iterator" x t i) where
  mem := by simp
  obj := fun i h st b hb => by
    have e : b = it := by simpa using hb
    subst e
    obtain ⟨_, o, e, c, d⟩ := st
    exact ⟨o, e, fun v z => by rw [d] at z; cases z⟩
  keep := fun i h h' st k => by
    obtain ⟨hl, o, e, c, d⟩ := st
    exact ⟨hl, o, k it (by simp) o e, c, d⟩
  item := by
    intro X hP hw hK hc i pins s σ H E I hf st hg
    subst hP hw hK
    obtain ⟨hl, st⟩ := st
    have hg : i < x.cps.size := hg
    obtain ⟨f0, f1, f2, f3, f4, f5⟩ := hf it (by simp)
    have hx : x.cps[i]? = some x.cps[i] := by simp [hg]
    refine wpAny_pyNext_wide_item st hx fun h' st' sb => ?_
    have I1 : Inv X pins σ H { s with heap := h', toks := s.toks + 1 } := I.turned (fun b o hb e => (sb.2 b hb).trans e) f0 f1 f3 f4 f5
    obtain ⟨o, e, c, d⟩ := id st'
    exact ⟨_, rfl, go_of (s := { s with heap := h', toks := s.toks + 1 }) e c d (by decide) ⟨.str ⟨#[x.cps[i]]⟩, H, I1, ⟨_, rfl⟩, ⟨rfl, _, hx, rfl⟩, ⟨hg, st'⟩, fun b hb => (hf b hb).1⟩⟩
  done := by
    intro X hP hw hK hc i pins s σ H E I hf st hg
    subst hP hw hK
    obtain ⟨hl, st⟩ := st
    have hg : x.cps.size ≤ i := hg
    obtain ⟨f0, f1, f2, f3, f4, f5⟩ := hf it (by simp)
    exact wpAny_pyNext_wide_end (I.ok.hd hc) st (by simp; omega) fun h' eb => ⟨rfl, I.turned (t' := s.toks) (fun b o hb e => eb b o hb e) f0 f1 f3 f4 f5⟩
  self := fun _ _ _ _ _ st h => wpAny_pyIter_striter_wide st.2 h
section
variable {X : Cx} {tg : Expr}
def iStr (tl : TE) : TI := fun σ H R => tl σ H fun x H1 => ∃ z, x = .str z ∧ R (Its z) H1
theorem pi_str {l : Expr} {tl : TE} (hl : PE X l tl) : PI X tg l (iStr tl) := by
  intro pins s σ H R I h
  refine thn (hl pins s σ H _ I h) fun v s1 ⟨x, H1, I1, r1, q1⟩ => ?_
  obtain ⟨z, e, q⟩ := q1
  subst e
  obtain ⟨t, rfl⟩ := r1
  have fpn : ∀ b ∈ [s1.heap.objs.size], FpOk X pins H1 b := fun b hb => by
    have e : b = s1.heap.objs.size := by simpa using hb
    subst e
    exact I1.fpOk (Nat.le_refl _) (I1.hok.fresh (Nat.le_refl _))
  cases ha : z.cps.all (· < 128)
  · refine wpAny_pyIter_wide ha ?_
    exact ⟨s1.heap.objs.size, [s1.heap.objs.size], _, _, H1, rfl, I1.kept (t' := s1.toks) fun b o e => Heap.get?_push_of_some _ e, turn_strW _ z t, ⟨Nat.zero_le _, _, Heap.get?_push_size _ rfl, rfl, rfl⟩, fpn, q⟩
  · refine wpAny_pyIter_ascii ha ?_
    exact ⟨s1.heap.objs.size, [s1.heap.objs.size], _, _, H1, rfl, I1.kept (t' := s1.toks) fun b o e => Heap.get?_push_of_some _ e, turn_strA _ z t, ⟨Nat.zero_le _, _, Heap.get?_push_size _ rfl, rfl, rfl⟩, fpn, q⟩
end
theorem for_str {z : Str} {g : TG} {tb : TS} {D : Ends} {σ : St} {H : Hp} (Pv : Nat → St → Hp → Prop) (h0 : Pv 0 σ H)
    (hs : ∀ i c σ H, z.cps[i]? = some c → Pv i σ H → g (.str ⟨#[c]⟩) σ H fun σ2 H2 => tb { D with nx := Pv (i + 1), ct := Pv (i + 1), bk := D.nx } σ2 H2) (hd : ∀ σ H, Pv z.cps.size σ H → D.nx σ H) :
    ∃ W : Nat → Nat → St → Hp → Prop, (∃ m, W 0 m σ H) ∧ ∀ i m σ H, W i m σ H →
      ((Its z).stop i H ∧ D.nx σ H) ∨ ((Its z).go i H ∧ ∃ N : St → Hp → Prop, (∀ σ' H', N σ' H' → ∃ m', m' < m ∧ W (i + 1) m' σ' H') ∧ ∀ x H', (Its z).yld i H x H' → g x σ H' fun σ2 H2 => tb { D with nx := N, ct := N, bk := D.nx } σ2 H2) := by
  refine ⟨fun i m σ H => m = z.cps.size - i ∧ i ≤ z.cps.size ∧ Pv i σ H, ⟨z.cps.size, by simp, Nat.zero_le _, h0⟩, ?_⟩
  rintro i m σ H ⟨rfl, hi, p⟩
  by_cases hlt : i < z.cps.size
  · refine .inr ⟨hlt, Pv (i + 1), fun σ' H' p' => ⟨z.cps.size - (i + 1), by omega, rfl, hlt, p'⟩, fun x H' y => ?_⟩
    obtain ⟨e, c, hc, rfl⟩ := y
    subst e
    exact hs i c σ _ hc p
  · have e : i = z.cps.size := by omega
    subst e
    exact .inl ⟨Nat.le_refl _, hd σ H p⟩
def CN (n : Nat) (Pv : Nat → List V → Hp → Prop) (i : Nat) (ys : List V) (H : Hp) : Prop := ∃ m', m' < n - i ∧ m' = n - (i + 1) ∧ i + 1 ≤ n ∧ Pv (i + 1) ys H
theorem CN.of {n : Nat} {Pv : Nat → List V → Hp → Prop} {i : Nat} {ys : List V} {H : Hp} (h : i < n) (p : Pv (i + 1) ys H) : CN n Pv i ys H := ⟨n - (i + 1), by omega, rfl, h, p⟩
def CTurn (n : Nat) (Pv : Nat → List V → Hp → Prop) (tc : TT) (te : TE) (σ : St) (i : Nat) (ys : List V) (H : Hp) : Prop :=
  tc σ H fun b H2 => if b = true then te σ H2 fun y H3 => CN n Pv i (ys ++ [y]) H3 else CN n Pv i ys H2
theorem CTurn.no {n : Nat} {Pv : Nat → List V → Hp → Prop} {te : TE} {σ : St} {i : Nat} {ys : List V} {H : Hp} (h : te σ H fun y H3 => CN n Pv i (ys ++ [y]) H3) : CTurn n Pv tNoTest te σ i ys H := by
  unfold CTurn tNoTest
  exact iteT h
theorem comp_list {K : PySem.W.Frag} {a : Addr} {xs : List V} {caps : List Nat} {tc : TT} {te : TE} {σ : St} {H : Hp} {Q : VK} (Pv : Nat → List V → Hp → Prop) (h0 : Pv 0 [] H) (hl : ∀ i ys H, i ≤ xs.length → Pv i ys H → SqL K H a xs ∧ ys.length ≤ i)
    (hz : xs.length ≤ sizeLine) (hs : ∀ i x ys H, i < xs.length → xs[i]? = some x → Pv i ys H → CTurn xs.length Pv tc te (some x :: capV σ caps) i ys H)
    (hd : ∀ ys H p, Pv xs.length ys H → H p = none → Q (.ref p) (upd H p (.lst ys))) : tCompW caps tc te (Itl K a) σ H Q := by
  refine ⟨fun i m ys H => m = xs.length - i ∧ i ≤ xs.length ∧ Pv i ys H, ⟨xs.length, by simp, Nat.zero_le _, h0⟩, ?_⟩
  rintro i m ys H ⟨rfl, hi, p⟩
  obtain ⟨q, hy⟩ := hl i ys H hi p
  by_cases hlt : i < xs.length
  · refine .inr ⟨⟨xs, xs[i], q, by simp [hlt]⟩, by omega, fun x H' y => ?_⟩
    obtain ⟨e, y⟩ := y
    subst e
    exact hs i x ys _ hlt (y xs q) p
  · have e : i = xs.length := by omega
    subst e
    exact .inl ⟨⟨xs, q, Nat.le_refl _⟩, by omega, fun p' hp => hd ys H p' p hp⟩
theorem comp_range {lo : Int} {n : Nat} {caps : List Nat} {tc : TT} {te : TE} {σ : St} {H : Hp} {Q : VK} (Pv : Nat → List V → Hp → Prop) (h0 : Pv 0 [] H) (hl : ∀ i ys H, i ≤ n → Pv i ys H → ys.length ≤ i)
    (hz : n ≤ sizeLine) (hs : ∀ i ys H, i < n → Pv i ys H → CTurn n Pv tc te (some (.int (lo + i)) :: capV σ caps) i ys H)
    (hd : ∀ ys H p, Pv n ys H → H p = none → Q (.ref p) (upd H p (.lst ys))) : tCompW caps tc te (Itr lo n) σ H Q := by
  refine ⟨fun i m ys H => m = n - i ∧ i ≤ n ∧ Pv i ys H, ⟨n, by simp, Nat.zero_le _, h0⟩, ?_⟩
  rintro i m ys H ⟨rfl, hi, p⟩
  have hy := hl i ys H hi p
  by_cases hlt : i < n
  · refine .inr ⟨hlt, by omega, fun x H' y => ?_⟩
    obtain ⟨e, y⟩ := y
    subst e y
    exact hs i ys _ hlt p
  · have e : i = n := by omega
    subst e
    exact .inl ⟨Nat.le_refl _, by omega, fun p' hp => hd ys H p' p hp⟩
theorem strsAre_of {ys : List Str} : ∀ {us : List Value}, Vals (ys.map V.str) us → StrsAre us ys := by
  induction ys with
  | nil => intro us r; rw [List.map_nil] at r; cases r; exact .nil
  | cons n ns ih =>
    intro us r
    rw [List.map_cons] at r
    cases r with
    | cons r1 r2 =>
      obtain ⟨t, e⟩ := r1
      subst e
      exact .cons n t (ih r2)
def rJoin (K : PySem.W.Frag) : V → List V → Hp → VK → Prop := fun x vs H Q => ∃ z a ys, x = .str z ∧ vs = [.ref a] ∧ SqL K H a (ys.map V.str) ∧ (ys.map (·.length)).sum + ys.length * z.length ≤ 16777216 ∧ Q (.str (Txt.join z ys)) H
section
variable {X : Cx}
theorem mt_join : MtR X "str.join" (rJoin X.K) := by
  intro pins s σ H x vs v us Q I rx rv h
  obtain ⟨z, a, ys, rfl, rfl, hq, hz, q⟩ := h
  obtain ⟨t, rfl⟩ := rx
  obtain ⟨u, rfl, ru⟩ := rv.one
  cases ru
  obtain ⟨its, r, pl, hl⟩ := I.list hq
  exact join_list pl.isList (strsAre_of (by simpa using r)) hz fun t' k => ⟨.str _, H, I.tok _, ⟨_, rfl⟩, q⟩
def rIsi (K : PySem.W.Frag) : List V → Hp → VK → Prop := fun vs H Q => ∃ x t b, TyOf K H x t ∧
  ((∃ n, vs = [x, .ty n] ∧ PySem.W.kitOne K t (.type n) = some b) ∨ (∃ a, vs = [x, .ref a] ∧ PySem.W.kitOne K t (.ref a) = some b)) ∧ Q (.bl b) H
theorem call_isi : CallR X (.builtin "isinstance") (rIsi X.K) := by
  intro pins s σ H xs us Q I rv h
  obtain ⟨x, t, b, ty, hv, q⟩ := h
  rcases hv with ⟨n, rfl, e⟩ | ⟨a, rfl, e⟩
  · obtain ⟨u1, u2, rfl, r1, r2⟩ := rv.two
    cases r2
    exact isinst_ok I r1 ty e fun tk => ⟨.bl b, H, I.tok _, rfl, q⟩
  · obtain ⟨u1, u2, rfl, r1, r2⟩ := rv.two
    cases r2
    exact isinst_ok I r1 ty e fun tk => ⟨.bl b, H, I.tok _, rfl, q⟩
def eqL : List V → List V → Bool
  | [], [] => true
  | x :: xs, y :: ys => eqV x y && eqL xs ys
  | _, _ => false
theorem eqV_refl {x : V} (h : flatV x = true) : eqV x x = true := by
  cases x with
  | non => rfl
  | bl b => simp [eqV]
  | int i => simp [eqV]
  | str z => simp [eqV]
  | _ => exact absurd (show false = true from h) Bool.false_ne_true
theorem eqL_refl : ∀ {xs : List V}, xs.all flatV = true → eqL xs xs = true
  | [], _ => rfl
  | x :: xs, h => by
    rw [List.all_cons, Bool.and_eq_true] at h
    rw [eqL, eqV_refl h.1, eqL_refl h.2]
    rfl
theorem eqL_len : ∀ {xs ys : List V}, xs.length ≠ ys.length → eqL xs ys = false
  | [], [], h => absurd rfl h
  | [], _ :: _, _ => rfl
  | _ :: _, [], _ => rfl
  | x :: xs, y :: ys, h => by
    rw [eqL, eqL_len (xs := xs) (ys := ys) (fun z => h (by rw [List.length_cons, List.length_cons, z])), Bool.and_false]
theorem eqL_range : ∀ {xs ys : List V}, xs.length = ys.length → (List.range xs.length).all (fun j => eqV (xs.getD j .non) (ys.getD j .non)) = eqL xs ys
  | [], [], _ => rfl
  | [], _ :: _, h => by simp at h
  | _ :: _, [], h => by simp at h
  | x :: xs, y :: ys, h => by
    have h' : xs.length = ys.length := by simpa using h
    rw [List.length_cons, List.range_succ_eq_map, List.all_cons, List.all_map]
    rw [eqL, ← eqL_range h']
    rfl
def rEqL (K : PySem.W.Frag) : R2 := fun x y H Q => ∃ p q xs ys, x = .ref p ∧ y = .ref q ∧ SqL K H p xs ∧ SqL K H q ys ∧ xs.all flatV = true ∧ ys.all flatV = true ∧ Q (.bl (eqL xs ys)) H
theorem op_eqL (hu : X.A.units < cLine) : OpR X (compareOp .Eq) (rEqL X.K) := by
  intro pins s σ H x y v u Q I rx ry h
  obtain ⟨p, q, xs, ys, rfl, rfl, hx, hy, fx, fy, k⟩ := h
  cases rx
  cases ry
  obtain ⟨its, r, pl, hz⟩ := I.list hx
  obtain ⟨its2, r2, pl2, hz2⟩ := I.list hy
  have l1 := r.length
  have l2 := r2.length
  by_cases hl : xs.length = ys.length
  · refine SeqAt.eq_listAt (e := fun j => eqV (xs.getD j .non) (ys.getD j .non)) pl.isList pl2.isList (by simp only [List.size_toArray]; omega) hu (fun j h1 h2 => ?_) ?_
    · have j1 : j < xs.length := by simp only [List.size_toArray] at h1; omega
      have j2 : j < ys.length := by omega
      obtain ⟨w1, e1, q1⟩ := r.get (i := j) (x := xs[j]) (by simp [j1])
      obtain ⟨w2, e2, q2⟩ := r2.get (i := j) (x := ys[j]) (by simp [j2])
      have g1 : its.toArray[j] = w1 := by
        have : its.toArray[j]? = some w1 := by simpa using e1
        exact Option.some.inj ((Array.getElem?_eq_getElem h1).symm.trans this)
      have g2 : its2.toArray[j] = w2 := by
        have : its2.toArray[j]? = some w2 := by simpa using e2
        exact Option.some.inj ((Array.getElem?_eq_getElem h2).symm.trans this)
      rw [g1, g2]
      have d1 : xs.getD j .non = xs[j] := by simp [List.getD, j1]
      have d2 : ys.getD j .non = ys[j] := by simp [List.getD, j2]
      show SeqAt.EqAt _ _ _ _ (eqV (xs.getD j .non) (ys.getD j .non))
      rw [d1, d2]
      exact eqAt_V q1 q2 (List.all_eq_true.mp fx _ (List.getElem_mem j1)) (List.all_eq_true.mp fy _ (List.getElem_mem j2))
    · refine ⟨.bl (eqL xs ys), H, I, ?_, k⟩
      show Value.bool _ = Value.bool _
      rw [List.size_toArray, ← l1, eqL_range hl]
  · refine SeqAt.eq_list_lengthsAt pl.isList pl2.isList (by simp only [List.size_toArray, bne_iff_ne]; omega) hu ?_
    exact ⟨.bl (eqL xs ys), H, I, by rw [eqL_len hl]; rfl, k⟩
end
open PySem
def tx (l : List Nat) : Str := ⟨l.toArray⟩
theorem tx_len (l : List Nat) : (tx l).length = l.length := by simp [tx, Str.length]
theorem tx_list (l : List Nat) : (tx l).cps.toList = l := by simp [tx]
theorem tx_get (l : List Nat) (i : Nat) : (tx l).cps[i]? = l[i]? := by simp [tx]
theorem tx_of (z : Str) : tx z.cps.toList = z := by cases z; simp [tx]
theorem tx_app (a b : List Nat) : tx a ++ tx b = tx (a ++ b) := by
  show Str.append (tx a) (tx b) = _
  simp [tx, Str.append]
theorem tx_inj {a b : List Nat} (h : tx a = tx b) : a = b := by
  have := congrArg (fun z : Str => z.cps.toList) h
  simpa [tx] using this
theorem glue_fold : ∀ (ys : List (List Nat)) (acc : Array Nat), (ys.map tx).foldl (fun acc p => acc ++ (tx []).cps ++ p.cps) acc = acc ++ ys.flatten.toArray
  | [], acc => by simp
  | y :: ys, acc => by
    rw [List.map_cons, List.foldl_cons, glue_fold ys]
    simp [tx]
theorem tx_join : ∀ (ys : List (List Nat)), Txt.join (tx []) (ys.map tx) = tx ys.flatten
  | [] => by simp [Txt.join, Builtin.Str.glued, tx, Str.empty]
  | y :: ys => by
    show Str.mk _ = _
    simp only [List.map_cons, List.drop_one, List.tail_cons, List.headD_cons]
    rw [glue_fold]
    simp [tx]
theorem flat1 {α : Type} (f : α → Nat) : ∀ (l : List α), (l.map fun c => [f c]).flatten = l.map f
  | [] => rfl
  | a :: l => by rw [List.map_cons, List.flatten_cons, flat1 f l]; rfl
theorem sum1 {α : Type} (f : α → Nat) : ∀ (l : List α), (((l.map fun c => [f c]).map tx).map (·.length)).sum = l.length
  | [] => rfl
  | a :: l => by
    rw [List.map_cons, List.map_cons, List.map_cons, List.sum_cons, sum1 f l, tx_len, List.length_cons]
    show 1 + l.length = l.length + 1
    omega
end L2
namespace PySem
open Sem (wp)
open Builtin Builtin.Str Builtin.Int
namespace RV
end RV
def revS (x : Str) (t : Tok) (i : Int) : Obj := { cls := .type "reversed", data := .fields #[.str x t, rawInt i] }
def Heap.IsRevS (h : Heap) (a : Addr) (x : Str) (t : Tok) (i : Int) : Prop := ∃ o, h.get? a = some o ∧ o.cls = .type "reversed" ∧ o.data = .fields #[.str x t, rawInt i]
section
variable {prog : Program} {w : World} {A : Around} {E : Value → Shared → Prop} {s : Shared}
end
end PySem
namespace L2
open PySem PySem.Spec PyProof.Rows
def revO (p : Addr) (x : Str) : HO := .ext fun h => ∃ t, h.IsRevS p x t ((x.length : Int) - 1)
def anyO (p : Addr) : HO := .ext fun h => ∃ o, h.get? p = some o
section
variable {X : Cx}
end
open PySem PySem.Spec PyProof.Rows
theorem iteDn {c A B : Prop} [Decidable c] (h : ¬ c) (k : B) : if decide c = true then A else B := by rw [decide_eq_false h]; exact iteF k
theorem iteDp {c A B : Prop} [Decidable c] (h : c) (k : A) : if decide c = true then A else B := by rw [decide_eq_true h]; exact iteT k
theorem iteNp {c A B : Prop} [Decidable c] (h : ¬ c) (k : A) : if (!decide c) = true then A else B := by rw [decide_eq_false h]; exact iteT k
theorem ite2D {c A B : Prop} [Decidable c] (h1 : c → A) (h2 : ¬ c → B) : if decide c = true then A else B := by
  by_cases h : c
  · exact iteDp h (h1 h)
  · exact iteDn h (h2 h)
theorem Same.upd {H : Hp} {p : Addr} {o : HO} (h : H p = none) : Same H (L2.upd H p o) := fun b o' e => by rw [upd_ne (ne_of_none e h)]; exact e
theorem bt_len : bootBuiltins "len" = some (.builtin "len") := by decide +kernel
theorem bt_isinstance : bootBuiltins "isinstance" = some (.builtin "isinstance") := by decide +kernel
theorem bt_any : bootBuiltins "any" = some (.builtin "any") := by decide +kernel
theorem bt_list : bootBuiltins "list" = some (.type "list") := by decide +kernel
theorem bt_str : bootBuiltins "str" = some (.type "str") := by decide +kernel
theorem bt_int : bootBuiltins "int" = some (.type "int") := by decide +kernel
theorem bt_tuple : bootBuiltins "tuple" = some (.type "tuple") := by decide +kernel
theorem bt_bool : bootBuiltins "bool" = some (.type "bool") := by decide +kernel
structure Df (K : PySem.W.Frag) (mg : Str → Option Value) (x : Str) (st : Stmt) (ps : List Str) (f : Addr) (fd : FuncData) : Prop where
  F : Fun K x x st f fd
  m : mg x = some (.ref f)
  b : Binds K fd ps []
def vS (cl : List (List Nat)) : List V := cl.map fun t => V.str (tx t)
def vI (ns : List Int) : List V := ns.map V.int
theorem vS_len (cl : List (List Nat)) : (vS cl).length = cl.length := by unfold vS; rw [List.length_map]
theorem vI_len (ns : List Int) : (vI ns).length = ns.length := by unfold vI; rw [List.length_map]
theorem vS_flat (cl : List (List Nat)) : (vS cl).all flatV = true := by unfold vS; rw [List.all_map]; exact List.all_eq_true.mpr fun _ _ => rfl
theorem vI_app (ns : List Int) (n : Int) : vI ns ++ [.int n] = vI (ns ++ [n]) := by unfold vI; rw [List.map_append]; rfl
theorem vS_app (cl : List (List Nat)) (t : List Nat) : vS cl ++ [.str (tx t)] = vS (cl ++ [t]) := by unfold vS; rw [List.map_append]; rfl
theorem atI_of {α : Type} {xs : List α} {i : Int} {v : α} (h0 : 0 ≤ i) (h : xs[i.toNat]? = some v) : atI xs i = some v := by
  have e : i = (i.toNat : Int) := by omega
  rw [e]
  exact atI_nat h
open PySem PySem.Spec PyProof.Rows
section
variable {X : Cx} {K : PySem.W.Frag} {tg : Expr}
theorem ix_listK (hK : X.K = K := by rfl) : IxR X (rIxL K) := by subst hK; exact ix_list
theorem ix_tupK (hK : X.K = K := by rfl) : IxR X (rIxT K) := by subst hK; exact ix_tup
theorem op_eqLK (hu : X.A.units < cLine) (hK : X.K = K := by rfl) : OpR X (compareOp .Eq) (rEqL K) := by subst hK; exact op_eqL hu
theorem call_len_seqK (hK : X.K = K := by rfl) : CallR X (.builtin "len") (fun xs H Q => ∃ p ys, xs = [.ref p] ∧ (SqL K H p ys ∨ SqT K H p ys) ∧ Q (.int ys.length) H) := by subst hK; exact call_len_seq
theorem call_list_ofK (hK : X.K = K := by rfl) : CallR X (.type "list") (fun xs H Q => ∃ p ys, xs = [.ref p] ∧ (SqL K H p ys ∨ SqT K H p ys) ∧ ∀ l, H l = none → Q (.ref l) (upd H l (.lst ys))) := by subst hK; exact call_list_of
theorem call_isiK (hK : X.K = K := by rfl) : CallR X (.builtin "isinstance") (rIsi K) := by subst hK; exact call_isi
theorem mt_joinK (hK : X.K = K := by rfl) : MtR X "str.join" (rJoin K) := by subst hK; exact mt_join
theorem sl_listK (hK : X.K = K := by rfl) : SlR X (rSlL K) := by subst hK; exact sl_list
theorem pi_listK {l : Expr} {tl : TE} (hl : PE X l tl) (hK : X.K = K := by rfl) : PI X tg l (iList K tl) := by subst hK; exact pi_list hl
theorem pt_truthK {a : Expr} {ta : TE} (ha : PE X a ta) (he : ∀ whole, isTrue a X.env whole = (do let v ← whole; standAt a.pos; holding [v] (truthy v))) (hK : X.K = K := by rfl) :
    PT X a (fun σ H Q => ta σ H fun x H' => ∃ k, TruV K x H' k ∧ Q k H') := by subst hK; exact pt_truth ha he
variable {o e : Expr} {es : List Expr} {to : TE} {t : TA} {name : Str} {apos cpos : Pos} {T id : String} {r : V → List V → Hp → VK → Prop}
theorem pe_bmK (pa : PlainAttrs T) (slot : Slot T name id) (hty : typeOf (.builtin id) = pure (.type "method_descriptor")) (hm : MtR X id r) (ho : PE X o to) (ha : PA X (e :: es) t)
    (hbase : attributeBase o name X.env (eval o X.env) = eval o X.env := by rfl)
    (hfew : ((backTo cpos (starEach (e :: es) X.env)).all (fun x => !x.1) && (backToKw cpos (keywordEach [] X.env)).all (fun x => x.1.isSome)
      && decide ((e :: es).length + ([] : List Keyword).length + (if ([] : List Keyword).isEmpty then 0 else 1) < 30)) = true := by rfl)
    (hline : (apos.endLine == cpos.line) = true := by rfl) (hs : starEach (e :: es) X.env = (false, eval e X.env) :: starEach es X.env := by rfl) (hplain : (backTo cpos (starEach es X.env)).any (·.1) = false := by rfl) (hK : X.K = K := by rfl) :
    PE X (.Call (.Attribute o name apos) (e :: es) [] cpos) (tBM K T r to t) := by
  subst hK
  exact pe_bm pa slot hty hm ho ha hbase hfew hline hs hplain
end
open PySem PySem.Spec PyProof.Rows
abbrev exO (C t : Addr) (tb : Value) : Obj := { cls := .ref C, data := .fields #[.ref t, tb, .none, .none, .bool false, .none] }
structure Fx (B : Heap) (l : List Env) (e C t : Addr) (fl : Value) (h : Heap) : Prop where
  st : B.StaysIn h
  ne : B.get? e = none
  fr : h.FunFrames B l
  ob : ∃ (T : Addr) (oT : Obj) (ts : Array Value), h.get? e = some (exO C t (.ref T)) ∧ B.get? T = none ∧ T ≠ e ∧ h.get? T = some oT ∧ oT.data = .fields ts ∧ ts[3]? = some fl
theorem Fx.outer {B : Heap} {env : Env} {l : List Env} {e C t : Addr} {fl : Value} {h : Heap} (x : Fx B (env :: l) e C t fl h) : Fx B l e C t fl h := ⟨x.st, x.ne, x.fr.2.2, x.ob⟩
section
variable {M : Model} {A : Around} {E : Value → Shared → Prop} {s : Shared} {B : Heap} {env : Env} {l : List Env} {e C t L : Addr}
theorem fx_land {fl : Value} {Q : Unit → Shared → Prop} (x : Fx B l e C t fl s.heap) (k : ∀ h', Fx B l e C t .none h' → s.heap.UpToSlots h' → Q () { s with heap := h' }) : wpAny M A (setFlight (.ref e) none) Q E s := by
  obtain ⟨st, ne, fr, T, oT, ts, hE, hBT, hTe, hT, hdT, h3⟩ := x
  have h3s : 3 < ts.size := (Array.getElem?_eq_some_iff.mp h3).1
  unfold setFlight
  refine wpAny_bind (wpAny_field hE rfl (x := .ref T) rfl ?_)
  rw [if_pos (show (Value.ref T != Value.none) = true by simp)]
  refine wpAny_setField hT hdT h3s (k _ ?_ ?_)
  all_goals
    have oth : ∀ b, b ≠ T → (s.heap.update T (Obj.mapFields (·.setIfInBounds 3 ((none : Option Addr).elim Value.none fun f => rawInt f)))).get? b = s.heap.get? b := fun b hb => Heap.get?_update_other _ _ (Ne.symm hb)
    have nrec : ∀ b o, s.heap.get? b = some o → (∀ vs, o.data ≠ .fields vs) → b ≠ T := fun b o hb hn q => by
      rw [q, hT] at hb
      cases hb
      exact hn ts hdT
  · refine ⟨fun b o hb => (oth b fun q => by rw [q, hBT] at hb; cases hb).trans (st b o hb), ne, fr.of_keeps fun b o hb hn => ⟨o, (oth b (nrec b o hb hn)).trans hb, rfl⟩, T, _, _, (oth e (Ne.symm hTe)).trans hE, hBT, hTe,
      Heap.get?_update_self _ hT (Obj.isFreed_of_fields (Obj.data_mapFields hdT _)), Obj.data_mapFields hdT _, ?_⟩
    simp [h3s]
  · exact fun b o hb hn => ⟨o.slots, (oth b (nrec b o hb hn)).trans hb⟩
theorem fx_enter {tb : Value} {had : Bool} {Q : Unit → Shared → Prop} (hfr : A.frames = some (env :: l)) (hf : env.frame = some L) (st : B.StaysIn s.heap) (ne : B.get? e = none) (fr : s.heap.FunFrames B (env :: l))
    (hE : s.heap.get? e = some (exO C t tb)) (k : ∀ h', Fx B (env :: l) e C t (rawInt L) h' → s.heap.UpToSlots h' → Q () { s with heap := h' }) :
    wpAny M A (do let a ← frameOf env; let pl ← entryPlaceOf L had; let b ← EntryCells.newEntry tb a .none (rawInt L) .none pl; setField (.ref e) 1 b) Q E s := by
  have eF : e ∉ (env :: l).filterMap (·.frame) := fun hm => by
    obtain ⟨_, o, ho, hn⟩ := fr.mem hm
    rw [hE] at ho
    cases ho
    exact hn _ rfl
  refine wpAny_bind (wpAny_frameOf_fun hfr fr hf fun h1 so => wpAny_bind (wpAny_entryPlaceOf fun pl hpl => ?_))
  unfold EntryCells.newEntry newFields
  refine wpAny_bind (wpAny_newObj_type ?_ (hpl.sizeOk5 _ _ _ _ _))
  have E1 : h1.get? e = some (exO C t tb) := (so.2.1 e eF).trans hE
  have st1 : B.StaysIn h1 := fun b o hb => (so.2.1 b fun hm => by rw [(fr.mem hm).1] at hb; cases hb).trans (st b o hb)
  have TE : h1.objs.size ≠ e := Nat.ne_of_gt (Heap.lt_size E1)
  generalize hN : ({ cls := .type "traceback", dict := none, data := .fields ([tb, .ref L, .none, rawInt L, .none] ++ (if pl.isEmpty then List.replicate 6 Value.none else pl)).toArray } : Obj) = nT
  have E2 : (h1.push nT).get? e = some (exO C t tb) := Heap.get?_push_of_some nT E1
  refine wpAny_setField (s := { s with heap := h1.push nT }) E2 rfl (by show 1 < 6; decide) (k _ ?_ ?_)
  all_goals
    have kp : ∀ b o, b ≠ e → h1.get? b = some o → ((h1.push nT).update e (Obj.mapFields (·.setIfInBounds 1 (Value.ref h1.objs.size)))).get? b = some o := fun b o hb q =>
      (Heap.get?_update_other _ _ (Ne.symm hb)).trans (Heap.get?_push_of_some nT q)
    have nrec : ∀ b o, s.heap.get? b = some o → (∀ vs, o.data ≠ .fields vs) → b ≠ e := fun b o hb hn q => by
      rw [q, hE] at hb
      cases hb
      exact hn _ rfl
  · have freed : nT.isFreed = false := by rw [← hN]; rfl
    refine ⟨fun b o hb => kp b o (fun q => by rw [q, ne] at hb; cases hb) (st1 b o hb), ne, fr.of_keeps fun b o hb hn => ?_, h1.objs.size, nT, _, Heap.get?_update_self _ E2 rfl, st1.fresh, TE,
      (Heap.get?_update_other _ _ (Ne.symm TE)).trans (Heap.get?_push_size h1 freed), by rw [← hN], by simp⟩
    obtain ⟨sl, q⟩ := so.2.2 b o hb
    exact ⟨_, kp b _ (nrec b o hb hn) q, rfl⟩
  · intro b o hb hn
    obtain ⟨sl, q⟩ := so.2.2 b o hb
    exact ⟨sl, kp b _ (nrec b o hb hn) q⟩
theorem fx_note0 {Q : Unit → Shared → Prop} (hfr : A.frames = some (env :: l)) (hf : env.frame = some L) (st : B.StaysIn s.heap) (ne : B.get? e = none) (fr : s.heap.FunFrames B (env :: l))
    (hE : s.heap.get? e = some (exO C t .none)) (k : ∀ h', Fx B (env :: l) e C t (rawInt L) h' → s.heap.UpToSlots h' → Q () { s with heap := h' }) : wpAny M A (noteFrame (.ref e) env) Q E s := by
  unfold noteFrame
  simp only [hf]
  refine wpAny_bind (wpAny_field hE rfl (x := .none) rfl ?_)
  rw [if_neg (by decide)]
  exact fx_enter hfr hf st ne fr hE k
theorem fx_note {Q : Unit → Shared → Prop} (hfr : A.frames = some (env :: l)) (hf : env.frame = some L) (x : Fx B (env :: l) e C t .none s.heap)
    (k : ∀ h', Fx B (env :: l) e C t (rawInt L) h' → s.heap.UpToSlots h' → Q () { s with heap := h' }) : wpAny M A (noteFrame (.ref e) env) Q E s := by
  obtain ⟨st, ne, fr, T, oT, ts, hE, hBT, hTe, hT, hdT, h3⟩ := x
  unfold noteFrame
  simp only [hf]
  refine wpAny_bind (wpAny_field hE rfl (x := .ref T) rfl ?_)
  rw [if_pos (show (Value.ref T != Value.none) = true by simp)]
  refine wpAny_bind (wpAny_field hT hdT h3 ?_)
  rw [if_neg (show ¬ ((Value.none == rawInt L) = true) by simp [rawInt])]
  refine wpAny_bind (wpAny_setField hT hdT (Array.getElem?_eq_some_iff.mp h3).1 ?_)
  have oth : ∀ b, b ≠ T → (s.heap.update T (Obj.mapFields (·.setIfInBounds 3 Value.none))).get? b = s.heap.get? b := fun b hb => Heap.get?_update_other _ _ (Ne.symm hb)
  have nrec : ∀ b o, s.heap.get? b = some o → (∀ vs, o.data ≠ .fields vs) → b ≠ T := fun b o hb hn q => by
    rw [q, hT] at hb
    cases hb
    exact hn ts hdT
  exact fx_enter (s := { s with heap := s.heap.update T (Obj.mapFields (·.setIfInBounds 3 Value.none)) }) hfr hf (fun b o hb => (oth b fun q => by rw [q, hBT] at hb; cases hb).trans (st b o hb)) ne
    (fr.of_keeps fun b o hb hn => ⟨o, (oth b (nrec b o hb hn)).trans hb, rfl⟩) ((oth e (Ne.symm hTe)).trans hE)
    fun h' y u => k h' y fun b o hb hn => u b o ((oth b (nrec b o hb hn)).trans hb) hn
end
open PySem PySem.Spec PyProof.Rows
section
variable {M : Model} {A : Around} {E : Value → Shared → Prop} {s : Shared} {B : Heap} {env : Env} {l : List Env} {e C t L : Addr}
theorem fx_flight {fl : Value} {f : Option Addr} {Q : Unit → Shared → Prop} (x : Fx B l e C t fl s.heap) (k : ∀ h', Fx B l e C t (f.elim Value.none fun f => rawInt f) h' → s.heap.UpToSlots h' → Q () { s with heap := h' }) : wpAny M A (setFlight (.ref e) f) Q E s := by
  obtain ⟨st, ne, fr, T, oT, ts, hE, hBT, hTe, hT, hdT, h3⟩ := x
  have h3s : 3 < ts.size := (Array.getElem?_eq_some_iff.mp h3).1
  unfold setFlight
  refine wpAny_bind (wpAny_field hE rfl (x := .ref T) rfl ?_)
  rw [if_pos (show (Value.ref T != Value.none) = true by simp)]
  refine wpAny_setField hT hdT h3s (k _ ?_ ?_)
  all_goals
    have oth : ∀ b, b ≠ T → (s.heap.update T (Obj.mapFields (·.setIfInBounds 3 (f.elim Value.none fun f => rawInt f)))).get? b = s.heap.get? b := fun b hb => Heap.get?_update_other _ _ (Ne.symm hb)
    have nrec : ∀ b o, s.heap.get? b = some o → (∀ vs, o.data ≠ .fields vs) → b ≠ T := fun b o hb hn q => by
      rw [q, hT] at hb
      cases hb
      exact hn ts hdT
  · refine ⟨fun b o hb => (oth b fun q => by rw [q, hBT] at hb; cases hb).trans (st b o hb), ne, fr.of_keeps fun b o hb hn => ⟨o, (oth b (nrec b o hb hn)).trans hb, rfl⟩, T, _, _, (oth e (Ne.symm hTe)).trans hE, hBT, hTe,
      Heap.get?_update_self _ hT (Obj.isFreed_of_fields (Obj.data_mapFields hdT _)), Obj.data_mapFields hdT _, ?_⟩
    simp [h3s]
  · exact fun b o hb hn => ⟨o.slots, (oth b (nrec b o hb hn)).trans hb⟩
theorem fx_noteN {Q : Unit → Shared → Prop} (hf : env.frame = some L) (x : Fx B l e C t (rawInt L) s.heap) (k : Q () s) : wpAny M A (noteFrame (.ref e) env) Q E s := by
  obtain ⟨st, ne, fr, T, oT, ts, hE, hBT, hTe, hT, hdT, h3⟩ := x
  unfold noteFrame
  simp only [hf]
  refine wpAny_bind (wpAny_field hE rfl (x := .ref T) rfl ?_)
  rw [if_pos (show (Value.ref T != Value.none) = true by simp)]
  refine wpAny_bind (wpAny_field hT hdT h3 ?_)
  rw [if_pos (show ((rawInt L == rawInt L) = true) by simp)]
  exact wpAny_pure k
end
structure Bk (P : Program) (w : World) (outer : List Env) (H : Hp) (h : Heap) (H' : Hp) (B h' : Heap) : Prop where
  ok : HOk P w H' B
  keep : ∀ b o, h.get? b = some o → H b = none → b ∉ frs outer → B.get? b = some o
  slot : ∀ b o, h.get? b = some o → b ∈ frs outer → ∃ sl, h'.get? b = some { o with slots := sl }
  free : ∀ b o, h.get? b = some o → H b = none → H' b = none
  there : ∀ b o, h.get? b = some o → b ∉ frs outer → ∃ o', B.get? b = some o'
  tups : ∀ b xs, H b = some (.tup xs) → H' b = some (.tup xs)
  frzs : ∀ b o u, H b = some (.frz o u) → H' b = some (.frz o u)
  tbls : ∀ b ps, H b = some (.tbl ps) → ∃ more, H' b = some (.tbl (ps ++ more))
theorem Bk.slots {P : Program} {w : World} {outer : List Env} {H H' : Hp} {h B h1 h2 : Heap} (k : Bk P w outer H h H' B h1) (fr : h1.FunFrames B outer) (u : h1.UpToSlots h2) : Bk P w outer H h H' B h2 :=
  ⟨k.ok, k.keep, fun b o q hb => by
    obtain ⟨sl, e⟩ := k.slot b o q hb
    obtain ⟨_, o2, e2, n2⟩ := fr.mem hb
    rw [e] at e2
    cases e2
    obtain ⟨sl2, e3⟩ := u b _ e n2
    exact ⟨sl2, e3⟩, k.free, k.there, k.tups, k.frzs, k.tbls⟩
def CX1 (P : Program) (w : World) : CXT := fun outer H s E e s' => ∃ ea C t H' B, e = .ref ea ∧ Fx B outer ea C t .none s'.heap ∧ s'.os = s.os ∧ AllBare s'.gens ∧ Bk P w outer H s.heap H' B s'.heap ∧ E (.ref C) none H'
inductive Fly (B : Heap) (l : List Env) (L ea C t : Addr) (h : Heap) : Prop where
  | new (st : B.StaysIn h) (ne : B.get? ea = none) (fr : h.FunFrames B l) (ob : h.get? ea = some (exO C t .none))
  | came (x : Fx B l ea C t .none h)
  | seen (x : Fx B l ea C t (rawInt L) h)
theorem Fly.fr {B : Heap} {l : List Env} {L ea C t : Addr} {h : Heap} (x : Fly B l L ea C t h) : h.FunFrames B l := by
  cases x with
  | new st ne fr ob => exact fr
  | came x => exact x.fr
  | seen x => exact x.fr
def FlX (X : Cx) (E : XK) : Value → Shared → Prop := fun e s' => ∃ ea C t H' B, e = .ref ea ∧ Fly B X.stack X.env.locals ea C t s'.heap ∧ s'.os = X.s₀.os ∧ AllBare s'.gens ∧ Bk X.prog X.w X.outer X.H₀ X.s₀.heap H' B s'.heap ∧ E (.ref C) none H'
structure Body (X : Cx) : Prop where
  stack : X.stack = X.env :: X.outer
  frame : X.env.frame = some X.env.locals
  ex : X.ex = []
section
variable {X : Cx} {pins : List (Addr × Obj)} {σ : St} {H : Hp} {s s' : Shared} {E : XK} {e : Value}
theorem Inv.frsN (I : Inv X pins σ H s) {b : Addr} {o : Obj} (q : X.s₀.heap.get? b = some o) (hb : b ∉ X.fs) : b ∉ frs X.stack := fun hm => by
  rcases List.mem_cons.mp (I.stkSub b hm) with z | z
  · rw [z] at q
    exact absurd (Nat.lt_of_lt_of_le (Heap.lt_size q) I.ok.above) (Nat.lt_irrefl _)
  · exact hb z
theorem passX (hB : Body X) (I : Inv X pins σ H s) (c : CX1 X.prog X.w X.stack H s E e s') : FlX X E e s' := by
  obtain ⟨ea, C, t, H', B, rfl, fx, os, bare, bk, q⟩ := c
  have nx : ∀ b : Addr, b ∉ X.ex := fun b z => by rw [hB.ex] at z; exact nomatch z
  have fsS : ∀ b, b ∈ X.fs → b ∈ frs X.stack := fun b hb => by
    rw [hB.stack]; unfold frs; rw [List.filterMap_cons, hB.frame]; exact List.mem_cons_of_mem _ hb
  refine ⟨ea, C, t, H', B, rfl, .came fx, os.trans I.os, bare, ⟨bk.ok, fun b o e n hb => ?_, fun b o e hb => ?_, fun b o e n => ?_, fun b o e hb => ?_, fun b xs e => bk.tups b xs (I.base.tups b xs e), fun b o u e => bk.frzs b o u (I.base.frzs b o u e), fun b ps e => ?_⟩, q⟩
  · exact bk.keep b o (I.base.keep b o e n hb (nx b)) (I.base.free b o e n (nx b)) (I.frsN e hb)
  · obtain ⟨sl, e1⟩ := I.base.slot b o e (I.ok.frf b hb) hb (nx b)
    obtain ⟨sl2, e2⟩ := bk.slot b _ e1 (fsS b hb)
    exact ⟨sl2, e2⟩
  · obtain ⟨o', e1⟩ := I.base.there b o e (nx b)
    exact bk.free b o' e1 (I.base.free b o e n (nx b))
  · obtain ⟨o', e1⟩ := I.base.there b o e (nx b)
    exact bk.there b o' e1 (I.frsN e hb)
  · obtain ⟨m1, e1⟩ := I.base.tbls b ps e
    obtain ⟨m2, e2⟩ := bk.tbls b _ e1
    exact ⟨m1 ++ m2, by rw [e2, Array.append_assoc]⟩
theorem madeX {h' : Heap} {ea C : Addr} {vs : List Value} (hB : Body X) (I : Inv X pins σ H s) (hx : Heap.MadeExcOf s.heap h' ea (.ref C) vs) (q : E (.ref C) none H) : FlX X E (.ref ea) { s with heap := h' } := by
  obtain ⟨t, ht, _, _⟩ := hx.there
  have nx : ∀ b : Addr, b ∉ X.ex := fun b z => by rw [hB.ex] at z; exact nomatch z
  have nfr : ∀ b u, H b = some u → b ∉ frs X.stack := fun b u e hm => by rw [I.stkFree b hm] at e; cases e
  refine ⟨ea, C, t, H, PySem.W.hideAll s.heap (frs X.stack), rfl, .new (fun b o e => hx.keeps b o (PySem.W.of_hideAll _ e)) ?_ ?_ ht, I.os, I.bare, ⟨fun b u e => ?_, fun b o e n hb => ?_, fun b o e hb => ?_, fun b o e n => I.base.free b o e n (nx b), fun b o e hb => ?_, I.base.tups, I.base.frzs, I.base.tbls⟩, q⟩
  · cases z : (PySem.W.hideAll s.heap (frs X.stack)).get? ea with
    | none => rfl
    | some o =>
      have := PySem.W.of_hideAll _ z
      rw [hx.new] at this
      cases this
  · exact (PySem.W.funFrames_hide I.stack fun env he a ha => List.mem_filterMap.mpr ⟨env, he, ha⟩).of_keeps fun b o hb _ => ⟨o, hx.keeps b o hb, rfl⟩
  · refine (I.hok b u e).stay (fun c v hc z => PySem.W.hideAll_get _ z ?_) (fun _ z => z) fun _ _ z => z
    rcases hc with z | z
    · rw [z]; exact nfr b u e
    · exact nfr c _ z
  · exact PySem.W.hideAll_get _ (I.base.keep b o e n hb (nx b)) (I.frsN e hb)
  · obtain ⟨sl, e1⟩ := I.base.slot b o e (I.ok.frf b hb) hb (nx b)
    exact ⟨sl, hx.keeps _ _ e1⟩
  · obtain ⟨o', e1⟩ := I.base.there b o e (nx b)
    exact ⟨o', PySem.W.hideAll_get _ e1 (I.frsN e hb)⟩
theorem noteX {M : Model} {Q : Unit → Shared → Prop} {E' : Value → Shared → Prop} {B : Heap} {ea C t : Addr} (hB : Body X) (hfr : X.A.frames = some X.stack) (x : Fly B X.stack X.env.locals ea C t s.heap)
    (k : ∀ h', Fx B X.stack ea C t (rawInt X.env.locals) h' → s.heap.UpToSlots h' → Q () { s with heap := h' }) : wpAny M X.A (noteFrame (.ref ea) X.env) Q E' s := by
  rw [hB.stack] at x hfr k
  cases x with
  | new st ne fr ob => exact fx_note0 hfr hB.frame st ne fr ob k
  | came x => exact fx_note hfr hB.frame x k
  | seen x => exact fx_noteN hB.frame x (k s.heap x (.refl _))
theorem frs_sub (hB : Body X) {B h : Heap} (x : h.FunFrames B X.stack) : h.FunFrames B X.outer := by
  rw [hB.stack] at x
  exact x.2.2
theorem leaveX {M : Model} {E' : Value → Shared → Prop} (hB : Body X) (hfr : X.A.frames = some X.stack) (c : FlX X E e s) : wpAny M X.A (leaving X.env e) (fun _ s'' => CX1 X.prog X.w X.outer X.H₀ X.s₀ E e s'') E' s := by
  obtain ⟨ea, C, t, H', B, rfl, fx, os, bare, bk, q⟩ := c
  unfold leaving
  refine wpAny_bind (noteX hB hfr fx fun h1 x1 u1 => fx_land (s := { s with heap := h1 }) x1 fun h2 x2 u2 => ?_)
  have x3 := x2
  rw [hB.stack] at x3
  exact ⟨ea, C, t, H', B, rfl, x3.outer, os, bare, bk.slots (frs_sub hB fx.fr) (u1.trans u2), q⟩
end
open PySem PySem.Spec PyProof.Rows
def mroK (K : PySem.W.Frag) (C : Addr) : List Value := match K.lookup C with
  | some ⟨_, _, .cls cd, _⟩ => cd.mro
  | _ => []
theorem exc_obj {K : PySem.W.Frag} {h : Heap} {C : Addr} {bmB : List Value} {nid : String} (X : K.In h) (q : PySem.W.excIn K C bmB nid = true) :
    ∃ bm N nm qn bs hdct sn sub ab col dd k0 k1 k2 k3 k5 mN, mroK K C = .ref C :: bm ∧ h.get? C = some (excClassObj nm qn C N bs bm hdct sn sub ab col dd k0 k1 k2 k3 k5 nid) ∧ h.Ns N mN ∧ mN "__init__" = none ∧ OwnTail h bmB bm := by
  unfold PySem.W.excIn at q
  split at q
  next dd cd sl ho =>
    split at q
    next C' bm k0 k1 k2 k3 n k5 hm hs =>
      have hM : mroK K C = cd.mro := by unfold mroK; rw [ho]
      simp only [Bool.and_eq_true, beq_iff_eq, Bool.not_eq_true'] at q
      obtain ⟨⟨⟨⟨⟨q1, q2⟩, hdel⟩, ht⟩, hok⟩, hni⟩ := q
      subst q1 q2
      have hsl : sl = #[k0, k1, k2, k3, some (.builtin n), k5] := by rw [← hs]
      rw [hm] at hM
      cases cd
      dsimp only at hm hdel hok hni
      subst hm hdel hsl
      exact ⟨bm, _, _, _, _, _, _, _, _, _, dd, k0, k1, k2, k3, k5, _, hM, X _ _ ho, .of_isNs (PySem.W.isNs_of_in X hok), PySem.W.nsMap_none_of_in X hok hni, PySem.W.tail_of_in X ht⟩
    next => cases q
  next => cases q
def tRaise (C : Addr) (E : XK) (t : TA) : TS := fun _ σ H => t σ H fun vs H1 => vs.length ≤ sizeLine ∧ E (.ref C) none H1
section
variable {X : Cx} {x : Str} {C : Addr} {bmB bmN : List Value} {B Bn nid nid' iid iid' : String} {E : XK} {e : Expr} {es : List Expr} {t : TA} {np cpos pos : Pos}
theorem ps_raise (hB : Body X) (hc : X.calm = true) (hw : ∀ e s', FlX X E e s' → X.xe e s') (Fn : ExcBaseFacts Bn nid iid bmN) (hn : bmB.contains (.type Bn) = true) (FB : ExcBaseFacts B nid' iid' bmB) (q : PySem.W.excIn X.K C bmB nid = true) (hg : Gl X x) (hm : X.mg x = some (.ref C)) (ha : PA X.nox (e :: es) t)
    (hd : (x == ("__debug__" : Str)) = false := by decide) (he : starEach (e :: es) X.env = (false, eval e X.env) :: starEach es X.env := by rfl) (hpl : (backTo cpos (starEach es X.env)).any (·.1) = false := by rfl) :
    PS X (.Raise (some (.Call (.Name x np) (e :: es) [] cpos)) none pos) (tRaise C E t) := by
  intro pins s σ H D I h
  obtain ⟨bm, N, nm, qn, bs, hdct, sn, sub, ab, col, dd, k0, k1, k2, k3, k5, mN, _, hC, hN, hni, T⟩ := exc_obj I.ok.mod.kin q
  refine wpAny_Raise_call_subU (N := N) (C := C) (k5 := k5) (k3 := k3) (k2 := k2) (k1 := k1) (k0 := k0) (dd := dd) (col := col) (ab := ab) (sub := sub) (sn := sn) (hdct := hdct) (bs := bs) (q := qn) (nm := nm) (newId := nid) Fn hn FB (mN := mN) (T.hasType FB.hasBase) (I.ok.hd hc) (by rw [he]; show (false || (backTo cpos (starEach es X.env)).any (·.1)) = false; rw [hpl]; rfl) hni (ld_glob I hg hm ⟨rfl, ?_⟩ hd)
  have h1 := ha cpos pins s σ H _ (I.wish _) h
  rw [he] at h1 ⊢
  refine Calls.evalArgs_plain (wpAny_mono h1 (fun us s2 z => ?_) fun _ _ z => z.elim)
  obtain ⟨vs, H1, I1, r, hl, hE⟩ := z
  have I2 : Inv X pins σ H1 s2 := I1.unwish
  exact ⟨rfl, by rw [← r.length]; exact hl, I2.bk _ _ hC, hN.keeps I2.bk, T.keeps I2.bk, fun h' ea hx => hw _ _ (madeX hB I2 hx hE)⟩
end
abbrev cx1 (P : Program) (w : World) (K : PySem.W.Frag) (mg : Str → Option Value) (base : Heap) (N : List Str) (qual : Str) (scope : Scope) (f : Addr) (cd : Value) (A : Around) (outer : List Env) (s : Shared) (H : Hp) (E : XK) : Cx :=
  (cxOf (CX1 P w) P w K mg base N qual scope f cd A outer s H E).wish (FlX (cxOf (CX1 P w) P w K mg base N qual scope f cd A outer s H E) E)
section
variable {P : Program} {w : World} {K : PySem.W.Frag} {mg : Str → Option Value} {base : Heap}
theorem body1 {N : List Str} {qual : Str} {scope : Scope} {f : Addr} {cd : Value} {A : Around} {outer : List Env} {s : Shared} {H : Hp} {E : XK} : Body (cx1 P w K mg base N qual scope f cd A outer s H E) := ⟨rfl, rfl, rfl⟩
theorem Fun.okX {x qual : Str} {st : Stmt} {f : Addr} {fd : FuncData} {N ps : List Str} {k : Nat} {sp : Sp} (F : Fun K x qual st f fd) (S : FnScope N ps (defScope st)) (len : ∀ vs H Q E, sp vs H Q E → vs.length = ps.length)
    (hbody : ∀ (cdv : Value) (A : Around) (outer : List Env) (s : Shared) (H : Hp) (vs : List V) (Q : VK) (E : XK), Room k (A.deeper (envOfC qual (defScope st) s.heap.objs.size f cdv)) → sp vs H Q E →
      ∃ t, PSs (cx1 P w K mg base N qual (defScope st) f cdv A outer s H E) (defBody st) t ∧ t { nx := fun _ H' => Q .non H', rt := Q } (start N vs) H) : FnOk P w K mg base (CX1 P w) (k + 1) f fd ps sp := by
  obtain ⟨oc, od, kV, doc, pm, an, cdv, ct, osl, rfl, lk, hcd⟩ := F.ex
  refine fn_of lk hcd S len fun A outer s H vs Q E hr hsp => ?_
  obtain ⟨t, h, q⟩ := hbody cdv A outer s H vs Q E hr hsp
  refine ⟨t, fun pins s1 σ H1 D I h1 => ?_, q⟩
  exact wpAny_mono (h pins s1 σ H1 D (I.wish _) h1) (fun _ _ z => z.unwish) fun e s' z => leaveX (X := cxOf (CX1 P w) P w K mg base N qual (defScope st) f cdv A outer s H E) ⟨rfl, rfl, rfl⟩ I.ok.frames z
theorem pass1 {N : List Str} {qual : Str} {scope : Scope} {f : Addr} {cd : Value} {A : Around} {outer : List Env} {s : Shared} {H : Hp} {E : XK} :
    Passes (CX1 P w) (cx1 P w K mg base N qual scope f cd A outer s H E) E := fun _ _ _ _ _ _ I c => passX ⟨rfl, rfl, rfl⟩ I.unwish c
end
theorem PS.nox {X : Cx} {st : Stmt} {t : TS} (h : PS X.nox st t) : PS X st t := fun pins s σ H D I hw =>
  wpAny_mono (h pins s σ H D (I.wish _) hw) (fun _ _ q => q.unwish) fun _ _ z => False.elim z
def PEX (X : Cx) (e : Expr) (t : XK → TE) : Prop := ∀ (pins : List (Addr × Obj)) (s : Shared) (σ : St) (H : Hp) (Q : VK) (E : XK), Inv X pins σ H s → t E σ H Q →
  wpAny (model X.prog X.w) X.A (eval e X.env) (EP X pins σ Q) (fun ex s' => ∃ H1 s1, Inv X pins σ H1 s1 ∧ CX1 X.prog X.w X.stack H1 s1 E ex s') s
section
variable {X : Cx} {k : Nat} {f C : Addr} {fd : FuncData} {ps : List Str} {sp : Sp} {dvs : List V} {ds : List Value} {x m : Str} {p pos apos : Pos} {e o : Expr} {es : List Expr} {ta : TE} {t : TA}
theorem run_fnX {pins : List (Addr × Obj)} {σ : St} {H : Hp} {s : Shared} {Q : VK} {E : XK} {us : List Value} {vs : List V} (F : FnOk X.prog X.w X.K X.mg X.base (CX1 X.prog X.w) k f fd ps sp) (hr : Room k X.A) (hb : Binds X.K fd ps ds) (hd : Vals dvs ds)
    (I : Inv X pins σ H s) (r : Vals vs us) (h : sp (vs ++ dvs) H Q E) : wpAny (model X.prog X.w) X.A (call (.ref f) us) (EP X pins σ Q) (fun ex s' => ∃ H1 s1, Inv X pins σ H1 s1 ∧ CX1 X.prog X.w X.stack H1 s1 E ex s') s := by
  have r2 : Vals (vs ++ dvs) (us ++ ds) := r.append hd
  have hl : (us ++ ds).length = ps.length := (r2.length.symm).trans (F.len _ _ _ _ h)
  refine wpAny_call (codeAny_mono (F.run X.A X.stack s H ⟨us, []⟩ (us ++ ds) (vs ++ dvs) Q E hr I.env0 (hb s us I.kIn hl) r2 h) fun rs s' hq => ?_)
  match rs, hq with
  | .error e, hq => exact ⟨H, s, I, hq⟩
  | .ok (.ret u), hq => exact I.after hq
  | .ok .next, hq => exact False.elim hq
  | .ok .brk, hq => exact False.elim hq
  | .ok .cont, hq => exact False.elim hq
theorem pex_call (F : FnOk X.prog X.w X.K X.mg X.base (CX1 X.prog X.w) k f fd ps sp) (hr : Room k X.A) (hg : Gl X x) (hm : X.mg x = some (.ref f)) (hk : PySem.W.keepIn X.K (.ref f) = true) (hb : Binds X.K fd ps ds) (hd : Vals dvs ds)
    (ha : PA X.nox (e :: es) t) (hdb : (x == ("__debug__" : Str)) = false := by decide) (he : starEach (e :: es) X.env = (false, eval e X.env) :: starEach es X.env := by rfl) (hpl : (backTo pos (starEach es X.env)).any (·.1) = false := by rfl) :
    PEX X (.Call (.Name x p) (e :: es) [] pos) fun E => tCall sp dvs E t := by
  intro pins s σ H Q E I h
  refine wpAny_Call_Name_kw (ld_glob I hg hm ?_ hdb)
  refine PySem.W.callWith_K (h₀ := X.base) I.ok.mod.kin hk (wpAny_mono (ha pos pins s σ H _ (I.wish _) h) (fun us s1 ⟨vs, H1, I1, r, q⟩ => ⟨I1.kIn, ?_⟩) fun _ _ z => z.elim) he hpl
  exact run_fnX F hr hb hd (I1.unwish) r q
end
open PySem PySem.Spec PyProof.Rows
def exH (C a : Addr) : HO := .ext fun h => ∃ t tb, h.get? a = some (exO C t tb)
theorem ObjOk.get {P : Program} {w : World} {H : Hp} {h : Heap} {a : Addr} {o : HO} (x : ObjOk P w H h a o) : ∃ u, h.get? a = some u := by
  induction o with
  | lst xs => obtain ⟨_, _, _, _, e⟩ := x; exact ⟨_, e⟩
  | tup xs => obtain ⟨_, _, _, _, e, _⟩ := x; exact ⟨_, e⟩
  | dK kvs => obtain ⟨_, _, _, _, _, _, _, e, _⟩ := x; exact ⟨_, e⟩
  | dT kvs => obtain ⟨_, _, _, _, _, _, _, e, _⟩ := x; exact ⟨_, e⟩
  | set S n => obtain ⟨_, _, _, _, e, _⟩ := x; exact ⟨_, e⟩
  | ins C dx fs => obtain ⟨_, _, _, e, _⟩ := x; exact ⟨_, e⟩
  | own y => obtain ⟨_, e⟩ := x; exact ⟨_, e⟩
  | xd fs => obtain ⟨_, ⟨_, _, _, e, _⟩, _⟩ := x; exact ⟨_, e⟩
  | rng lo hi => obtain ⟨_, _, _, e⟩ := x; exact ⟨_, e⟩
  | frz ob u ih => obtain ⟨e, _⟩ := x; exact ⟨_, e⟩
  | tbl ps => exact ⟨_, x⟩
  | met f y => exact ⟨_, x⟩
  | ext φ => exact x.2.1
section
variable {X : Cx} {pins : List (Addr × Obj)} {σ : St} {H H' : Hp} {s s' : Shared} {B h2 : Heap} {ea C t : Addr} {fl : Value}
theorem Bk.none {P : Program} {w : World} {outer : List Env} {h h' : Heap} (k : Bk P w outer H h H' B h') (ne : B.get? ea = Option.none) : H' ea = Option.none := by
  cases q : H' ea with
  | none => rfl
  | some o =>
    obtain ⟨u, e⟩ := (k.ok ea o q).get
    rw [ne] at e
    cases e
theorem caughtI (I : Inv X pins σ H s) (os : s'.os = s.os) (bare : AllBare s'.gens) (bk : Bk X.prog X.w X.stack H s.heap H' B h2) (fx : Fx B X.stack ea C t fl h2) :
    Inv X pins σ (upd H' ea (exH C ea)) { s' with heap := h2 } := by
  have hn := bk.none fx.ne
  obtain ⟨T, oT, ts, hE, _⟩ := fx.ob
  have ne : ∀ b o, s.heap.get? b = some o → b ≠ ea := fun b o e z => by
    by_cases hb : b ∈ frs X.stack
    · obtain ⟨_, o2, e2, n2⟩ := fx.fr.mem hb
      rw [z, hE] at e2
      cases e2
      exact n2 _ rfl
    · obtain ⟨o', e1⟩ := bk.there b o e hb
      rw [z, fx.ne] at e1
      cases e1
  have nt : ∀ b u, H' b = some u → b ≠ ea := fun b u e z => by
    rw [z, hn] at e
    cases e
  obtain ⟨hh, g, d, tk, os'⟩ := s'
  obtain rfl : os' = s.os := os
  refine I.call (s := s) (h' := h2) (g' := g) (d' := d) (t' := tk) (ch := []) ⟨fun b o e n hb _ => fx.st _ _ (bk.keep b o e n hb), fun b o e n hb _ => bk.slot b o e hb, fun b o e n _ => ?_, fun b o e _ => ?_, fun b xs e => ?_, fun b o u e => ?_, fun b ps e => ?_⟩ (fun b u e => ?_) bare (fun b z => nomatch z)
  · rw [upd_ne (ne b o e)]
    exact bk.free b o e n
  · by_cases hb : b ∈ frs X.stack
    · obtain ⟨sl, e1⟩ := bk.slot b o e hb
      exact ⟨_, e1⟩
    · obtain ⟨o', e1⟩ := bk.there b o e hb
      exact ⟨o', fx.st _ _ e1⟩
  · have e1 := bk.tups b xs e
    rw [upd_ne (nt _ _ e1)]
    exact e1
  · have e1 := bk.frzs b o u e
    rw [upd_ne (nt _ _ e1)]
    exact e1
  · obtain ⟨m1, e1⟩ := bk.tbls b ps e
    exact ⟨m1, by rw [upd_ne (nt _ _ e1)]; exact e1⟩
  · by_cases hb : b = ea
    · subst hb
      rw [upd_same] at e
      cases e
      exact ⟨⟨t, _, hE⟩, ⟨_, hE⟩, fun h1 h3 ⟨t', tb', q⟩ k => ⟨t', tb', k _ q⟩⟩
    · rw [upd_ne hb] at e
      refine (bk.ok b u e).stay (fun c v _ q => fx.st _ _ q) (fun c q => ?_) fun c xs q => ?_
      · rw [upd_ne (nt _ _ q)]; exact q
      · rw [upd_ne (nt _ _ q)]; exact q
abbrev Cx.hdl (X : Cx) (e : Addr) : Cx := { X with A := X.A.mark (some (.ref e)), calm := false, xe := fun _ _ => False }
theorem Inv.hdl (I : Inv X pins σ H s) (e : Addr) : Inv (X.hdl e) pins σ H s :=
  ⟨⟨I.ok.mod, I.ok.kind, I.ok.glob, I.ok.blt, I.ok.above, I.ok.inj, I.ok.has, I.ok.cab, (fun z => nomatch z), I.ok.frames, I.ok.stk, I.ok.exf, I.ok.bs, I.ok.bsz, I.ok.noex, I.ok.exfs, I.ok.funs, I.ok.frf⟩, I.os, I.bare, I.base, I.loc, I.cell, I.free, I.freeC, I.pin, I.hok, I.len⟩
theorem Inv.unhdl {e : Addr} (hd : X.calm = true → X.A.handled = none) (I : Inv (X.hdl e) pins σ H s) : Inv X pins σ H s :=
  ⟨⟨I.ok.mod, I.ok.kind, I.ok.glob, I.ok.blt, I.ok.above, I.ok.inj, I.ok.has, I.ok.cab, hd, I.ok.frames, I.ok.stk, I.ok.exf, I.ok.bs, I.ok.bsz, I.ok.noex, I.ok.exfs, I.ok.funs, I.ok.frf⟩, I.os, I.bare, I.base, I.loc, I.cell, I.free, I.freeC, I.pin, I.hok, I.len⟩
theorem Inv.forget {n : Str} {j : Nat} {m : Str → Option Value} {v : Option Value} {tk : Nat} {h' : Heap} (I : Inv X pins σ H s) (hN : X.N.Nodup) (hj : X.N[j]? = some n) (hn : s.heap.Ns X.env.locals m)
    (hm : ∀ (i : Nat) (x : Str) (v : V), X.N[i]? = some x → σ[i]? = some (some v) → Vis X.env.scope x → ∃ u, RelV v u ∧ Look X.env s.heap m x u) (hn' : h'.Ns X.env.locals (fun x => if x = n then v else m x)) (hs : Heap.SameBut X.env.locals s.heap h') :
    Inv X pins (σ.set j none) H { s with heap := h', toks := tk } := by
  obtain ⟨oL, _, _, hoL, _⟩ := id hn
  have neL : ∀ b o, X.s₀.heap.get? b = some o → b ≠ X.env.locals := fun b o e => Nat.ne_of_lt (Nat.lt_of_lt_of_le (Heap.lt_size e) I.ok.above)
  refine ⟨I.ok, I.os, I.bare, ⟨fun b o e n hb hx => ?_, fun b o e n hb hx => ?_, I.base.free, fun b o e hx => ?_, I.base.tups, I.base.frzs, I.base.tbls⟩, ⟨_, hn', fun i y w e1 e2 e3 => ?_⟩, fun y c e => ?_, I.free, I.freeC, fun p hp => ?_, fun b u e => ?_, by rw [List.length_set]; exact I.len⟩
  · exact (hs.2 b (neL b o e)).trans (I.base.keep b o e n hb hx)
  · obtain ⟨sl, e1⟩ := I.base.slot b o e n hb hx
    exact ⟨sl, (hs.2 b (neL b o e)).trans e1⟩
  · obtain ⟨o', e1⟩ := I.base.there b o e hx
    exact ⟨o', (hs.2 b (neL b o e)).trans e1⟩
  · by_cases hij : i = j
    · subst hij
      rw [List.getElem?_set] at e2
      split at e2
      · split at e2 <;> cases e2
      · exact absurd rfl ‹_›
    · rw [List.getElem?_set_ne (Ne.symm hij)] at e2
      obtain ⟨u, r, l⟩ := hm i y w e1 e2 e3
      refine ⟨u, r, ?_⟩
      rcases l with ⟨k, z⟩ | ⟨k, c, z, y'⟩
      · have : y ≠ n := fun q => hij (nodup_ix hN e1 (q ▸ hj))
        exact .inl ⟨k, by simp [this, z]⟩
      · exact .inr ⟨k, c, z, y'.sameBut hs (I.cne y c z)⟩
  · obtain ⟨v', z⟩ := I.cell y c e
    exact ⟨v', z.sameBut hs (I.cne y c e)⟩
  · obtain ⟨e, n1, n2, nf, d⟩ := I.pin p hp
    exact ⟨(hs.2 p.1 n2).trans e, n1, n2, nf, d⟩
  · refine (I.hok b u e).stay (fun c w' hc q => (hs.2 c ?_).trans q) (fun _ q => q) fun _ _ q => q
    rintro rfl
    rcases hc with z | z
    · rw [← z, I.free] at e; cases e
    · rw [I.free] at z; cases z
end
open PySem PySem.Spec PyProof.Rows
section
variable {M : Model} {A : Around} {E : Value → Shared → Prop} {h : Heap} {g : Array GenState} {d : Drawn} {t : Nat} {os : OsState}
theorem exc_matches {K : PySem.W.Frag} {C D e : Addr} {bC bD : List Value} {nC nD : String} {oe : Obj} {Q : Bool → Shared → Prop} (X : K.In h) (qC : PySem.W.excIn K C bC nC = true) (qD : PySem.W.excIn K D bD nD = true)
    (hb : bD.contains (.type "BaseException") = true) (he : h.get? e = some oe) (hc : oe.cls = .ref C) (hq : Q ((mroK K C).contains (.ref D)) ⟨h, g, d, t, os⟩) : wpAny M A (excMatches (.ref e) (.ref D)) Q E ⟨h, g, d, t, os⟩ := by
  obtain ⟨bm1, _, _, _, _, _, _, _, _, _, _, _, _, _, _, _, _, e1, hC, _, _, T1⟩ := exc_obj X qC
  obtain ⟨bm2, _, _, _, _, _, _, _, _, _, _, _, _, _, _, _, _, _, hD, _, _, T2⟩ := exc_obj X qD
  have hcB : (Value.ref D :: bm2).contains (.type "BaseException") = true := by rw [List.contains_cons, T2.hasType hb, Bool.or_true]
  have f := tc_notTuple
  rw [e1] at hq
  unfold excMatches
  repeat (first | (with_reducible refine wpAny_loadPart_at he ?_; rw [hc]) | with_reducible refine wpAny_loadPart_at hD ?_ | (with_reducible refine wpAny_isSubtype_exc hD ?_; rw [hcB]) | with_reducible refine wpAny_isSubtype_exc hC ?_ | wp_step)
  all_goals (revert hq; cases (Value.ref C :: bm1).contains (Value.ref D) <;> intro hq)
  all_goals (repeat (first | exact hq | wp_step))
end
abbrev WX (X : Cx) (pins : List (Addr × Obj)) (σ : St) (E : XK) : Value → Shared → Prop := fun ex s' => ∃ H1 s1, Inv X pins σ H1 s1 ∧ CX1 X.prog X.w X.stack H1 s1 E ex s'
def PSX (X : Cx) (st : Stmt) (t : XK → TS) : Prop := ∀ (pins : List (Addr × Obj)) (s : Shared) (σ : St) (H : Hp) (D : Ends) (E : XK), Inv X pins σ H s → t E D σ H → wpAny (model X.prog X.w) X.A (exec st X.env) (SP X pins D) (WX X pins σ E) s
def PSXs (X : Cx) (st : List Stmt) (t : XK → TS) : Prop := ∀ (pins : List (Addr × Obj)) (s : Shared) (σ : St) (H : Hp) (D : Ends) (E : XK), Inv X pins σ H s → t E D σ H → wpAny (model X.prog X.w) X.A (execs st X.env) (SP X pins D) (WX X pins σ E) s
section
variable {X : Cx} {e : Expr} {t u : XK → TS} {te : XK → TE} {pos : Pos} {st : Stmt}
theorem psxs_one (h : PSX X st t) : PSXs X [st] t := by
  intro pins s σ H D E I h1
  refine wpAny_execs_cons (thn (h pins s σ H D E I h1) fun f s1 q => ?_)
  match f, q with
  | .next, q => exact wpAny_execs_nil q
  | .brk, q => exact q
  | .cont, q => exact q
  | .ret u, q => exact q
theorem psx_expr (he : PEX X e te) (hs : swapsWith e none pos.line X.env = pure false := by rfl) : PSX X (.Expr e pos) fun E => tDrop (te E) := by
  intro pins s σ H D E I h
  exact wpAny_Expr_any (thn (he pins s σ H _ E I h) fun v s1 ⟨x, H1, I1, r1, q1⟩ => ⟨σ, H1, I1, q1⟩) I.quiet hs
abbrev Ends.un (D : Ends) (j : Nat) : Ends := { nx := fun σ H => D.nx (σ.set j none) H, rt := D.rt, bk := fun σ H => D.bk (σ.set j none) H, ct := fun σ H => D.ct (σ.set j none) H }
def Sub (K : PySem.W.Frag) (C D : Addr) : Prop := (∃ bm nid, PySem.W.excIn K C bm nid = true) ∧ (mroK K C).contains (.ref D) = true
def tTry (K : PySem.W.Frag) (Ch : Addr) (j : Nat) (t : XK → TS) (ts : TS) : TS := fun D σ H => t (fun c _ H' => ∃ C, c = .ref C ∧ Sub K C Ch ∧ ∀ ea, H' ea = none → ts (D.un j) (σ.set j (some (.ref ea))) (upd H' ea (exH C ea))) D σ H
theorem ps_try {body suite : List Stmt} {b₀ : Stmt} {ts : TS} {n x : Str} {j : Nat} {Ch : Addr} {bmB : List Value} {nid : String} {np hpos : Pos} (hB : Body X) (hc : X.calm = true) (hb : PSXs X body t) (hN : X.N.Nodup) (hj : X.N[j]? = some n)
    (hn : X.env.scope.names.lookup n = some .local) (hg : Gl X x) (hm : X.mg x = some (.ref Ch)) (hq : PySem.W.excIn X.K Ch bmB nid = true) (hbs : bmB.contains (.type "BaseException") = true) (hs : ∀ ea, PSs (X.hdl ea) (b₀ :: suite) ts)
    (hd : (x == ("__debug__" : Str)) = false := by decide) :
    PS X (.Try body [.ExceptHandler (some (.Name x np)) (some n) (b₀ :: suite) hpos] [] [] pos) (tTry X.K Ch j t ts) := by
  intro pins s σ H D I h
  refine wpAny_Try_except (wpAny_mono (hb pins s σ H D _ I h) (fun f s1 q => ?_) fun ex s1 z => ?_)
  · match f, q with
    | .next, q => exact wpAny_execs_nil q
    | .brk, q => exact q
    | .cont, q => exact q
    | .ret u, q => exact q
  · obtain ⟨H1, s0, I0, ea, C, t0, H', B, rfl, fx, os, bare, bk, C', eC, ⟨⟨bC, nC, qC⟩, sub⟩, ht⟩ := z
    obtain rfl : C = C' := by cases eC; rfl
    refine noteX hB I.ok.frames (.came fx) fun h1 x1 u1 => fx_land (s := { s1 with heap := h1 }) x1 fun h2 x2 u2 => ?_
    have bk2 := (bk.slots fx.fr u1).slots x1.fr u2
    have I2 : Inv X pins σ (upd H' ea (exH C ea)) { s1 with heap := h2 } := caughtI I0 os bare bk2 x2
    refine wpAny_handleBy_cons (codeAny_handlers_test (ld_glob (X := X.hdl ea) (I2.hdl ea) hg hm ?_ hd)) (by intro q; cases q)
    obtain ⟨T, oT, tt, hE, _⟩ := x2.ob
    refine exc_matches I2.kIn qC hq hbs hE rfl ?_
    rw [sub]
    refine codeAny_handlers_suite_as ?_
    refine fx_land (s := { s1 with heap := h2 }) x2 fun h3 x3 u3 => ?_
    have I3 : Inv X pins σ (upd H' ea (exH C ea)) { s1 with heap := h3 } := caughtI I0 os bare (bk2.slots x2.fr u3) x3
    refine store_ok (X := X.hdl ea) (I3.hdl ea) hN hj (.inl hn) (v := .ref ea) rfl (fun s4 I4 => ?_) (.inr hn)
    refine wpAny_mono (hs ea pins s4 _ _ _ I4 (ht ea (bk.none fx.ne))) (fun f s5 q => ?_) fun _ _ z => z.elim
    have go : ∀ {σ' : St} {H5 : Hp} {Q : Unit → Shared → Prop}, Inv (X.hdl ea) pins σ' H5 s5 → (∀ s6, Inv X pins (σ'.set j none) H5 s6 → Q () s6) → wpAny (model X.prog X.w) X.A (do bindName X.env n .none; unbindBehindTheSuite X.env n hpos) Q X.xe s5 := fun {σ' H5 Q} J k => by
      have J' : Inv X pins σ' H5 s5 := J.unhdl I.ok.hd
      obtain ⟨m, hns, hl⟩ := id J'.loc
      refine wpAny_nameGoes_keeps hn hns (by rw [I.ok.kind]; rfl) fun h6 v hn6 hs6 => k _ ?_
      exact J'.forget hN hj hns hl hn6 hs6
    match f, q with
    | .next, ⟨σ', H5, J, q⟩ => exact go J fun s6 J6 => ⟨_, H5, J6, q⟩
    | .brk, ⟨σ', H5, J, q⟩ => exact go J fun s6 J6 => ⟨_, H5, J6, q⟩
    | .cont, ⟨σ', H5, J, q⟩ => exact go J fun s6 J6 => ⟨_, H5, J6, q⟩
    | .ret u, ⟨v, σ', H5, J, r, q⟩ => exact go J fun s6 J6 => ⟨v, _, H5, J6, r, q⟩
end
open PySem PySem.Spec PyProof.Rows
structure ExC (K : PySem.W.Frag) (C : Addr) : Prop where
  ga : PySem.W.findIn K (.ref C) "__getattribute__" = some (some (.builtin "BaseException.__getattribute__"))
  gt : PySem.W.findIn K (.ref C) "__getattr__" = some none
  cl : PySem.W.findIn K (.ref C) "__class__" = some (some (.builtin "object.__class__"))
  gc : PySem.W.specialIn K (.builtin "object.__class__") "__get__" = some (some (.builtin "getset_descriptor.__get__"))
  tk : PySem.W.takesIn K (.builtin "object.__class__") = some true
  ob : PySem.W.mroIn K C (.type "object") = some true
  be : PySem.W.mroIn K C (.type "BaseException") = some true
  is : (PySem.W.clsIn K C).isSome = true
theorem canon_bga : (Manifest.canonical "BaseException.__getattribute__" != "object.__getattribute__") = false := by decide +kernel
section
variable {prog : Program} {w : World} {A : Around} {E : Value → Shared → Prop} {s : Shared} {K : PySem.W.Frag} {x C t : Addr} {tb : Value}
theorem ex_inst {h : Heap} (hx : h.get? x = some (exO C t tb)) : PySem.W.InstAt h x (exO C t tb) C none := ⟨hx, rfl, rfl, True.intro⟩
theorem ex_meth {m : Str} {f : Addr} {pl : Sem Bool} {Q : Value × List Value → Shared → Prop} (X : K.In s.heap) (hx : s.heap.get? x = some (exO C t tb)) (c : ExC K C) (hf : PySem.W.findIn K (.ref C) m = some (some (.ref f)))
    (ht : PySem.W.isFn K (.ref f) = true) (h : Q (.ref f, [.ref x]) s) : wpAny (model prog w) A (getMethod (.ref x) m pl) Q E s := by
  have I := ex_inst hx
  have hty : PySem.W.typeIn K (.ref f) = some (.type "function") := beq_iff_eq.mp ht
  unfold getMethod specialOf
  refine wpAny_bind (wpAny_bind (I.type.here ((PySem.W.looks_findIn X c.ga).here ?_)))
  dsimp only
  rw [canon_bga, if_neg Bool.false_ne_true]
  refine wpAny_bind (wpAny_bind (I.type.here ((PySem.W.looks_findIn X c.gt).here ?_)))
  refine wpAny_bind (wpAny_bind (I.type.here ((PySem.W.looks_findIn X hf).here (wpAny_bind ((PySem.W.looks_typeIn X hty).here ?_)))))
  rw [if_neg (by decide +kernel)]
  refine wpAny_bind (wpAny_loadPart hx ?_)
  exact wpAny_bind (wpAny_rule (wpAny_pure h))
theorem ex_class {Q : Option Value → Shared → Prop} (X : K.In s.heap) (hx : s.heap.get? x = some (exO C t tb)) (c : ExC K C) (h : Q (some (.ref C)) { s with toks := s.toks + 1 }) : wpAny (model prog w) A (getAttr? (.ref x) "__class__") Q E s := by
  have I := ex_inst hx
  obtain ⟨hh, g, d, tk, os⟩ := s
  have L0 : PySem.W.Looks (model prog w) hh (typeOf (.ref x)) (.ref C) := I.type
  have L1 := PySem.W.looks_findIn (M := model prog w) X c.ga
  have L2 := PySem.W.looks_findIn (M := model prog w) X c.gt
  have hfo : PySem.W.findObj K C none "__class__" = some (.bind (.builtin "getset_descriptor.__get__") (.builtin "object.__class__")) := by
    obtain ⟨cd, hc⟩ := Option.isSome_iff_exists.mp c.is
    unfold PySem.W.findObj
    rw [hc, Option.bind_some, c.cl, Option.bind_some]
    simp [c.gc, c.tk]
  have L3 := PySem.W.looks_find (M := model prog w) X I hfo
  have L4 : PySem.W.Looks (model prog w) hh (isInstance (.ref x) (.type "BaseException")) true := L0.andThen (PySem.W.looks_mroIn X c.be)
  have f3 := F.excAttr_ValueError.ga.bind (.ref x)
  unfold getAttr? getAttrBy? getAttrBy
  refine wpAny_bind (wpAny_mkText (wpAny_bind (wpAny_attempt (wpAny_holding (wpAny_bind (L0.at (wpAny_bind (L1.at ?_))))))))
  show wpAny _ _ (getAttrByItsOwn _ _ _ _ _ _) _ _ _
  unfold getAttrByItsOwn hookBefore
  rw [if_pos (show onTheHeap (Value.ref C) = true from rfl)]
  refine wpAny_bind (L2.at (wpAny_bind (wpAny_attempt (wpAny_holding ?_))))
  unfold callGetattribute
  rw [if_neg (show ¬ ((false && onTheHeap (Value.builtin "BaseException.__getattribute__")) = true) by simp)]
  unfold boundAndCalled
  rw [f3]
  refine wpAny_bind (wpAny_pure (wpAny_call (codeAny_call_builtin F.excAttr_ValueError.ga.plain F.entry_bexc_ga ?_)))
  have hk : builtinKind "BaseException.__getattribute__" = some .slot := by decide +kernel
  have hsp : splitId "BaseException.__getattribute__" = some ("BaseException", "__getattribute__") := by decide +kernel
  have ha := F.args_bexc_ga (.ref x) (.str "__class__" tk)
  simp only [checkBuiltinCall, hk, hsp]
  refine wpAny_bind (L4.at ?_)
  repeat (first | (with_reducible refine wpAny_bind (L0.at (wpAny_bind (L3.at ?_)))) | wp_step)
  refine PySem.W.class_get (s := ⟨hh, g, d, tk + 1, os⟩) (ox := exO C t tb) (od := none) X I c.ob ?_
  exact wpAny_pure (PySem.W.handed_on rfl (wpAny_pure h))
theorem kitx_exc (c : ExC K C) : PySem.W.KitX K (.ref x) (.ref C) (fun h => ∃ t tb, h.get? x = some (exO C t tb)) where
  ty := fun M h _ ⟨t, tb, e⟩ => (ex_inst e).type
  it := fun M h X _ => by
    obtain ⟨cd, hc⟩ := Option.isSome_iff_exists.mp c.is
    unfold PySem.W.clsIn at hc
    split at hc
    next ho =>
      intro A' Q' E' s' k q
      unfold isType loadHead
      exact wpAny_bind (wpAny_loadPart (k _ _ (X _ _ ho)) (wpAny_pure q))
    next => cases hc
  ne := fun h tp dd its n sl X htp => by
    obtain ⟨cd, hc⟩ := Option.isSome_iff_exists.mp c.is
    refine Bool.eq_false_iff.mpr fun q => ?_
    have e : C = tp := Value.ref.inj (beq_iff_eq.mp q)
    subst e
    unfold PySem.W.clsIn at hc
    split at hc
    next ho => cases (X _ _ ho).symm.trans htp
    next => cases hc
  ca := fun X ⟨t, tb, e⟩ k => ex_class X e c k
end
def rIsX (K : PySem.W.Frag) : List V → Hp → VK → Prop := fun vs H Q => ∃ a C b, H a = some (exH C a) ∧ ExC K C ∧
  ((∃ n, vs = [.ref a, .ty n] ∧ PySem.W.kitOne K (.ref C) (.type n) = some b) ∨ (∃ D, vs = [.ref a, .ref D] ∧ PySem.W.kitOne K (.ref C) (.ref D) = some b)) ∧ Q (.bl b) H
section
variable {X : Cx} {K : PySem.W.Frag}
theorem ex_at {pins : List (Addr × Obj)} {σ : St} {H : Hp} {s : Shared} {a C : Addr} (I : Inv X pins σ H s) (e : H a = some (exH C a)) : ∃ t tb, s.heap.get? a = some (exO C t tb) := (I.hok a _ e).1
theorem call_isx (hK : X.K = K := by rfl) : CallR X (.builtin "isinstance") (rIsX K) := by
  subst hK
  intro pins s σ H xs us Q I rv h
  obtain ⟨a, C, b, ea, c, hv, q⟩ := h
  rcases hv with ⟨n, rfl, e⟩ | ⟨D, rfl, e⟩
  · obtain ⟨u1, u2, rfl, r1, r2⟩ := rv.two
    cases r1
    cases r2
    exact PySem.W.kia_one (kitx_exc c) I.kIn (ex_at I ea) e (fun z => nomatch z) fun tk => ⟨.bl b, H, I.tok _, rfl, q⟩
  · obtain ⟨u1, u2, rfl, r1, r2⟩ := rv.two
    cases r1
    cases r2
    exact PySem.W.kia_one (kitx_exc c) I.kIn (ex_at I ea) e (fun z => nomatch z) fun tk => ⟨.bl b, H, I.tok _, rfl, q⟩
variable {CX : CXT} {k : Nat} {ps : List Str} {sp : Addr → Sp} {E : XK} {m : Str} {pos apos : Pos} {o : Expr} {ta : TE}
def tMethX (K : PySem.W.Frag) (m : Str) (sp : Addr → Sp) (E : XK) (ta : TE) : TE := fun σ H Q => ta σ H fun x H1 => ∃ a C, x = .ref a ∧ H1 a = some (exH C a) ∧ sp C [x] H1 Q E
end
open PySem PySem.Spec PyProof.Rows
abbrev vE : List Value := [.type "ValueError", .type "Exception", .type "BaseException", .type "object"]
abbrev vN : String := "ValueError.__new__"
structure Exn (K : PySem.W.Frag) (C : Addr) : Prop where
  q : PySem.W.excIn K C vE vN = true
  c : ExC K C
  ty : PySem.W.typeIn K (.ref C) = some (.type "type")
  ve : PySem.W.mroIn K C (.type "ValueError") = some true
theorem exn_mk {K : PySem.W.Frag} {C : Addr} (q : PySem.W.excIn K C vE vN = true) (ga : PySem.W.findIn K (.ref C) "__getattribute__" = some (some (.builtin "BaseException.__getattribute__"))) (gt : PySem.W.findIn K (.ref C) "__getattr__" = some none)
    (cl : PySem.W.findIn K (.ref C) "__class__" = some (some (.builtin "object.__class__"))) (gc : PySem.W.specialIn K (.builtin "object.__class__") "__get__" = some (some (.builtin "getset_descriptor.__get__"))) (tk : PySem.W.takesIn K (.builtin "object.__class__") = some true)
    (ob : PySem.W.mroIn K C (.type "object") = some true) (be : PySem.W.mroIn K C (.type "BaseException") = some true) (is : PySem.W.isClsIn K C = true) (ty : PySem.W.typeIn K (.ref C) = some (.type "type")) (ve : PySem.W.mroIn K C (.type "ValueError") = some true) : Exn K C :=
  ⟨q, ⟨ga, gt, cl, gc, tk, ob, be, is⟩, ty, ve⟩
theorem has_base : vE.contains (.type "BaseException") = true := by decide
theorem has_ve : vE.contains (.type "ValueError") = true := by decide
theorem Exn.sub {K : PySem.W.Frag} {C D : Addr} (x : Exn K C) (r : PySem.W.mroIn K C (.ref D) = some true) : Sub K C D := by
  refine ⟨⟨_, _, x.q⟩, ?_⟩
  obtain ⟨cd, h1, h2⟩ := Option.bind_eq_some_iff.mp r
  unfold PySem.W.clsIn at h1
  unfold mroK
  split at h1
  next c d cd' sl ho =>
    cases h1
    rw [ho]
    split at h2
    · cases h2
    · exact Option.some.inj h2
  next => cases h1
theorem kit_ref {K : PySem.W.Frag} {C D : Addr} {b : Bool} (hC : PySem.W.mroIn K C (.ref C) = some true) (x : Exn K D) (r : PySem.W.mroIn K C (.ref D) = some b) : PySem.W.kitOne K (.ref C) (.ref D) = some b := by
  unfold PySem.W.kitOne
  by_cases q : (Value.ref C == Value.ref D) = true
  · rw [if_pos q]
    have e : C = D := Value.ref.inj (beq_iff_eq.mp q)
    subst e
    rw [hC] at r
    exact r
  · rw [if_neg q]
    unfold PySem.W.kitCls
    have h : ((PySem.W.clsIn K D).isSome && PySem.W.typeIn K (.ref D) == some (.type "type")) = true := by rw [x.c.is, x.ty]; rfl
    show (if _ then _ else _) = _
    rw [if_pos h]
    exact r
section
variable {X : Cx} {CX : CXT} {k : Nat} {C f : Addr} {fd : FuncData} {ps : List Str} {sp : Sp} {E : XK} {m : Str} {pos apos : Pos} {o : Expr} {ta : TE}
def tMethE (C : Addr) (sp : Sp) (E : XK) (ta : TE) : TE := fun σ H Q => ta σ H fun x H1 => ∃ a, x = .ref a ∧ H1 a = some (exH C a) ∧ sp [x] H1 Q E
theorem pe_methE {pl : Sem Bool} (he : PE X o ta) (c : ExC X.K C) (hm : Meth X.K C m f) (F : FnOk X.prog X.w X.K X.mg X.base CX k f fd ps sp) (hr : Room k X.A) (hb : Binds X.K fd ps []) (hx : Passes CX X E)
    (ht : eval (.Call (.Attribute o m apos) [] [] pos) X.env = (do
      let ov ← eval o X.env
      standAt apos.atName
      let (f, first) ← holding [ov] (getMethod ov m pl)
      callWith pos f first (backTo pos (starEach [] X.env)) (backToKw pos (keywordEach [] X.env))) := by rfl) :
    PE X (.Call (.Attribute o m apos) [] [] pos) (tMethE C sp E ta) := by
  intro pins s σ H Q I h
  refine PySem.W.methodCall_KW (pl := pl) (thn (he pins s σ H _ I h) fun u s1 ⟨x, H1, I1, rx, a, ex, ea, q⟩ => ?_) ht
  subst ex
  obtain rfl : u = Value.ref a := rx
  obtain ⟨t, tb, e1⟩ := ex_at I1 ea
  refine ex_meth I1.kIn e1 c hm.at_ hm.fn ?_
  exact PySem.W.callWith_K0 (first := [.ref a]) I1.kIn hm.kp (run_fn (us := [.ref a]) (vs := [.ref a]) (dvs := []) F hr hb .nil hx I1 (.cons rfl .nil) q)
end
def clsBody (s : Stmt) : List Stmt := match s with
  | .ClassDef _ _ _ b _ _ _ _ _ _ _ => b
  | _ => []
structure Mf (K : PySem.W.Frag) (x q : Str) (st : Stmt) (ps : List Str) (C f : Addr) (fd : FuncData) : Prop where
  F : Fun K x q st f fd
  m : Meth K C x f
  b : Binds K fd ps []
open PySem PySem.Spec PyProof.Rows
open Builtin Builtin.Str
def cutT (u : List Nat) (lo hi : Option Int) : List Nat := (u.drop (HT.sIx u.length 0 lo)).take (HT.sIx u.length u.length hi - HT.sIx u.length 0 lo)
theorem rng_eq (a b : Nat) : sliceRange (a : Int) (b : Int) 1 = (List.range (b - a)).map fun k => a + k := by
  unfold sliceRange
  simp only [show (1 : Int) > 0 by decide, if_true]
  by_cases h : (a : Int) < (b : Int)
  · rw [if_pos h, Int.ediv_one, show (b : Int) - (a : Int) + 1 - 1 = ((b - a : Nat) : Int) by omega, Int.toNat_natCast]
    exact List.map_congr_left fun k _ => by omega
  · rw [if_neg h, show b - a = 0 by omega]
    rfl
theorem clip_some (n d : Nat) (i : Int) : max 0 (min (if i < 0 then i + (n : Int) else i) (n : Int)) = (HT.sIx n d (some i) : Int) := by
  show _ = (((if i < 0 then (i + (n : Int)).toNat else min i.toNat n) : Nat) : Int)
  by_cases h : i < 0
  · rw [if_pos h, if_pos h]; omega
  · rw [if_neg h, if_neg h]; omega
theorem idx_eq (n : Nat) (lo hi : Option Int) : strSliceIndices lo hi 1 n = (List.range (HT.sIx n n hi - HT.sIx n 0 lo)).map fun k => HT.sIx n 0 lo + k := by
  rw [← rng_eq]
  cases lo with
  | none =>
    cases hi with
    | none => rfl
    | some j => rw [← clip_some]; rfl
  | some i =>
    cases hi with
    | none => rw [← clip_some n 0 i]; rfl
    | some j => rw [← clip_some n 0 i, ← clip_some n n j]; rfl
theorem tx_slice (u : List Nat) (lo hi : Option Int) : Txt.slice (tx u) lo hi = tx (cutT u lo hi) := by
  unfold Txt.slice cutT
  rw [tx_len, idx_eq]
  have hle : HT.sIx u.length u.length hi ≤ u.length := HT.sIx_le _ _ (Nat.le_refl _) _
  have key : ∀ (a k : Nat), a + k ≤ u.length → ((List.range k).map fun j => a + j).filterMap (fun i => (tx u).cps[i]?) = (u.drop a).take k := by
    intro a k
    induction k with
    | zero => intro _; simp
    | succ k ih =>
      intro h
      rw [List.range_succ, List.map_append, List.filterMap_append, ih (by omega)]
      have : a + k < u.length := by omega
      simp only [List.map_cons, List.map_nil, List.filterMap_cons, List.filterMap_nil, tx_get, List.getElem?_eq_getElem this]
      rw [List.take_succ, List.getElem?_drop, List.getElem?_eq_getElem this]
      rfl
  split
  next h =>
    simp only [List.length_map, List.length_range, Bool.and_eq_true, beq_iff_eq] at h
    have h2 := h.2
    have : HT.sIx u.length 0 lo = 0 ∨ u.length = 0 := by omega
    rcases this with e | e
    · rw [e, List.drop_zero, List.take_of_length_le (by omega)]
    · rw [List.eq_nil_of_length_eq_zero e]; simp
  next h =>
    by_cases hlt : HT.sIx u.length 0 lo ≤ HT.sIx u.length u.length hi
    · show (Str.mk _) = _
      rw [key _ _ (by omega)]
      rfl
    · have e : HT.sIx u.length u.length hi - HT.sIx u.length 0 lo = 0 := by omega
      rw [e]
      simp [tx]
theorem cut_to {u : List Nat} {k : Nat} (h : k ≤ u.length) : cutT u none (some (k : Int)) = u.take k := by
  unfold cutT
  rw [HT.sIx_none, HT.sIx_nat, List.drop_zero, Nat.min_eq_left h, Nat.sub_zero]
section
variable {X : Cx}
theorem sl_str : SlR X (fun x lo hi H Q => ∃ u : List Nat, x = .str (tx u) ∧ u.length ≤ sizeLine ∧ Q (.str (tx (cutT u lo hi))) H) := by
  intro pins s σ H x v vl vu lo hi sl Q I rx hs pl pu h
  obtain ⟨u, rfl, hz, q⟩ := h
  obtain ⟨t, rfl⟩ := rx
  rw [← tx_slice] at q
  refine ⟨"str", _, F.slot_str_getitem.lookup, typeIs_str _ _ _, ?_⟩
  have hsz : (tx u).length ≤ sizeLine := by rw [tx_len]; exact hz
  obtain ⟨os, hos, hcs, hds⟩ := id hs
  have fin : ∀ (l u' : Option (Int × Tok)), s.heap.IsSlice sl l u' none → Q (.str (Txt.slice (tx u) (l.map (·.1)) (u'.map (·.1)))) H → wpAny (model X.prog X.w) X.A (getItem (.str (tx u) t) (.ref sl)) (EP X pins σ Q) X.xe s := fun l u' z q' =>
    wpAny_getItem_str_slice z rfl (post_val_or_str ⟨Nat.le_trans (Txt.slice_le (tx u) _ _) hsz, fun t' k => ⟨.str _, H, I.tok _, ⟨t', rfl⟩, q'⟩⟩)
  cases pl with
  | none => cases pu with
    | none => exact fin none none ⟨os, hos, hcs, hds⟩ q
    | int j tj => exact fin none (some (j, tj)) ⟨os, hos, hcs, hds⟩ q
  | int i ti => cases pu with
    | none => exact fin (some (i, ti)) none ⟨os, hos, hcs, hds⟩ q
    | int j tj => exact fin (some (i, ti)) (some (j, tj)) ⟨os, hos, hcs, hds⟩ q
end
open PySem PySem.Spec PyProof.Rows
def rngO (p : Addr) (a b c : Int) : HO := .ext fun h => ∃ t u v, IsRange h p a b c t u v
def rngL (a c : Int) (n : Nat) : List Int := (List.range n).map fun (i : Nat) => a + (i : Int) * c
section
variable {X : Cx} {K : PySem.W.Frag}
theorem call_intT : CallR X (.type "int") (fun xs H Q => ∃ z n, xs = [.str z] ∧ PySem.intText? z = some n ∧ z.length ≤ 640 ∧ Q (.int n) H) := by
  intro pins s σ H xs us Q I rv h
  obtain ⟨z, n, rfl, hn, hl, q⟩ := h
  obtain ⟨u, rfl, t, rfl⟩ := rv.one
  exact PySem.W.KIN.call_text hn hl ⟨.int n, H, I.tok _, ⟨_, rfl⟩, q⟩
end
open PySem PySem.Spec PyProof.Rows
section
variable {X : Cx} {K : PySem.W.Frag} {o e value : Expr} {f : Str} {pos pos' tpos : Pos} {ta tv : TE} {st : Stmt} {t : TS}
theorem pe_fldK (he : PE X e ta) (hb : attributeBase e f X.env (eval e X.env) = eval e X.env) (hK : X.K = K := by rfl) : PE X (.Attribute e f pos) (tFld K ta f) := by subst hK; exact pe_fld he hb
theorem ps_fldK (ha : PE X o ta) (hv : PE X value tv) (hs : swapsWith value (some (.Attribute o f pos')) pos.line X.env = pure false := by rfl) (hK : X.K = K := by rfl) : PS X (.Assign [.Attribute o f pos'] value pos) (sFld K ta tv f) := by subst hK; exact ps_fld ha hv hs
theorem ps_fldaugK {op : Operator} {rd : V → V → Hp → VK → Prop} (ha : PE X o ta) (hv : PE X value tv) (hop : InOp X op rd) (hK : X.K = K := by rfl) : PS X (.AugAssign (.Attribute o f tpos) op value pos) (sFldAug K ta tv rd f) := by subst hK; exact ps_fldaug ha hv hop
end
structure Own (K : PySem.W.Frag) (C f : Addr) : Prop where
  c : Cls K C
  m : Mk K C f
theorem own_mk {K : PySem.W.Frag} {C f : Addr} (h1 : PySem.W.plainGet K C Str.empty = true) (h2 : PySem.W.hasDictIn K C = true) (h3 : PySem.W.plainOver K C = true) (h4 : PySem.W.findIn K (.ref C) "__setattr__" = some (some (.builtin "object.__setattr__")))
    (h5 : PySem.W.makesIn K C = true) (h6 : PySem.W.findIn K (.ref C) "__init__" = some (some (.ref f))) (h7 : PySem.W.isFn K (.ref f) = true) (h8 : PySem.W.keepIn K (.ref C) = true) : Own K C f := ⟨⟨h1, h2, h3, h4⟩, ⟨h5, h6, h7, h8⟩⟩
open PySem PySem.Spec PyProof.Rows
section
variable {X : Cx} {tg : Expr}
def iRng2L (ta : TA) : TI := fun σ H R => ta σ H fun vs H1 => ∃ i j : Int, vs = [.int i, .int j] ∧ R (Itr i (j - i).toNat) H1
end
section
variable {X : Cx}
theorem rep_fold (l : List Nat) : ∀ (k : Nat) (acc : List Nat), List.foldl (fun x1 x2 => x1 ++ x2) acc.toArray (List.replicate k l.toArray) = (acc ++ (List.replicate k l).flatten).toArray
  | 0, acc => by simp
  | k + 1, acc => by
    have e : acc.toArray ++ l.toArray = (acc ++ l).toArray := by simp
    have e2 : (acc ++ l) ++ (List.replicate k l).flatten = acc ++ (List.replicate (k + 1) l).flatten := by
      rw [List.replicate_succ, List.flatten_cons, List.append_assoc]
    rw [← e2, ← rep_fold l k (acc ++ l), ← e, List.replicate_succ, List.foldl_cons]
def rRepS : R2 := fun x y H Q => ∃ u n, x = .str (tx u) ∧ y = .int n ∧ 0 ≤ n ∧ n ≤ 1000000 ∧ u.length * n.toNat ≤ sizeLine ∧ Q (.str (tx (List.replicate n.toNat u).flatten)) H
theorem op_repS : OpR X (binaryOp .Mult) rRepS := by
  intro pins s σ H x y v z Q I rx ry h
  obtain ⟨u, n, rfl, rfl, h0, h1, h2, q⟩ := h
  obtain ⟨t, rfl⟩ := rx
  obtain ⟨t', rfl⟩ := ry
  have hsz : sizeLine = 16777216 := sizeLine_eq
  have hlen : (tx u).length = u.length := tx_len u
  refine P.mul_str ?_ (fun c1 c2 => ?_) (fun c1 c2 => ?_) ?_
  · rw [decide_eq_false (by omega), decide_eq_false (by omega)]
    rfl
  · rw [hlen]
    have hn : 0 < n := by omega
    have hm : (u.length : Int) * n ≤ 16777216 := by
      have e : n = (n.toNat : Int) := by omega
      rw [e, ← Int.natCast_mul]
      omega
    have : (u.length : Int) ≤ (2 ^ 63 - 1) / n := (Int.le_ediv_iff_mul_le hn).mpr (by omega)
    omega
  · rw [hlen]
    exact decide_eq_false (by omega)
  · split
    · next c =>
      have e : n = 0 := by omega
      rw [e] at q
      exact ⟨by decide, .str (tx []), H, I.tok _, ⟨_, rfl⟩, q⟩
    · split
      · next c =>
        have e : tx (List.replicate n.toNat u).flatten = tx u := by
          simp only [Bool.or_eq_true, beq_iff_eq] at c
          rcases c with c | c
          · rw [c]; simp
          · rw [hlen] at c
            rw [List.eq_nil_of_length_eq_zero c]
            simp
        rw [e] at q
        exact ⟨.str (tx u), H, I, ⟨_, rfl⟩, q⟩
      · have hf : (⟨(List.replicate n.toNat (tx u).cps).foldl (· ++ ·) #[]⟩ : Str) = tx (List.replicate n.toNat u).flatten := by
          have := rep_fold u n.toNat []
          simp only [List.nil_append] at this
          exact congrArg Str.mk this
        rw [hf]
        refine ⟨?_, .str (tx (List.replicate n.toNat u).flatten), H, I.tok _, ⟨_, rfl⟩, q⟩
        rw [tx_len, len_rep, Nat.mul_comm]
        exact h2
def rCount : V → List V → Hp → VK → Prop := fun x vs H Q => ∃ u c, x = .str (tx u) ∧ vs = [.str ⟨#[c]⟩] ∧ Q (.int (u.count c : Nat)) H
end
open PySem PySem.Spec PyProof.Rows
section
variable {X : Cx} {K : PySem.W.Frag}
def rIsXT (K : PySem.W.Frag) : List V → Hp → VK → Prop := fun vs H Q => ∃ (a C p : Addr) (Ds : List Addr) (b : Bool), vs = [.ref a, .ref p] ∧ H a = some (exH C a) ∧ ExC K C ∧ H p = some (.tup (Ds.map V.ref)) ∧ PySem.W.kitAny K (.ref C) (Ds.map Value.ref) = some b ∧ Q (.bl b) H
end
open PySem PySem.Spec PyProof.Rows
theorem passF {P : Program} {w : World} {X : Cx} : Passes (CX1 P w) X (fun _ _ _ => False) := fun _ _ _ _ _ _ _ c => by
  obtain ⟨_, _, _, _, _, _, _, _, _, _, q⟩ := c
  exact q.elim
section
variable {X : Cx} {K : PySem.W.Frag}
def rNeL (K : PySem.W.Frag) : R2 := fun x y H Q => ∃ p q xs ys, x = .ref p ∧ y = .ref q ∧ SqL K H p xs ∧ SqL K H q ys ∧ xs.all flatV = true ∧ ys.all flatV = true ∧ Q (.bl (!eqL xs ys)) H
end
open PySem PySem.Spec PyProof.Rows
def SamL (K : PySem.W.Frag) (H : Hp) (p q : Addr) : Prop := ∃ as bs : List Addr, SqL K H p (as.map V.ref) ∧ SqL K H q (bs.map V.ref) ∧ as.length = bs.length ∧
  ∀ (i : Nat) (a b : Addr), as[i]? = some a → bs[i]? = some b → ∃ xs : List V, xs.all flatV = true ∧ SqL K H a xs ∧ SqL K H b xs
section
variable {X : Cx} {K : PySem.W.Frag}
def rNeLL (K : PySem.W.Frag) : R2 := fun x y H Q => ∃ p q, x = .ref p ∧ y = .ref q ∧ SamL K H p q ∧ Q (.bl false) H
def rEqLL (K : PySem.W.Frag) : R2 := fun x y H Q => ∃ p q, x = .ref p ∧ y = .ref q ∧ SamL K H p q ∧ Q (.bl true) H
end
open PySem PySem.Spec PyProof.Rows
section
variable {X : Cx} {CX CX' : CXT} {k k' : Nat} {f f' C C' : Addr} {fd fd' : FuncData} {ps ps' : List Str} {sp sp' : Sp} {E : XK} {m : Str} {pos apos : Pos} {o : Expr} {ta : TE}
def tMethD (C C' : Addr) (m : Str) (sp sp' : Sp) (E : XK) (ta : TE) : TE := fun σ H Q => ta σ H fun x H1 => ∃ a dx fs, x = .ref a ∧ fs.lookup m = none ∧
  ((H1 a = some (.ins C dx fs) ∧ sp [x] H1 Q E) ∨ (H1 a = some (.ins C' dx fs) ∧ sp' [x] H1 Q E))
end
open PySem PySem.Spec PyProof.Rows
def vB (bs : List Bool) : List V := bs.map V.bl
theorem vB_len (bs : List Bool) : (vB bs).length = bs.length := by unfold vB; rw [List.length_map]
theorem vB_app (bs : List Bool) (b : Bool) : vB bs ++ [.bl b] = vB (bs ++ [b]) := by unfold vB; rw [List.map_append]; rfl
theorem vals_bools {bs : List Bool} : ∀ {us : List Value}, Vals (bs.map V.bl) us → us = bs.map Value.bool := by
  induction bs with
  | nil => intro us r; rw [List.map_nil] at r; cases r; rfl
  | cons n ns ih =>
    intro us r
    rw [List.map_cons] at r
    cases r with
    | cons r1 r2 =>
      cases r1
      rw [ih r2]
      rfl
theorem any_range (bs : List Bool) : (List.range bs.length).any (fun i => bs.getD i false) = bs.any id := by
  rw [Bool.eq_iff_iff, List.any_eq_true, List.any_eq_true]
  constructor
  · rintro ⟨i, hi, h⟩
    have hl := List.mem_range.mp hi
    refine ⟨bs[i], List.getElem_mem hl, ?_⟩
    rw [List.getD_eq_getElem?_getD, List.getElem?_eq_getElem hl] at h
    exact h
  · rintro ⟨b, hb, h⟩
    obtain ⟨i, hi, e⟩ := List.getElem_of_mem hb
    refine ⟨i, List.mem_range.mpr hi, ?_⟩
    rw [List.getD_eq_getElem?_getD, List.getElem?_eq_getElem hi, e]
    exact h
section
variable {X : Cx} {K : PySem.W.Frag}
theorem call_anyB (hK : X.K = K := by rfl) (hc : X.calm = true := by rfl) : CallR X (.builtin "any") (fun xs H Q => ∃ a bs, xs = [.ref a] ∧ SqL K H a (vB bs) ∧ Q (.bl (bs.any id)) H) := by
  subst hK
  intro pins s σ H xs us Q I rv h
  obtain ⟨a, bs, rfl, hq, q⟩ := h
  obtain ⟨u, rfl, ru⟩ := rv.one
  cases ru
  obtain ⟨its, r, pl, hl⟩ := I.list hq
  have ei := vals_bools (bs := bs) r
  subst ei
  obtain ⟨o, eo, _⟩ := id pl.isList
  have alt := Heap.lt_size eo
  refine call_any_walk (wpAny_pyIter_list pl.isList ?_)
  refine ⟨_, _, _, _, _, _, fun i => bs.getD i false, rfl, Walks.list (A := X.A.in1) (I.ok.hd hc) _ a (Nat.ne_of_lt alt) (bs.map Value.bool).toArray, ⟨⟨_, Heap.get?_push_size _ rfl, rfl, rfl⟩, pl.isList.push _⟩, ?_, fun h' tk hk => ?_⟩
  · intro i v s' Q' E' hP hQ
    have hv : (bs.map Value.bool)[i]? = some v := by simpa using hP
    rw [List.getElem?_map] at hv
    cases e : bs[i]? with
    | none => rw [e] at hv; cases hv
    | some b =>
      rw [e] at hv
      cases hv
      have eb : bs.getD i false = b := by rw [List.getD_eq_getElem?_getD, e]; rfl
      have hQ' : Q' (bs.getD i false) s' := hQ
      rw [eb] at hQ'
      exact wpAny_truthy_bool hQ'
  · have e1 : (List.range ((bs.map Value.bool).toArray).size).any (fun i => bs.getD i false) = bs.any id := by
      rw [List.size_toArray, List.length_map]
      exact any_range bs
    rw [e1]
    refine ⟨.bl (bs.any id), H, I.kept (t' := tk) (fun b ob e => hk b ob ?_ (Heap.get?_push_of_some _ e)), rfl, q⟩
    have lt := Heap.lt_size e
    intro hm
    rw [List.mem_singleton.mp hm] at lt
    exact Nat.lt_irrefl _ lt
end
open PySem PySem.Spec PyProof.Rows
section
variable {X : Cx} {K : PySem.W.Frag}
end
open PySem PySem.Spec PyProof.Rows
structure ClsF (K : PySem.W.Frag) (C : Addr) (m : Str) (f : Addr) : Prop where
  rd : PySem.W.readsIn K C (.type "type") = true
  fi : PySem.W.findCls K (.ref C) (.type "type") m = some (.val (.ref f))
  ha : PySem.W.handedIn (.ref f) = true
  sp : PySem.W.specialIn K (.ref C) "__getattribute__" = some (some (.builtin "type.__getattribute__"))
  kp : PySem.W.keepIn K (.ref f) = true
def tClsM (C : Addr) (sp : Sp) (dvs : List V) (E : XK) (ta : TE) (t : TA) : TE := fun σ H Q => ta σ H fun x H1 => x = .ref C ∧ t σ H1 fun vs H2 => sp (vs ++ dvs) H2 Q E
section
variable {X : Cx} {CX : CXT} {k : Nat} {f C : Addr} {fd : FuncData} {ps : List Str} {sp : Sp} {dvs : List V} {ds : List Value} {E : XK} {m : Str} {pos apos : Pos} {e o : Expr} {es : List Expr} {ta : TE} {t : TA}
theorem pe_clsM {pl : Sem Bool} (he : PE X o ta) (M : ClsF X.K C m f) (F : FnOk X.prog X.w X.K X.mg X.base CX k f fd ps sp) (hr : Room k X.A) (hb : Binds X.K fd ps ds) (hd : Vals dvs ds) (hx : Passes CX X E) (ha : PA X (e :: es) t)
    (hst : starEach (e :: es) X.env = (false, eval e X.env) :: starEach es X.env := by rfl) (hpl : (backTo pos (starEach es X.env)).any (·.1) = false := by rfl)
    (ht : eval (.Call (.Attribute o m apos) (e :: es) [] pos) X.env = (do
      let ov ← eval o X.env
      standAt apos.atName
      let (f, first) ← holding [ov] (getMethod ov m pl)
      callWith pos f first (backTo pos (starEach (e :: es) X.env)) (backToKw pos (keywordEach [] X.env))) := by rfl) :
    PE X (.Call (.Attribute o m apos) (e :: es) [] pos) (tClsM C sp dvs E ta t) := by
  intro pins s σ H Q I h
  refine PySem.W.methodCall_KW (pl := pl) (thn (he pins s σ H _ I h) fun u s1 ⟨x, H1, I1, rx, ex, q⟩ => ?_) ht
  subst ex
  obtain rfl : u = Value.ref C := rx
  refine PySem.W.method_cls I1.kIn M.sp (PySem.W.cls_value I1.kIn M.rd M.fi M.ha ?_)
  refine PySem.W.callWith_K (first := []) (h₀ := X.base) I.ok.mod.kin M.kp (thn (ha pos pins _ σ H1 _ (I1.tok (s1.toks + 1)) q) fun us s2 ⟨vs, H2, I2, r, q2⟩ => ⟨I2.kIn, ?_⟩) hst hpl
  exact run_fn (us := us) (vs := vs) F hr hb hd hx I2 r q2
end
open PySem PySem.Spec PyProof.Rows
section
variable {κ : Type} [DecidableEq κ]
def valV (kvs : List (κ × V)) (k : κ) : Option V := (kvs.find? fun kv => decide (kv.1 = k)).map (·.2)
def putK (kvs : List (κ × V)) (k : κ) (v : V) : List (κ × V) :=
  if (kvs.any fun kv => decide (kv.1 = k)) = true then kvs.map (fun kv => if kv.1 = k then (kv.1, v) else kv) else kvs ++ [(k, v)]
def dropK (kvs : List (κ × V)) (k : κ) : List (κ × V) := kvs.filter fun kv => decide (kv.1 ≠ k)
end
abbrev KT (H : Hp) : List (List Key × V) → List (List Key × Addr × Value) → Prop := Paired fun p q => p.1 = q.1 ∧ H q.2.1 = some (.tup (p.1.map kV)) ∧ RelV p.2 q.2.2
section
variable {P : Program} {w : World} {H : Hp} {h : Heap} {a : Addr}
end
def DGet (H : Hp) (a : Addr) (y : V) (r : Option V) : Prop :=
  (∃ kvs k, Rd H a (.dK kvs) ∧ y = kV k ∧ r = valV kvs k) ∨ ∃ kvs k b, Rd H a (.dT kvs) ∧ y = .ref b ∧ H b = some (.tup (k.map kV)) ∧ r = valV kvs k
def DPut (H : Hp) (a : Addr) (y v : V) (H' : Hp) : Prop :=
  (∃ kvs k, H a = some (.dK kvs) ∧ y = kV k ∧ kvs.length < sizeLine ∧ H' = upd H a (.dK (putK kvs k v))) ∨
  ∃ kvs k b, H a = some (.dT kvs) ∧ y = .ref b ∧ H b = some (.tup (k.map kV)) ∧ kvs.length < sizeLine ∧ H' = upd H a (.dT (putK kvs k v))
section
variable {X : Cx} {pins : List (Addr × Obj)} {σ : St} {H : Hp} {s : Shared} {a : Addr} {y v : V} {u r : Value} {o : Option V} {A : Around} {E : Value → Shared → Prop}
end
section
variable {X : Cx} {pins : List (Addr × Obj)} {σ : St} {H : Hp} {s : Shared} {a : Addr} {kvs : List (Key × V)} {k : Key} {u : Value} {A : Around} {E : Value → Shared → Prop}
end
def NoSl (i : Expr) : Prop := ∀ ov iv, subscripted i false ov iv = operate [ov, iv] (getItem ov iv)
theorem subD_of {prog : Program} {w : World} {A : Around} {E : Value → Shared → Prop} {s : Shared} {env : Env} {value slice : Expr} {pos : Pos} {T id : String} {Q : Value → Shared → Prop}
    (hl : typeLookup (.type T) "__getitem__" = pure (some (.builtin id))) (hs : NoSl slice)
    (h : wpAny (model prog w) A (eval value env) (fun o s₁ => wpAny (model prog w) A (eval slice env) (fun i s₂ => s₂.TypeIs o T ∧ wpAny (model prog w) A (getItem o i) Q E s₂) E s₁) E s) :
    wpAny (model prog w) A (eval (.Subscript value slice pos) env) Q E s := by
  refine Subscript_ (wpAny_mono h (fun o s₁ h₁ => wpAny_mono h₁ (fun i s₂ h₂ => ?_) fun _ _ x => x) fun _ _ x => x)
  obtain ⟨hT, h₂⟩ := h₂
  unfold subscriptTail
  refine wpAny_bind ?_
  rw [getitemInPython_of_ne hT.not_modules]
  refine wpAny_bind (wpAny_specialOf hT hl ?_)
  have fin : wpAny (model prog w) A (subscripted slice false o i) (fun r s₃ => wpAny (model prog w) A (letTemporaryGo value o r >>= fun _ => pure r) Q E s₃) E s₂ := by
    rw [hs o i]
    exact wpAny_operating (wpAny_mono h₂ (fun r s₃ h₃ => wpAny_bind (wpAny_letTemporaryGo (wpAny_pure h₃))) fun _ _ x => x)
  first
    | exact wpAny_pure (wpAny_bind fin)
    | exact wpAny_bind (wpAny_pure (wpAny_bind fin))
    | exact wpAny_bind fin
def tDGet (td ty : TE) : TE := fun σ H Q => td σ H fun x H1 => ty σ H1 fun y H2 => ∃ a v, x = .ref a ∧ DGet H2 a y (some v) ∧ Q v H2
def tDIn (ty td : TE) : TE := fun σ H Q => ty σ H fun y H1 => td σ H1 fun x H2 => ∃ a o, x = .ref a ∧ DGet H2 a y o ∧ Q (.bl o.isSome) H2
def tDNotIn (ty td : TE) : TE := fun σ H Q => ty σ H fun y H1 => td σ H1 fun x H2 => ∃ a o, x = .ref a ∧ DGet H2 a y o ∧ Q (.bl (!o.isSome)) H2
def sDPut (td ty tv : TE) : TS := fun D σ H => tv σ H fun v H1 => td σ H1 fun x H2 => ty σ H2 fun y H3 => ∃ a H4, x = .ref a ∧ DPut H3 a y v H4 ∧ D.nx σ H4
def sDAug (td ty tv : TE) (rd : V → V → Hp → VK → Prop) : TS := fun D σ H => td σ H fun x H1 => ty σ H1 fun y H2 => ∃ a v, x = .ref a ∧ DGet H2 a y (some v) ∧
  tv σ H2 fun y2 H3 => rd v y2 H3 fun z H4 => ∃ H5, DPut H4 a y z H5 ∧ D.nx σ H5
def sDDel (td ty : TE) : TS := fun D σ H => td σ H fun x H1 => ty σ H1 fun y H2 => ∃ a kvs k, x = .ref a ∧ H2 a = some (.dK kvs) ∧ y = kV k ∧ (valV kvs k).isSome = true ∧ D.nx σ (upd H2 a (.dK (dropK kvs k)))
section
variable {X : Cx} {o i e value : Expr} {pos pos' tpos : Pos} {td ty tv : TE}
end
def tDNewK : TE := fun _ H Q => ∀ p, H p = none → Q (.ref p) (upd H p (.dK []))
def tDNewT : TE := fun _ H Q => ∀ p, H p = none → Q (.ref p) (upd H p (.dT []))
section
variable {X : Cx} {pos : Pos}
end
def tPairs : List (TE × TE) → St → Hp → (List (V × V) → Hp → Prop) → Prop
  | [], _, H, Q => Q [] H
  | (tk, tv) :: r, σ, H, Q => tk σ H fun x H1 => tv σ H1 fun y H2 => tPairs r σ H2 fun ps H3 => Q ((x, y) :: ps) H3
abbrev VV : List (V × V) → List (Value × Value) → Prop := Paired fun p q => RelV p.1 q.1 ∧ RelV p.2 q.2
def PPs (X : Cx) (pos : Pos) (keys : List (Option Expr)) (values : List Expr) (trs : List (TE × TE)) : Prop :=
  ∀ (pins : List (Addr × Obj)) (s : Shared) (σ : St) (H : Hp) (Q : List (V × V) → Hp → Prop), Inv X pins σ H s → tPairs trs σ H Q →
    wpAny (model X.prog X.w) X.A (evalPairs (pairTrees keys values X.env pos)) (fun vs s' => ∃ ps H', Inv X pins σ H' s' ∧ VV ps vs ∧ Q ps H') X.xe s
def mergeK (kvs more : List (Key × V)) : List (Key × V) := more.foldl (fun acc kv => putK acc kv.1 kv.2) kvs
def tDisp (trs : List (TE × TE)) : TE := fun σ H Q => ∀ p, H p = none → tPairs trs σ (upd H p (.dK [])) fun ps H2 => H2 p = some (.dK []) ∧ ∃ kvs : List (Key × V), ps = kvs.map (fun kv => (kV kv.1, kv.2)) ∧ kvs.length ≤ 15 ∧ Q (.ref p) (upd H2 p (.dK (mergeK [] kvs)))
structure M1 (X : Cx) (o : Expr) (m : Str) (apos : Pos) (e : Expr) (cpos : Pos) : Prop where
  base : attributeBase o m X.env (eval o X.env) = eval o X.env
  few : ((backTo cpos (starEach [e] X.env)).all (fun x => !x.1) && (backToKw cpos (keywordEach [] X.env)).all (fun x => x.1.isSome)
    && decide (([e] : List Expr).length + ([] : List Keyword).length + (if ([] : List Keyword).isEmpty then 0 else 1) < 30)) = true
  line : (apos.endLine == cpos.line) = true
  trees : backTo cpos (starEach [e] X.env) = [(false, eval e X.env)]
structure M2 (X : Cx) (o : Expr) (m : Str) (apos : Pos) (e f : Expr) (cpos : Pos) : Prop where
  base : attributeBase o m X.env (eval o X.env) = eval o X.env
  few : ((backTo cpos (starEach [e, f] X.env)).all (fun x => !x.1) && (backToKw cpos (keywordEach [] X.env)).all (fun x => x.1.isSome)
    && decide (([e, f] : List Expr).length + ([] : List Keyword).length + (if ([] : List Keyword).isEmpty then 0 else 1) < 30)) = true
  line : (apos.endLine == cpos.line) = true
  trees : backTo cpos (starEach [e, f] X.env) = [(false, eval e X.env), (false, eval f X.env)]
def IsD (H : Hp) (a : Addr) : Prop := (∃ kvs, Rd H a (.dK kvs)) ∨ ∃ kvs, Rd H a (.dT kvs)
section
variable {X : Cx} {pins : List (Addr × Obj)} {σ : St} {H : Hp} {s : Shared} {a : Addr} {y d : V} {u r : Value} {o : Option V} {A : Around} {E : Value → Shared → Prop}
end
def tDGet1 (td ty : TE) : TE := fun σ H Q => td σ H fun x H1 => ∃ a, x = .ref a ∧ IsD H1 a ∧ ty σ H1 fun y H2 => ∃ o, DGet H2 a y o ∧ Q (o.getD .non) H2
def tDGet2 (td ty tx : TE) : TE := fun σ H Q => td σ H fun x H1 => ∃ a, x = .ref a ∧ IsD H1 a ∧ ty σ H1 fun y H2 => tx σ H2 fun z H3 => ∃ o, DGet H3 a y o ∧ Q (o.getD z) H3
def tDPop1 (td ty : TE) : TE := fun σ H Q => td σ H fun x H1 => ∃ a, x = .ref a ∧ IsD H1 a ∧ ty σ H1 fun y H2 => ∃ kvs k v, H2 a = some (.dK kvs) ∧ y = kV k ∧ valV kvs k = some v ∧ Q v (upd H2 a (.dK (dropK kvs k)))
def tDPop2 (td ty tx : TE) : TE := fun σ H Q => td σ H fun x H1 => ∃ a, x = .ref a ∧ IsD H1 a ∧ ty σ H1 fun y H2 => tx σ H2 fun z H3 => ∃ kvs k, H3 a = some (.dK kvs) ∧ y = kV k ∧
  (∀ v, valV kvs k = some v → Q v (upd H3 a (.dK (dropK kvs k)))) ∧ (valV kvs k = none → Q z H3)
section
variable {X : Cx} {o e f : Expr} {apos cpos : Pos} {td ty tx : TE}
end
section
variable {X : Cx} {pins : List (Addr × Obj)} {σ : St} {H : Hp} {s : Shared} {a : Addr} {kvs : List (Key × V)} {A : Around} {E : Value → Shared → Prop}
end
section
variable {X : Cx} {pins : List (Addr × Obj)} {σ : St} {H : Hp} {s : Shared} {a : Addr} {y : V} {u : Value} {A : Around} {E : Value → Shared → Prop}
end
open PySem PySem.Spec PyProof.Rows
section
variable {X : Cx}
end
section
variable {κ : Type} [DecidableEq κ]
end
open PySem PySem.Spec PySem.Calls PyProof.Rows PyProof.Rows.KTD
def Top (K : PySem.W.Frag) (a : Addr) (D : List (Str × Str)) : Prop := ∀ h : Heap, K.In h → TextTab h a (D.map fun p => (p.1, Dat.flat (.str p.2)))
theorem top_of {K : PySem.W.Frag} {a : Addr} {D : List (Str × Str)} (hl : tabLook (datLooks fun b => K.lookup b) (fun b => K.lookup b) a (D.map fun p => (p.1, Dat.flat (.str p.2))) = true) : Top K a D := fun h X => text_of_look (fun b o e => X b o e) hl
def lk (D : List (Str × Str)) (k : Str) : Option Str := (D.find? fun p => decide (p.1 = k)).map (·.2)
theorem inKeys_lk (k : Str) : ∀ D : List (Str × Str), inKeys k (D.map fun p => (p.1, Dat.flat (.str p.2))) = (lk D k).isSome
  | [] => rfl
  | p :: D => by
    have ih := inKeys_lk k D
    unfold lk at ih ⊢
    rw [List.map_cons, List.find?_cons]
    by_cases c : p.1 = k
    · simp [inKeys, c]
    · have c' : ¬ k = p.1 := fun z => c z.symm
      simp [inKeys, c, c']
      simpa using ih
theorem lk_at {k v : Str} : ∀ {D : List (Str × Str)}, lk D k = some v → ∃ d, datumAt k (D.map fun p => (p.1, Dat.flat (.str p.2))) = some d ∧ d = Dat.flat (.str v)
  | [], h => by simp [lk] at h
  | p :: D, h => by
    unfold lk at h
    rw [List.find?_cons] at h
    by_cases c : p.1 = k
    · simp [c] at h
      subst h
      exact ⟨_, by simp [datumAt, c], rfl⟩
    · have c' : ¬ k = p.1 := fun z => c z.symm
      simp only [c, decide_false] at h
      obtain ⟨d, e1, e2⟩ := lk_at (D := D) h
      exact ⟨d, by simp [datumAt, c', e1], e2⟩
def tTopNotIn (a : Addr) (D : List (Str × Str)) (ty td : TE) : TE := fun σ H Q => ty σ H fun y H1 => td σ H1 fun x H2 => ∃ k, y = .str k ∧ x = .ref a ∧ Q (.bl (!(lk D k).isSome)) H2
def tTopGet (a : Addr) (D : List (Str × Str)) (td ty : TE) : TE := fun σ H Q => td σ H fun x H1 => ty σ H1 fun y H2 => ∃ k v, y = .str k ∧ x = .ref a ∧ lk D k = some v ∧ Q (.str v) H2
section
variable {X : Cx} {o i : Expr} {pos : Pos} {td ty : TE} {a : Addr} {D : List (Str × Str)}
theorem pc_topNotin (T : Top X.K a D) (hi : PE X i ty) (ho : PE X o td) : PC X .NotIn i o (tTopNotIn a D ty td) := by
  intro pins s σ H Q I h
  refine thn (hi pins s σ H _ I h) fun iv s1 ⟨y, H1, I1, ry, q1⟩ => thn (ho pins s1 σ H1 _ I1 q1) fun u s2 ⟨x, H2, I2, rx, k, ey, ex, q2⟩ => ?_
  subst ey ex
  obtain ⟨tk, rfl⟩ := ry
  obtain rfl : u = Value.ref a := rx
  refine notin_text (h₀ := s2.heap) ⟨T s2.heap I2.kIn, fun b o e => e⟩ ?_
  rw [inKeys_lk]
  exact ⟨.bl _, H2, I2.tok _, rfl, q2⟩
theorem top_getItem {A : Around} {E : Value → Shared → Prop} {s : Shared} {pins : List (Addr × Obj)} {σ : St} {H : Hp} {k v : Str} {tk : Tok} {Q : Value → Shared → Prop} (T : Top X.K a D) (I : Inv X pins σ H s) (e : lk D k = some v) (h : ∀ t s', Inv X pins σ H s' → Q (.str v t) s') :
    wpAny (model X.prog X.w) A (getItem (.ref a) (.str k tk)) Q E s := by
  have T' : Here s.heap s.heap a (D.map fun p => (p.1, Dat.flat (.str p.2))) := ⟨T s.heap I.kIn, fun b o e => e⟩
  unfold getItem
  try with_reducible refine wpAny_holding ?_
  refine wpAny_bind (wpAny_sequenceKey T'.typeIs (by decide) ?_)
  refine wpAny_bind (wpAny_callSpecial?_slot (name := Str.ofString "__getitem__") T'.typeIs PySem.F.slot_dict_getitem
    (wpAny_call_entry PySem.F.slot_dict_getitem T'.typeIs PySem.F.entry_dict_getitem ?_ (args_dict_getitem _ _)))
  show wpAny _ _ (dictGet a (.str k tk) >>= _) _ _ s
  obtain ⟨d, hd, ed⟩ := lk_at e
  refine wpAny_bind (dictGet_text T' (fun d' v' ha hv => wpAny_pure ⟨v', rfl, wpAny_pure ?_⟩) fun hn => by rw [hd] at hn; cases hn)
  rw [hd] at ha
  cases ha
  subst ed
  exact Opened.of (P := fun x => Q x _) (opened_str fun t => h t _ (I.tok _)) v' hv
theorem pe_topGet (T : Top X.K a D) (ho : PE X o td) (hi : PE X i ty) (hs : NoSl i) : PE X (.Subscript o i pos) (tTopGet a D td ty) := by
  intro pins s σ H Q I h
  refine subD_of PySem.F.slot_dict_getitem.lookup hs (thn (ho pins s σ H _ I h) fun u s1 ⟨x, H1, I1, rx, q1⟩ => thn (hi pins s1 σ H1 _ I1 q1) fun iv s2 ⟨y, H2, I2, ry, k, v, ey, ex, el, q2⟩ => ?_)
  subst ex ey
  obtain rfl : u = Value.ref a := rx
  obtain ⟨tk, rfl⟩ := ry
  have T' : Here s2.heap s2.heap a (D.map fun p => (p.1, Dat.flat (.str p.2))) := ⟨T s2.heap I2.kIn, fun b o e => e⟩
  exact ⟨T'.typeIs, top_getItem T I2 el fun t s3 I3 => ⟨.str v, H2, I3, ⟨t, rfl⟩, q2⟩⟩
end
open PySem PySem.Spec PyProof.Rows
def gLst (K : PySem.W.Frag) (n : Nat) (t : TGs) : TG := fun v σ H Q => ∃ a xs, v = .ref a ∧ SqL K H a xs ∧ xs.length = n ∧ t xs σ H Q
section
variable {X : Cx} {K : PySem.W.Frag} {pos : Pos}
theorem pg_lst {es : List Expr} {k : Nat} {t : TGs} {n : Nat} (hc : X.calm = true) (h : PGs X es t)
    (hn : (assignEach es X.env).length = n := by rfl) (hst : (assignEach es X.env).findIdx? (·.1) = none := by rfl) (hK : X.K = K := by rfl) : PG X (.Tuple es k pos) (gLst K n t) := by
  subst hK
  intro pins s σ H v u Q I r hw
  obtain ⟨a, xs, e1, hq, hl, hw⟩ := hw
  subst e1
  cases r
  obtain ⟨its, rv, pl, hz⟩ := I.list hq
  rw [assign_Tuple]
  refine wpAny_bind (wpAny_standAt ?_)
  unfold unpack
  have hn' : (assignEach es X.env).length = its.toArray.size := by rw [hn, ← hl, rv.length]; simp
  rw [hn', hst]
  refine wpAny_bind (wpAny_holding (PySem.W.kun_itemsOf (I.ok.hd hc) pl.isList fun h' hx => ?_))
  have I1 : Inv X pins σ H { s with heap := h' } := I.kept (t' := s.toks) fun b o e => hx b o (Nat.ne_of_lt (Heap.lt_size e)) e
  exact h pins _ σ H xs _ Q I1 (by simpa using rv) hw
end
open PySem PySem.Spec PyProof.Rows
structure Isa (K : PySem.W.Frag) (C : Addr) : Prop where
  ha : PySem.W.findIn K (.ref C) "__class__" = some (some (.builtin "object.__class__"))
  hn : PySem.W.specialIn K (.builtin "object.__class__") "__get__" = some (some (.builtin "getset_descriptor.__get__"))
  htk : PySem.W.takesIn K (.builtin "object.__class__") = some true
  hm : PySem.W.mroIn K C (.type "object") = some true
theorem Isa.ty {K : PySem.W.Frag} {C a dx : Addr} {fs : List (Str × V)} {H : Hp} (h : Isa K C) (cl : Cls K C) (e : H a = some (.ins C dx fs)) : TyOf K H (.ref a) (.ref C) := .ins e cl h.ha h.hn h.htk h.hm
open PySem PySem.Spec PyProof.Rows
def Itz (K : PySem.W.Frag) (a b : Addr) : It where
  go := fun i H => ∃ xs ys x y, SqL K H a xs ∧ SqL K H b ys ∧ xs[i]? = some x ∧ ys[i]? = some y
  yld := fun i H x H' => ∃ T, x = .ref T ∧ H T = none ∧ ∀ xs ys u v, SqL K H a xs → SqL K H b ys → xs[i]? = some u → ys[i]? = some v → H' = upd H T (.tup [u, v])
  stop := fun i H => ∃ xs ys, SqL K H a xs ∧ SqL K H b ys ∧ (xs.length ≤ i ∨ ys.length ≤ i)
def ZipSt (z TI TO i1 i2 a b : Addr) (i : Nat) (h : Heap) : Prop := IsZip h z TI TO .none ∧ IsPair h TI (.ref i1) (.ref i2) ∧ (∃ p q, IsPair h TO p q) ∧ h.IsListIter i1 a i ∧ h.IsListIter i2 b i
section
variable {X : Cx} {es : List Expr} {kx : Nat} {tp : Pos}
def iZip (K : PySem.W.Frag) (ta : TA) : TI := fun σ H R => ta σ H fun vs H1 => ∃ a b, vs = [.ref a, .ref b] ∧ (∃ xs, SqL K H1 a xs) ∧ (∃ ys, SqL K H1 b ys) ∧ R (Itz K a b) H1
end
open PySem PySem.Spec PyProof.Rows
def rInT (K : PySem.W.Frag) : R2 := fun x y H Q => ∃ (p q : Addr) (as : List Addr) (ks : List Int), x = .ref p ∧ y = .ref q ∧ SqL K H q (as.map V.ref) ∧ SqT K H p (vI ks) ∧
  (∀ a ∈ as, ∃ js : List Int, SqT K H a (vI js)) ∧ (∃ a ∈ as, SqT K H a (vI ks)) ∧ Q (.bl true) H
section
variable {X : Cx} {K : PySem.W.Frag}
end
open PySem PySem.Spec PyProof.Rows
section
variable {prog : Program} {w : World} {A : Around} {E : Value → Shared → Prop} {s : Shared}
structure Apart2 (z TI TO i1 i2 : Addr) : Prop where
  TIz : TI ≠ z
  TOz : TO ≠ z
  i1z : i1 ≠ z
  i2z : i2 ≠ z
  TITO : TI ≠ TO
  TIi1 : TI ≠ i1
  TIi2 : TI ≠ i2
  TOi1 : TO ≠ i1
  TOi2 : TO ≠ i2
  i12 : i1 ≠ i2
abbrev strIt (x : Str) (t : Tok) : Obj := { cls := .type (strIterType x), data := .fields #[.str x t, .int 0 0] }
abbrev lstIt (l : Addr) : Obj := { cls := .type "list_iterator", data := .fields #[.ref l, .int 0 0] }
abbrev zHeap (h : Heap) (o1 o2 : Obj) : Heap := ((((h.push o1).push o2).push { cls := .type "tuple", data := .seq #[.ref h.objs.size, .ref (h.push o1).objs.size] }).push { cls := .type "tuple", data := .seq #[.none, .none] }).push
  { cls := .type "zip", data := .fields #[.none, .bool false, .bool false, .ref ((h.push o1).push o2).objs.size, .ref (((h.push o1).push o2).push { cls := .type "tuple", data := .seq #[.ref h.objs.size, .ref (h.push o1).objs.size] }).objs.size] }
abbrev zAddr (h : Heap) (o1 o2 : Obj) : Addr := ((((h.push o1).push o2).push { cls := .type "tuple", data := .seq #[.ref h.objs.size, .ref (h.push o1).objs.size] }).push { cls := .type "tuple", data := .seq #[.none, .none] }).objs.size
end
open PySem PySem.Spec PyProof.Rows
inductive Src where
  | l (a : Addr)
  | s (z : Str)
def srcV : Src → V
  | .l a => .ref a
  | .s z => .str z
def srcOk (K : PySem.W.Frag) (H : Hp) : Src → Prop
  | .l a => ∃ xs, SqL K H a xs
  | .s _ => True
def srcAt (K : PySem.W.Frag) (H : Hp) : Src → Nat → V → Prop
  | .l a, i, v => ∃ xs, SqL K H a xs ∧ xs[i]? = some v
  | .s z, i, v => ∃ c, z.cps[i]? = some c ∧ v = .str ⟨#[c]⟩
def srcEnd (K : PySem.W.Frag) (H : Hp) : Src → Nat → Prop
  | .l a, i => ∃ xs, SqL K H a xs ∧ xs.length = i
  | .s z, i => z.cps.size = i
def srcSt (it : Addr) (t : Tok) : Src → Nat → Heap → Prop
  | .l a, i, h => h.IsListIter it a i
  | .s z, i, h => h.IsStrIter it (strIterType z) z t i
def srcFp (it : Addr) : Src → List Addr
  | .l a => [it, a]
  | .s _ => [it]
def srcIt (t : Tok) : Src → Obj
  | .l a => lstIt a
  | .s z => strIt z t
def Itz2 (K : PySem.W.Frag) (S1 S2 : Src) : It where
  go := fun i H => (∃ u, srcAt K H S1 i u) ∧ ∃ v, srcAt K H S2 i v
  yld := fun i H x H' => ∃ T, x = .ref T ∧ H T = none ∧ ∀ u v, srcAt K H S1 i u → srcAt K H S2 i v → H' = upd H T (.tup [u, v])
  stop := fun i H => srcOk K H S1 ∧ srcOk K H S2 ∧ (srcEnd K H S1 i ∨ ((∃ u, srcAt K H S1 i u) ∧ srcEnd K H S2 i))
def Zip2St (z TI TO i1 i2 : Addr) (t1 t2 : Tok) (S1 S2 : Src) (i : Nat) (h : Heap) : Prop := IsZip h z TI TO .none ∧ IsPair h TI (.ref i1) (.ref i2) ∧ (∃ p q, IsPair h TO p q) ∧ srcSt i1 t1 S1 i h ∧ srcSt i2 t2 S2 i h
section
variable {X : Cx} {es : List Expr} {kx : Nat} {tp : Pos}
def zOk : Src → Src → Prop
  | .s _, .l _ => False
  | _, _ => True
def iZip2 (K : PySem.W.Frag) (ta : TA) : TI := fun σ H R => ta σ H fun vs H1 => ∃ S1 S2, vs = [srcV S1, srcV S2] ∧ zOk S1 S2 ∧ srcOk K H1 S1 ∧ srcOk K H1 S2 ∧ R (Itz2 K S1 S2) H1
end
open PySem PySem.Spec PyProof.Rows
structure CompOk2 (X : Cx) (x x' : Str) (Nc : List Str) (caps : List Nat) (scope : Scope) : Prop where
  kind : scope.kind = .function
  cell : ∀ y ∈ scope.names, y.2 ≠ .cell
  names : ∀ y ∈ scope.names, y.2 = .local → scope.names.lookup y.1 = some .local
  fr : ∀ y ∈ scope.names, y.2 = .free → X.env.scope.names.lookup y.1 = some .cell ∧ scope.names.lookup y.1 = some .free
  loc : scope.names.lookup x = some .local
  loc2 : scope.names.lookup x' = some .local
  len : Nc.length = caps.length + 2
  hd : Nc[0]? = some x
  hd2 : Nc[1]? = some x'
  nd : Nc.Nodup
  cap : ∀ k j, caps[k]? = some j → ∃ y, Nc[k + 2]? = some y ∧ X.N[j]? = some y ∧ scope.names.lookup y = some .free
def tCompW2 (K : PySem.W.Frag) (caps : List Nat) (tc : TT) (te : TE) (J : It) (σ : St) (H : Hp) (Q : VK) : Prop :=
  ∃ W : Nat → Nat → List V → Hp → Prop, (∃ m, W 0 m [] H) ∧ ∀ i m ys H, W i m ys H →
    (J.stop i H ∧ ys.length ≤ sizeLine ∧ ∀ p, H p = none → Q (.ref p) (upd H p (.lst ys))) ∨
    (J.go i H ∧ ys.length < sizeLine ∧ ∀ x H', J.yld i H x H' → ∃ a u v, x = .ref a ∧ SqT K H' a [u, v] ∧ tc (some u :: some v :: capV σ caps) H' fun b H2 =>
      if b = true then te (some u :: some v :: capV σ caps) H2 fun y H3 => ∃ m', m' < m ∧ W (i + 1) m' (ys ++ [y]) H3 else ∃ m', m' < m ∧ W (i + 1) m' ys H2)
def tComp2 (K : PySem.W.Frag) (wi : TI) (caps : List Nat) (tc : TT) (te : TE) : TE := fun σ H Q => wi σ H fun J H1 => tCompW2 K caps tc te J σ H1 Q
section
variable {X : Cx} {pins : List (Addr × Obj)} {σ : St} {H : Hp} {s : Shared}
end
open PySem PySem.Spec PyProof.Rows
section
variable {X : Cx}
def rCountL (K : PySem.W.Frag) : V → List V → Hp → VK → Prop := fun x vs H Q => ∃ a ns k, x = .ref a ∧ vs = [.int k] ∧ SqL K H a (vI ns) ∧ Q (.int (ns.count k : Nat)) H
end
def Ite (K : PySem.W.Frag) (a : Addr) : It where
  go := fun i H => ∃ xs x, SqL K H a xs ∧ xs[i]? = some x
  yld := fun i H x H' => ∃ T, x = .ref T ∧ H T = none ∧ ∀ xs u, SqL K H a xs → xs[i]? = some u → H' = upd H T (.tup [.int (i : Int), u])
  stop := fun i H => ∃ xs, SqL K H a xs ∧ xs.length = i
def EnSt (e it a : Addr) (i : Nat) (h : Heap) : Prop := (∃ old, IsEnum h e it i old) ∧ h.IsListIter it a i
section
variable {X : Cx} {es : List Expr} {kx : Nat} {tp : Pos}
def iEnum (K : PySem.W.Frag) (ta : TA) : TI := fun σ H R => ta σ H fun vs H1 => ∃ a, vs = [.ref a] ∧ (∃ xs, SqL K H1 a xs) ∧ R (Ite K a) H1
end
open PySem PySem.Spec PyProof.Rows
inductive SamV (K : PySem.W.Frag) (H : Hp) : Nat → V → V → Prop where
  | flat {n : Nat} {x : V} (h : flatV x = true) : SamV K H n x x
  | lst {n : Nat} {p q : Addr} {xs ys : List V} (hp : SqL K H p xs) (hq : SqL K H q ys) (hl : xs.length = ys.length) (hi : ∀ (i : Nat) (x y : V), xs[i]? = some x → ys[i]? = some y → SamV K H n x y) : SamV K H (n + 1) (.ref p) (.ref q)
  | tup {n : Nat} {p q : Addr} {xs ys : List V} (hp : SqT K H p xs) (hq : SqT K H q ys) (hl : xs.length = ys.length) (hi : ∀ (i : Nat) (x y : V), xs[i]? = some x → ys[i]? = some y → SamV K H n x y) : SamV K H (n + 1) (.ref p) (.ref q)
section
variable {X : Cx} {K : PySem.W.Frag}
def SamS (K : PySem.W.Frag) (H : Hp) (p q : Addr) : Prop := ∃ xs ys : List V, SqL K H p xs ∧ SqL K H q ys ∧ xs.length = ys.length ∧ ∀ (i : Nat) (x y : V), xs[i]? = some x → ys[i]? = some y → SamV K H 50 x y
def rEqS (K : PySem.W.Frag) : R2 := fun x y H Q => ∃ p q, x = .ref p ∧ y = .ref q ∧ SamS K H p q ∧ Q (.bl true) H
def rNeS (K : PySem.W.Frag) : R2 := fun x y H Q => ∃ p q, x = .ref p ∧ y = .ref q ∧ SamS K H p q ∧ Q (.bl false) H
end
open PySem PySem.Spec PyProof.Rows
section
variable {X : Cx} {K : PySem.W.Frag} {k : Nat} {f C : Addr} {fd : FuncData} {ps : List Str} {sp : Sp} {dvs : List V} {ds : List Value} {x m : Str} {p pos apos : Pos} {e o : Expr} {es : List Expr} {ta : TE} {t : TA}
def rNeE (K : PySem.W.Frag) : R2 := fun x y H Q => ∃ p q xs, x = .ref p ∧ y = .ref q ∧ SqL K H p xs ∧ SqL K H q [] ∧ Q (.bl (!xs.isEmpty)) H
def rEqE (K : PySem.W.Frag) : R2 := fun x y H Q => ∃ p q xs, x = .ref p ∧ y = .ref q ∧ SqL K H p xs ∧ SqL K H q [] ∧ Q (.bl xs.isEmpty) H
end
open PySem PySem.Spec PyProof.Rows
def YX (X : Cx) (fp : List Addr) (C : Addr) (s : Shared) (H : Hp) (E : XK) : Value → Shared → Prop := fun e s' =>
  ∃ (H1 : Hp) (s1 : Shared) (m : Str → Option Value), Un (frs X.stack) fp H H1 s.heap s1.heap ∧ s1.os = s.os ∧ s1.heap.Ns C m ∧ H1 C = none ∧ CX1 X.prog X.w X.stack H1 s1 E e s'
abbrev cxCompX (X : Cx) (Nc : List Str) (scope : Scope) (cl : List (Str × Addr)) (C : Addr) (fp : List Addr) (s : Shared) (H : Hp) (E : XK) : Cx := (cxComp X Nc scope cl C fp s H).wish (YX X fp C s H E)
theorem passC {X : Cx} {Nc : List Str} {scope : Scope} {cl : List (Str × Addr)} {C : Addr} {fp : List Addr} {s : Shared} {H : Hp} {E : XK} : Passes (CX1 X.prog X.w) (cxCompX X Nc scope cl C fp s H E) E := fun pins σ H1 s1 e s' I c => by
  obtain ⟨m, hn, _⟩ := I.loc
  exact ⟨H1, s1, m, I.base, I.os, hn, I.free, c⟩
def Aft (X : Cx) (E : XK) (C : Addr) (e : Value) (s' : Shared) : Prop :=
  (∃ m, s'.heap.Ns C m) ∧ ∀ h', Heap.SameBut C s'.heap h' → ∃ ea Cc t H' B, e = .ref ea ∧ Fx B X.stack ea Cc t (rawInt X.env.locals) h' ∧ s'.os = X.s₀.os ∧ AllBare s'.gens ∧ Bk X.prog X.w X.outer X.H₀ X.s₀.heap H' B h' ∧ E (.ref Cc) none H'
theorem noteFrame_frame {e : Value} {env env' : Env} (h : env.frame = env'.frame) : noteFrame e env = noteFrame e env' := by
  unfold noteFrame PySem.frameOf
  rw [h]
theorem funFrames_but {h h' base : Heap} : ∀ {l : List Env}, (∀ b ∈ frs l, h'.get? b = h.get? b) → h.FunFrames base l → h'.FunFrames base l
  | [], _, _ => trivial
  | env :: r, k, ⟨hk, ⟨L, o, hf, hn, ho, hd⟩, hr⟩ => by
    have m : ∀ b ∈ frs r, b ∈ frs (env :: r) := fun b hb => by unfold frs; rw [List.filterMap_cons, hf]; exact List.mem_cons_of_mem _ hb
    have mL : L ∈ frs (env :: r) := by unfold frs; rw [List.filterMap_cons, hf]; exact List.mem_cons_self
    exact ⟨hk, ⟨L, o, hf, hn, (k L mL).trans ho, hd⟩, funFrames_but (fun b hb => k b (m b hb)) hr⟩
section
variable {X : Cx} {pins : List (Addr × Obj)} {σ : St} {H : Hp} {s s' : Shared} {E : XK} {e : Value} {C : Addr} {fp : List Addr}
theorem errC {M : Model} {R : Shared → Prop} {E' : Value → Shared → Prop} {cenv : Env} (hB : Body X) (I : Inv X pins σ H s) (hfp : ∀ b ∈ fp, FpOk X pins H b) (hC : s.heap.objs.size ≤ C) (hf : cenv.frame = X.env.frame)
    (c : YX X fp C s H E e s') (k : ∀ s'', Aft X E C e s'' → R s'') : wpAny M X.A (noteFrame e cenv) (fun _ s'' => R s'') E' s' := by
  obtain ⟨H1, s1, m, un, os1, hns, nC, ea, Cc, t, H', B, rfl, fx, os, bare, bk, q⟩ := c
  have nx : ∀ b : Addr, b ∉ X.ex := fun b z => by rw [hB.ex] at z; exact nomatch z
  have fsS : ∀ b, b ∈ X.fs → b ∈ frs X.stack := fun b hb => by
    rw [hB.stack]; unfold frs; rw [List.filterMap_cons, hB.frame]; exact List.mem_cons_of_mem _ hb
  have stk : ∀ b, b ∈ frs X.stack → ∃ o, s.heap.get? b = some o := fun b hb => by
    obtain ⟨_, o, e, _⟩ := I.stack.mem hb
    exact ⟨o, e⟩
  have CS : C ∉ frs X.stack := fun z => by
    obtain ⟨o, e⟩ := stk C z
    exact absurd (Heap.lt_size e) (Nat.not_lt.mpr hC)
  have old : ∀ b o, s.heap.get? b = some o → b ≠ C := fun b o e z => absurd (Heap.lt_size e) (Nat.not_lt.mpr (z ▸ hC))
  have nfp : ∀ b o, X.s₀.heap.get? b = some o → b ∉ fp := fun b o e z => by
    rcases (hfp b z).2.2.2.1 with y | y
    · exact nx b y
    · exact absurd (Heap.lt_size e) (Nat.not_lt.mpr y)
  obtain ⟨oC, es, ep, hoC, dC, sk, nf⟩ := hns
  have hBC : B.get? C = some oC := bk.keep C oC hoC nC CS
  have hH'C : H' C = none := bk.free C oC hoC nC
  have B'C : (PySem.W.hideAll B [C]).get? C = none := PySem.W.hideAll_none _ List.mem_cons_self
  have getB : ∀ b o, B.get? b = some o → b ≠ C → (PySem.W.hideAll B [C]).get? b = some o := fun b o e z => PySem.W.hideAll_get _ e fun y => z (List.mem_singleton.mp y)
  have stays : (PySem.W.hideAll B [C]).StaysIn B := fun b o e => PySem.W.of_hideAll _ e
  have fx' : Fx (PySem.W.hideAll B [C]) X.stack ea Cc t .none s'.heap := by
    obtain ⟨st, ne, fr, T, oT, ts, hE, hBT, hTe, hT, hdT, h3⟩ := fx
    exact ⟨fun b o e => st b o (stays b o e), PySem.W.fresh_of_stays stays ne, PySem.W.funFrames_base stays fr, T, oT, ts, hE, PySem.W.fresh_of_stays stays hBT, hTe, hT, hdT, h3⟩
  have bkX : Bk X.prog X.w X.outer X.H₀ X.s₀.heap H' (PySem.W.hideAll B [C]) s'.heap := by
    refine ⟨fun b u e => ?_, fun b o e n hb => ?_, fun b o e hb => ?_, fun b o e n => ?_, fun b o e hb => ?_, fun b xs e => bk.tups b xs (un.tups b xs (I.base.tups b xs e)), fun b o u e => bk.frzs b o u (un.frzs b o u (I.base.frzs b o u e)), fun b ps e => ?_⟩
    · refine (bk.ok b u e).stay (fun c v hc z => getB c v z fun y => ?_) (fun _ z => z) fun _ _ z => z
      rcases hc with x | x
      · rw [← x, y, hH'C] at e; cases e
      · rw [y, hH'C] at x; cases x
    · have e1 := I.base.keep b o e n hb (nx b)
      have n1 := I.base.free b o e n (nx b)
      have bfr := I.frsN e hb
      exact getB b o (bk.keep b o (un.keep b o e1 n1 bfr (nfp b o e)) (un.free b o e1 n1 (nfp b o e)) bfr) (old b o e1)
    · obtain ⟨sl, e1⟩ := I.base.slot b o e (I.ok.frf b hb) hb (nx b)
      obtain ⟨sl2, e2⟩ := un.slot b _ e1 (I.stkFree b (fsS b hb)) (fsS b hb) (nfp b o e)
      obtain ⟨sl3, e3⟩ := bk.slot b _ e2 (fsS b hb)
      exact ⟨sl3, e3⟩
    · obtain ⟨o', e1⟩ := I.base.there b o e (nx b)
      obtain ⟨o2, e2⟩ := un.there b o' e1 (nfp b o e)
      exact bk.free b o2 e2 (un.free b o' e1 (I.base.free b o e n (nx b)) (nfp b o e))
    · obtain ⟨o', e1⟩ := I.base.there b o e (nx b)
      obtain ⟨o2, e2⟩ := un.there b o' e1 (nfp b o e)
      obtain ⟨o3, e3⟩ := bk.there b o2 e2 (I.frsN e hb)
      exact ⟨o3, getB b o3 e3 (old b o' e1)⟩
    · obtain ⟨m1, e1⟩ := I.base.tbls b ps e
      obtain ⟨m2, e2⟩ := un.tbls b _ e1
      obtain ⟨m3, e3⟩ := bk.tbls b _ e2
      exact ⟨m1 ++ m2 ++ m3, by rw [e3, Array.append_assoc, Array.append_assoc, Array.append_assoc]⟩
  rw [noteFrame_frame hf]
  refine noteX hB I.ok.frames (.came fx') fun h1 x1 u1 => k _ ?_
  obtain ⟨sl, hC1⟩ := u1 C oC (fx.st C oC hBC) (fun vs z => by rw [dC] at z; cases z)
  refine ⟨⟨m, _, es, ep, hC1, dC, sk, nf⟩, fun h' sb => ?_⟩
  have bk1 := bkX.slots (frs_sub hB fx'.fr) u1
  obtain ⟨st, ne, fr, T, oT, ts, hE, hBT, hTe, hT, hdT, h3⟩ := x1
  have TC : T ≠ C := fun z => by rw [z, hC1] at hT; cases hT; rw [dC] at hdT; cases hdT
  have EC : ea ≠ C := fun z => by rw [z, hC1] at hE; have := congrArg Obj.data (Option.some.inj hE); dsimp only at this; rw [dC] at this; cases this
  refine ⟨ea, Cc, t, H', _, rfl, ⟨fun b o e => (sb.2 b fun z => by rw [z, B'C] at e; cases e).trans (st b o e), ne, funFrames_but (fun b hb => sb.2 b fun z => CS (z ▸ hb)) fr, T, oT, ts, (sb.2 ea EC).trans hE, hBT, hTe, (sb.2 T TC).trans hT, hdT, h3⟩, os.trans (os1.trans I.os), bare,
    ⟨bk1.ok, bk1.keep, fun b o e hb => ?_, bk1.free, bk1.there, bk1.tups, bk1.frzs, bk1.tbls⟩, q⟩
  obtain ⟨sl2, e2⟩ := bk1.slot b o e hb
  exact ⟨sl2, (sb.2 b fun z => CS (z ▸ fsS b hb)).trans e2⟩
end
def compPostX (M : Model) (A : Around) (E : Value → Shared → Prop) (Q : Value → Shared → Prop) (acc : Value) (C : Addr) (f : Option Addr) (r : Result) (s' : Shared) : Prop :=
  match r with
  | .ok _ => ∃ m, s'.heap.Ns C m ∧ ∀ h', Heap.SameBut C s'.heap h' → Q acc { s' with heap := h' }
  | .error x => ∃ m, s'.heap.Ns C m ∧ ∀ h', Heap.SameBut C s'.heap h' → ∀ cenv : Env, cenv.locals = C → cenv.frame = f → wpAny M A (passOn "comprehension.variables-let-go" x cenv : Sem Value) (fun _ _ => False) E { s' with heap := h' }
section
variable {X : Cx} {pins : List (Addr × Obj)} {σ : St} {H : Hp} {s : Shared}
end
open PySem PySem.Spec PyProof.Rows
section
variable {X : Cx} {pins : List (Addr × Obj)} {σ : St} {H : Hp} {s : Shared}
theorem comp_blockX {x : Str} {px : Pos} {Nc : List Str} {caps : List Nat} {scope : Scope} {cl : List (Str × Addr)} {iter elt : Expr} {ifs : List Expr} {pos : Pos} {tc : TT} {te : TE} {Q : VK} {it : Addr} {fp : List Addr} {tn : Nat → Heap → Prop} {J : It}
    {RR : Value → Addr → Option Addr → Result → Shared → Prop} {E : Value → Shared → Prop} {E' : XK} (hB : Body X)
    (O : CompOk X x Nc caps scope) (hc : X.calm = true)
    (hcl : ∀ x c, cl.lookup x = some c → X.env.cells.lookup x = some c ∧ (x, NameKind.free) ∈ scope.names) (hcl2 : ∀ x, (x, NameKind.free) ∈ scope.names → cl.lookup x = X.env.cells.lookup x)
    (hte : ∀ C fp s H, PE (cxCompX X Nc scope cl C fp s H E') elt te) (htc : ∀ C fp s H, PIf (cxCompX X Nc scope cl C fp s H E') ifs tc)
    (I : Inv X pins σ H s) (T : Turn X.prog X.w X.K (.Name x px) J fp it tn) (st : tn 0 s.heap) (hfp : ∀ b ∈ fp, FpOk X pins H b) (h : tCompW caps tc te J σ H Q)
    (hRR : ∀ (D C : Addr) (s' : Shared) (m : Str → Option Value), s'.heap.Ns C m → (∀ h', Heap.SameBut C s'.heap h' → ∃ H', Inv X pins σ H' { s' with heap := h' } ∧ H' C = none ∧ Q (.ref D) H') →
      s.heap.objs.size ≤ C → RR (.ref D) C X.env.frame (.ok .next) s')
    (hRE : ∀ (D C : Addr) (e : Value) (s' : Shared), Aft X E' C e s' → RR (.ref D) C X.env.frame (.error e) s') :
    wpAny (model X.prog X.w) X.A (newList []) (fun acc s₃ => wpAny (model X.prog X.w) X.A (newFunctionEnv scope X.env.globals cl [] X.env.qual none .none (some X.env)) (fun cenv s₄ =>
      codeAny (model X.prog X.w) X.A (.compStart (.ListComp elt [⟨.Name x px, iter, ifs, 0⟩] scope pos) 0 (.ref it) acc { cenv with scope := relabel scope X.env }) (RR acc cenv.locals cenv.frame) s₄) E s₃) E s := by
  refine wpAny_newObj_type (wpAny_newFunctionEnv O.cell (by intro y hy; simp at hy) (fun h₁ hns₁ hsb₁ => ?_) O.kind)
  dsimp only at hns₁ hsb₁ ⊢
  generalize hH2 : s.heap.push { cls := .type "list", dict := none, data := .seq ([] : List Value).toArray } = H2 at hns₁ hsb₁ ⊢
  have hC : H2.objs.size = s.heap.objs.size + 1 := by rw [← hH2, Heap.size_push]
  have hCle : s.heap.objs.size ≤ H2.objs.size := by rw [hC]; exact Nat.le_succ _
  have hDC : s.heap.objs.size ≠ H2.objs.size := by rw [hC]; exact Nat.ne_of_lt (Nat.lt_succ_self _)
  have below : ∀ b, b < s.heap.objs.size → b ≠ H2.objs.size ∧ b ≠ s.heap.objs.size := fun b hb => ⟨by rw [hC]; exact Nat.ne_of_lt (Nat.lt_succ_of_lt hb), Nat.ne_of_lt hb⟩
  have old : ∀ b o, s.heap.get? b = some o → h₁.get? b = some o := fun b o e => hsb₁.extBut b o (below b (Heap.lt_size e)).1 (Heap.get?_push_of_some _ (hH2 ▸ Heap.get?_push_of_some _ e))
  have hacc : h₁.get? s.heap.objs.size = some (rawL [] 0) := hsb₁.extBut _ _ hDC (Heap.get?_push_of_some _ (hH2 ▸ Heap.get?_push_size _ rfl))
  have hfo : ∀ b ∈ fp, b < s.heap.objs.size := fun b hb => by
    obtain ⟨o, e, _⟩ := T.obj _ _ st b hb
    exact Heap.lt_size e
  have st1 : tn 0 h₁ := T.keep _ _ _ st fun b _ o e => old b o e
  generalize hDD : s.heap.objs.size = D at *
  generalize hCC : H2.objs.size = C at *
  have DleC : D ≤ C := hCle
  let Y : Cx := cxCompX X Nc scope cl C fp s H E'
  have I0 : Inv Y [] (none :: capV σ caps) H { s with heap := h₁, toks := s.toks + ([] : List (Str × Value)).length } := (comp_start I O hcl hcl2 (by rw [hDD]; exact hCle) hfp (fun b hb => by rw [hDD]; exact hfo b hb) old hns₁).wish _
  have Dfree : H D = none := by rw [← hDD]; exact I.hok.fresh (Nat.le_refl _)
  have DneC : D ≠ C := hDC
  have Dfs : D ∉ Y.fs := fun z => by
    have := I.stack.mem (show D ∈ frs X.stack from z)
    obtain ⟨_, o, e, _⟩ := this
    have := Heap.lt_size e
    rw [hDD] at this
    exact Nat.lt_irrefl _ this
  have Dcell : ∀ y c, Y.env.cells.lookup y = some c → c ≠ D := fun y c e z => by
    obtain ⟨v, q⟩ := I.cell y c (hcl y c e).1
    have := q.lt
    rw [z, hDD] at this
    exact Nat.lt_irrefl _ this
  have Dfp : ∀ b ∈ fp, b ≠ D := fun b hb => Nat.ne_of_lt (hfo b hb)
  have fpY : ∀ {H' : Hp}, (∀ b ∈ fp, H' b = none) → ∀ b ∈ fp, FpOk Y [] H' b := fun hn b hb =>
    ⟨hn b hb, Nat.ne_of_lt (Nat.lt_of_lt_of_le (hfo b hb) DleC), fun z => I0.ok.exfs b hb z, .inl hb, fun y c e => (I0.ok.exf b hb).2 y c e, fun p hp => absurd (show p ∈ ([] : List (Addr × Obj)) from hp) (by simp)⟩
  obtain ⟨W, ⟨m0, w0⟩, turn⟩ := h
  have loop : ∀ s₃ : Shared, s₃ = { s with heap := h₁, toks := s.toks + ([] : List (Str × Value)).length } →
      codeAny (model X.prog X.w) X.A (.compLoop (.ListComp elt [⟨.Name x px, iter, ifs, 0⟩] scope pos) 0 (.ref it) (.ref D) (compEnvC scope cl C X.env)) (RR (.ref D) C X.env.frame) s₃ := by
    rintro s₃ rfl
    have err : ∀ e s', YX X fp C s H E' e s' → notedBy (model X.prog X.w) X.A (compEnvC scope cl C X.env) (fun e s'' => RR (.ref D) C X.env.frame (.error e) s'') e s' := fun e s' c =>
      errC hB I hfp (by rw [hDD]; exact hCle) rfl c fun s'' q => hRE D C e s'' q
    refine compLoop_any (fun n s' => ∃ (i : Nat) (o : Option V) (H' : Hp) (ys : List V) (us : List Value) (k : Nat), Inv Y [] (o :: capV σ caps) H' s' ∧ tn i s'.heap ∧ (∀ b ∈ fp, H' b = none) ∧ s'.heap.get? D = some (rawL us k) ∧ H' D = none ∧ Vals ys us ∧ W i n ys H')
      ?_ m0 ⟨0, none, H, [], [], 0, I0, st1, fun b hb => (hfp b hb).1, hacc, Dfree, .nil, w0⟩
    rintro n s3 ⟨i, o3, H3, ys, us, k, I3, st3, fr3, hD3, nD3, rv, w3⟩
    have fpP : ∀ {H' : Hp} {ob : Obj}, (∀ b ∈ fp, H' b = none) → ∀ b ∈ fp, FpOk Y [(D, ob)] H' b := fun hn b hb => by
      obtain ⟨g0, g1, g2, g3, g4, _⟩ := fpY hn b hb
      refine ⟨g0, g1, g2, g3, g4, fun p hp => ?_⟩
      have e : p = (D, _) := List.mem_singleton.mp (show p ∈ [(D, _)] from hp)
      rw [e]
      exact Ne.symm (Dfp b hb)
    have IP : Inv Y [(D, rawL us k)] (o3 :: capV σ caps) H3 s3 := I3.pins_of fun p hp => by
      have e : p = (D, rawL us k) := List.mem_singleton.mp hp
      subst e
      exact ⟨hD3, nD3, DneC, Dfs, fun v z => by cases z⟩
    have pinD : ∀ {σ' : St} {H' : Hp} {s' : Shared} {pl : List (Addr × Obj)}, Inv Y ([(D, rawL us k)] ++ pl) σ' H' s' → s'.heap.get? D = some (rawL us k) ∧ H' D = none := fun I' => by
      have z := I'.pin (D, rawL us k) (List.mem_append_right _ (List.mem_append_left _ List.mem_cons_self))
      exact ⟨z.1, z.2.1⟩
    rcases turn i n ys H3 w3 with ⟨stop, hlen, fin⟩ | ⟨go, hlen, step⟩
    ·
      refine wpAny_mono (T.done Y rfl rfl rfl hc i _ s3 _ H3 (fun _ _ => False) IP (fpP fr3) st3 stop) (fun r s4 hr => ?_) fun _ _ z => z.elim
      obtain ⟨hr, I4⟩ := hr
      subst hr
      obtain ⟨gD, nD⟩ := pinD (pl := []) (by simpa using I4)
      obtain ⟨m, hn, _⟩ := I4.loc
      refine hRR D C s4 m hn (fun h' hs' => ⟨upd H3 D (.lst ys), ?_, (upd_ne (Ne.symm DneC)).trans I4.free, fin D nD⟩) hCle
      have nt : ∀ b ob, H3 b = some ob → b ≠ C := fun b ob e z => by
        have := I4.free
        rw [z] at e
        rw [show H3 C = none from this] at e
        cases e
      have u1 : Un (frs X.stack) fp H H3 s.heap h' := Un.but I4.base hs' (show s.heap.objs.size ≤ C by rw [hDD]; exact hCle)
      have ok1 : HOk X.prog X.w H3 h' := fun b ob e => (I4.hok b ob e).stay (fun c v hc q => (hs'.2 c (by
        rcases hc with z | z
        · rw [z]; exact nt b ob e
        · exact nt c _ z)).trans q) (fun _ q => q) fun _ _ q => q
      have gD' : h'.get? D = some (rawL us k) := (hs'.2 D DneC).trans gD
      exact I.call' (s' := { s4 with heap := h' }) (ch := fp) I4.os (u1.track (Nat.le_of_eq hDD) nD) (ok1.track nD ⟨hlen, us, k, rv, gD'⟩) I4.bare fun b hb => by
        obtain ⟨_, g1, _, g3, g4, g5⟩ := hfp b hb
        exact ⟨g3, g1, g4, g5⟩
    ·
      refine wpAny_mono (T.item Y rfl rfl rfl hc i _ s3 _ H3 (fun _ _ => False) IP (fpP fr3) st3 go) (fun r s4 hr => ?_) fun _ _ z => z.elim
      obtain ⟨u0, hr, h4⟩ := hr
      subst hr
      refine wpAny_mono h4 (fun _ s5 h5 => ?_) fun _ _ z => z.elim
      obtain ⟨x5, H5, I5, r5, y5, st5, fr5⟩ := h5
      have I5' := I5.pinned (fpP fr5) (T.obj _ _ st5)
      have tgt : PG Y (.Name x px) (gName 0) := pg_name (i := 0) O.nd O.hd (.inl (lookup_relabel I.ok.kind O.loc (by intro z; cases z))) (.inr (lookup_relabel I.ok.kind O.loc (by intro z; cases z)))
      refine wpAny_mono (tgt _ s5 _ H5 x5 u0 (fun σ2 H2 => σ2 = some x5 :: capV σ caps ∧ H2 = H5) I5' r5 ⟨rfl, rfl⟩) (fun _ s6 h6 => ?_) err
      obtain ⟨_, _, I6, rfl, rfl⟩ := h6
      refine wpAny_mono ((htc C fp s H).run I6 (step x5 _ y5)) (fun b s7 h7 => ?_) err
      obtain ⟨H7, I7, q7⟩ := h7
      have keepT : ∀ {σ' : St} {H' : Hp} {s' : Shared}, Inv Y ([(D, rawL us k)] ++ pinsAt fp s5.heap) σ' H' s' → tn (i + 1) s'.heap ∧ ∀ b ∈ fp, H' b = none := fun I' =>
        ⟨T.keep _ _ _ st5 fun b hb o e => (I'.pin (b, o) (List.mem_append_right _ (List.mem_append_right _ (mem_pinsAt hb e)))).1, fun b hb => by
          obtain ⟨o, e, d⟩ := T.obj _ _ st5 b hb
          exact (I'.pin (b, o) (List.mem_append_right _ (List.mem_append_right _ (mem_pinsAt hb e)))).2.1⟩
      cases b with
      | false =>
        rw [if_neg Bool.false_ne_true] at q7
        rw [if_neg Bool.false_ne_true]
        obtain ⟨m', hm, w7⟩ := q7
        obtain ⟨gD, nD⟩ := pinD I7
        obtain ⟨k1, k2⟩ := keepT I7
        exact ⟨m', hm, i + 1, some x5, H7, ys, us, k, I7.pins_of (fun p hp => nomatch hp), k1, k2, gD, nD, rv, w7⟩
      | true =>
        rw [if_pos rfl] at q7
        rw [if_pos rfl]
        refine wpAny_mono (hte C fp s H _ s7 _ H7 _ I7 q7) (fun u8 s8 h8 => ?_) err
        obtain ⟨y8, H8, I8, r8, m', hm, w8⟩ := h8
        obtain ⟨gD, nD⟩ := pinD I8
        obtain ⟨k1, k2⟩ := keepT I8
        refine call_meets F.slot_list_append ⟨_, gD, rfl⟩ F.entry_list_append (F.args_list_append_2 _ _) (PySem.list_append D us.toArray k u8 (by rw [List.size_toArray, ← rv.length]; omega)) ⟨gD, ?_⟩
        have q := PySem.IsL.update gD (·.push u8)
        have e1 : us.toArray.push u8 = (us ++ [u8]).toArray := by simp
        rw [e1] at q
        have I8' : Inv Y [] (some x5 :: capV σ caps) H8 s8 := I8.pins_of (fun p hp => nomatch hp)
        have I9 : Inv Y [] (some x5 :: capV σ caps) H8 { s8 with heap := s8.heap.update D (Obj.mapSeq (·.push u8)), toks := s8.toks } :=
          I8'.turned (it := D) (fun b o hb e => (Heap.get?_update_other s8.heap (Obj.mapSeq (·.push u8)) (Ne.symm hb)).trans e) nD DneC (.inr (Nat.le_of_eq hDD)) Dcell (fun p hp => nomatch hp)
        refine ⟨m', hm, i + 1, some x5, H8, ys ++ [y8], us ++ [u8], _, I9, T.keep _ _ _ k1 fun b hb o e => (Heap.get?_update_other s8.heap (Obj.mapSeq (·.push u8)) (Ne.symm (Dfp b hb))).trans e, k2, q, nD, rv.append (.cons r8 .nil), w8⟩
  exact codeAny_compStart_list (loop _ rfl) (T.self X.A 0 _ _ _ st1 (loop _ rfl))
end
def compPostU (M : Model) (A : Around) (E : Value → Shared → Prop) (u : Value → Sem Unit) (Q : Value → Shared → Prop) (acc : Value) (C : Addr) (f : Option Addr) (r : Result) (s' : Shared) : Prop :=
  match r with
  | .ok _ => wpAny M A (u acc) (fun _ s'' => ∃ m, s''.heap.Ns C m ∧ ∀ h', Heap.SameBut C s''.heap h' → Q .none { s'' with heap := h' }) E s'
  | .error x => ∃ m, s'.heap.Ns C m ∧ ∀ h', Heap.SameBut C s'.heap h' → ∀ cenv : Env, cenv.locals = C → cenv.frame = f → wpAny M A (passOn "comprehension.variables-let-go" x cenv : Sem Value) (fun _ _ => False) E { s' with heap := h' }
theorem comp_freeU {M : Model} {A : Around} {E : Value → Shared → Prop} {s : Shared} {env : Env} {e : Expr} {scope : Scope} {pos : Pos} {newAcc first : Sem Value} {g : Comprehension} {gs : List Comprehension} {cl : List (Str × Addr)} {u : Value → Sem Unit} {Q : Value → Shared → Prop}
    (hcl : clausesOf e = g :: gs) (hs : ∀ x, foldedSetIterable g.iter env x = pure x) (hclos : closureFor scope env = pure cl)
    (hkind : scope.kind = .function) (hnames : ∀ x ∈ scope.names, x.2 = .local → scope.names.lookup x.1 = some .local)
    (h : wpAny M A first (fun x s₁ => wpAny M A (pyIter x) (fun it s₂ => wpAny M A newAcc (fun acc s₃ =>
      wpAny M A (newFunctionEnv scope env.globals cl [] env.qual none .none (some env)) (fun cenv s₄ =>
        codeAny M A (.compStart e 0 it acc { cenv with scope := relabel scope env }) (compPostU M A E u Q acc cenv.locals cenv.frame) s₄) E s₃) E s₂) E s₁) E s) :
    wpAny M A (comprehension e scope env pos newAcc false first (some u)) Q E s := by
  unfold comprehension
  rw [hclos, hcl]
  refine wpAny_bind (wpAny_mono h (fun x s₁ h₁ => wpAny_bind (wpAny_standAt (wpAny_bind (wpAny_of_eq (hs x) (wpAny_bind (wpAny_holding (wpAny_mono h₁ (fun it s₂ h₂ =>
    wpAny_standIf (wpAny_bind (wpAny_mono h₂ (fun acc s₃ h₃ => wpAny_bind (wpAny_pure (wpAny_bind (wpAny_mono h₃ (fun cenv s₄ h₄ => ?_) fun _ _ h' => h')))) fun _ _ h' => h')))
      fun _ _ h' => h'))))))) fun _ _ h' => h')
  dsimp only
  have hv : ∀ x ∈ (scope.names.filter fun x => (x.2 == .local || x.2 == .cell) && x.1 != (".0" : Str)).reverse, x.2 = .local →
      Env.kindOf { cenv with scope := relabel scope env } x.1 = some .local := fun x hx hl => lookup_relabel_local (hnames x (List.mem_filter.mp (List.mem_reverse.mp hx)).1 hl)
  have hv' : ∀ x ∈ (scope.names.filter fun x => (x.2 == .local || x.2 == .cell) && x.1 != (".0" : Str)).reverse.drop 1 ++ (scope.names.filter fun x => (x.2 == .local || x.2 == .cell) && x.1 != (".0" : Str)).reverse.take 1,
      x.2 = .local → Env.kindOf { cenv with scope := relabel scope env } x.1 = some .local := fun x hx hl => (List.mem_append.mp hx).elim (fun h1 => hv x (List.mem_of_mem_drop h1) hl) (fun h1 => hv x (List.mem_of_mem_take h1) hl)
  refine wpAny_holding (wpAny_bind (wpAny_attempt (wpAny_holding (wpAny_run (codeAny_mono h₄ fun r s' hr => ?_)))))
  cases r with
  | ok f =>
    refine wpAny_bind (wpAny_rule (wpAny_bind (wpAny_holding (wpAny_mono hr (fun _ s'' hr' => ?_) fun _ _ h' => h'))))
    obtain ⟨m, hn, hr'⟩ := hr'
    exact wpAny_bind (wpAny_comp_letGo (cenv := { cenv with scope := relabel scope env }) hkind _ s'' m hv' hn fun h' m' _ hs' => wpAny_pure (hr' h' hs'))
  | error x =>
    obtain ⟨m, hn, hr⟩ := hr
    exact wpAny_bind (wpAny_holding (wpAny_comp_letGo (cenv := { cenv with scope := relabel scope env }) hkind _ s' m hv hn fun h' m' _ hs' => wpAny_mono (hr h' hs' _ rfl rfl) (fun _ _ f => f.elim) fun _ _ y => y))
section
variable {X : Cx} {pins : List (Addr × Obj)} {σ : St} {H : Hp} {s : Shared}
theorem ps_setCX {E' : XK} {i : Nat} {y x : Str} {px py pos spos : Pos} {Nc : List Str} {caps : List Nat} {scope : Scope} {iter elt : Expr} {ifs : List Expr} {wi : TI} {tc : TT} {te : TE} (hB : Body X) (hw : ∀ e s', FlX X E' e s' → X.xe e s') (O : CompOk X x Nc caps scope) (hc : X.calm = true)
    (hN : X.N.Nodup) (hy : X.N[i]? = some y) (hx : X.env.scope.names.lookup y = some .local) (hi : PI X (.Name x px) iter wi)
    (htc : ∀ cl C fp s H, PIf (cxCompX X Nc scope cl C fp s H E') ifs tc) (hte : ∀ cl C fp s H, PE (cxCompX X Nc scope cl C fp s H E') elt te)
    (hsw : swapsWith (.ListComp elt [⟨.Name x px, iter, ifs, 0⟩] scope pos) (some (.Name y py)) spos.line X.env = pure true) (hs : ∀ x, foldedSetIterable iter X.env x = pure x := by intro _; rfl) :
    PS X (.Assign [.Name y py] (.ListComp elt [⟨.Name x px, iter, ifs, 0⟩] scope pos) spos) (tAsg (tComp wi caps tc te) (gName i)) := by
  intro pins s σ H Dn I h
  rw [exec_Assign_Name_used _ _ _ _ hsw]
  refine wpAny_bind (wpAny_standAt (wpAny_bind ?_))
  obtain ⟨cl, e1, e2, e3⟩ := closure_is (scope := scope) (env := X.env) fun y hy hf => I.ok.has y.1 (.inl (O.fr y hy hf).1)
  show wpAny _ X.A (do let _ ← comprehension (.ListComp elt [⟨.Name x px, iter, ifs, 0⟩] scope pos) scope X.env _ (newList []) false (eval iter X.env) (some (assign (.Name y py) X.env))) _ _ s
  refine wpAny_bind (wpAny_mono (comp_freeU (u := assign (.Name y py) X.env) (Q := fun _ s' => SP X pins Dn .next s') rfl hs e1 O.kind O.names
    (thn (hi pins s σ H _ I h) fun v s1 h1 => thn h1 fun itv s2 h2 => ?_)) (fun _ s' hq => wpAny_pure (wpAny_pure hq)) fun _ _ e => e)
  obtain ⟨it, fp, tn, J, H2, e, I2, T, st2, f2, w2⟩ := h2
  subst e
  refine comp_blockX (RR := fun acc C f => compPostU (model X.prog X.w) X.A X.xe (assign (.Name y py) X.env) (fun _ s' => SP X pins Dn .next s') acc C f) hB O hc e2 e3 (hte cl) (htc cl) I2 T st2 f2 w2 ?_ ?_
  · intro D C s' m hn hq hC
    show wpAny _ X.A (assign (.Name y py) X.env (.ref D)) _ _ _
    obtain ⟨H', I', nC, q⟩ := hq s'.heap (.refl ..)
    have I'' : Inv X pins σ H' s' := I'
    have CL : C ≠ X.env.locals := Nat.ne_of_gt (Nat.lt_of_lt_of_le I2.lt hC)
    have Ccell : ∀ y c, X.env.cells.lookup y = some c → c ≠ C := fun y c e z => by
      obtain ⟨v, q⟩ := I2.cell y c e
      have := Nat.lt_of_lt_of_le q.lt hC
      rw [z] at this
      exact Nat.lt_irrefl _ this
    refine wpAny_assign_Name (store_ok2 I'' hN hy (.inl hx) (show RelV (.ref D) (.ref D) from rfl) (fun s3 I3 hsb => ?_) (.inr hx))
    obtain ⟨a, hsb, ha⟩ := hsb
    have aC : C ≠ a := by
      rcases ha with z | z
      · rw [z]; exact CL
      · exact Ne.symm (Ccell _ _ z)
    refine ⟨m, hn.sameBut hsb aC, fun h4 hs4 => ?_⟩
    refine ⟨_, H', I3.turned (it := C) (t' := s3.toks) (fun b o hb e => (hs4.2 b hb).trans e) nC CL (.inr (Nat.le_trans I2.sz hC)) Ccell (fun p hp z => ?_), q⟩
    · have := Nat.lt_of_lt_of_le (Heap.lt_size (I2.pin p hp).1) hC
      rw [z] at this
      exact Nat.lt_irrefl _ this
  · intro D C e s' ⟨⟨m, hn⟩, hq⟩
    refine ⟨m, hn, fun h' hs' cenv _ hf => ?_⟩
    obtain ⟨ea, Cc, t, H', B, rfl, fx, os, bare, bk, q⟩ := hq h' hs'
    unfold PySem.passOn
    obtain ⟨T', oT, ts, hE, _⟩ := fx.ob
    refine wpAny_bind (wpAny_field (s := { s' with heap := h' }) hE rfl (x := .ref T') rfl ?_)
    rw [if_neg (by simp)]
    refine wpAny_bind (fx_flight (s := { s' with heap := h' }) (f := cenv.frame) fx fun h2 x2 u2 => ?_)
    rw [hf, hB.frame] at x2
    refine wpAny_throw (hw _ _ ⟨ea, Cc, t, H', B, rfl, .seen x2, os, bare, bk.slots (frs_sub hB fx.fr) u2, q⟩)
end
end L2
namespace Mine
open L2
def Sg (c : Nat) : Prop := c = 35 ∨ c = 46
structure Cl (cl : List (List Nat)) (m n : Nat) : Prop where
  hn : cl.length = n
  hm : ∀ t ∈ cl, t.length = m
  sg : ∀ t ∈ cl, ∀ c ∈ t, Sg c
  m1 : 1 ≤ m
  m40 : m ≤ 40
  n1 : 1 ≤ n
  n40 : n ≤ 40
def flip (c : Nat) : Nat := if c = 35 then 46 else 35
def back (cl : List (List Nat)) : List (List Nat) := cl.map fun t => t.reverse.map flip
def col (cl : List (List Nat)) (e : Nat) : List Nat := cl.map fun t => t.getD e 0
def quart (cl : List (List Nat)) (m : Nat) : List (List Nat) := (List.range m).map fun e => (col cl e).map flip
def sgn (cl : List (List Nat)) (m n : Nat) (x y : Int) : Nat := (cl.getD (y % (n : Int)).toNat []).getD (x % (m : Int)).toNat 0
end Mine
set_option maxHeartbeats 4000000
namespace Mine
open PySem L2
def top (i : Nat) : Stmt := PySem.Challenge.pw_heddle_k56_twills_and_satins.main.body.getD i (.Pass ⟨0, 0, 0, 0⟩)
abbrev s_check_size : Stmt := top 48
theorem sc_check_size : FnScope ["ends", "picks"] ["ends", "picks"] (defScope s_check_size) := ⟨rfl, rfl, rfl, by decide +kernel, rfl, by decide +kernel, by decide +kernel⟩
abbrev s_prime_to : Stmt := top 50
theorem sc_prime_to : FnScope ["size", "step"] ["size", "step"] (defScope s_prime_to) := ⟨rfl, rfl, rfl, by decide +kernel, rfl, by decide +kernel, by decide +kernel⟩
abbrev s_written : Stmt := top 51
theorem sc_written : FnScope ["word", "things"] ["word", "things"] (defScope s_written) := ⟨rfl, rfl, rfl, by decide +kernel, rfl, by decide +kernel, by decide +kernel⟩
abbrev s_number_of : Stmt := top 55
theorem sc_number_of : FnScope ["figures"] ["figures"] (defScope s_number_of) := ⟨rfl, rfl, rfl, by decide +kernel, rfl, by decide +kernel, by decide +kernel⟩
abbrev s_read_pattern : Stmt := top 60
theorem sc_read_pattern : FnScope ["text", "known"] ["text", "known"] (defScope s_read_pattern) := ⟨rfl, rfl, rfl, by decide +kernel, rfl, by decide +kernel, by decide +kernel⟩
abbrev s_read_whole : Stmt := top 61
theorem sc_read_whole : FnScope ["text", "reader", "node"] ["text"] (defScope s_read_whole) := ⟨rfl, rfl, rfl, by decide +kernel, rfl, by decide +kernel, by decide +kernel⟩
abbrev s_read_node : Stmt := top 62
theorem sc_read_node : FnScope ["reader", "depth", "word", "things"] ["reader", "depth"] (defScope s_read_node) := ⟨rfl, rfl, rfl, by decide +kernel, rfl, by decide +kernel, by decide +kernel⟩
abbrev s_read_things : Stmt := top 63
theorem sc_read_things : FnScope ["reader", "word", "depth", "things", "kind"] ["reader", "word", "depth"] (defScope s_read_things) := ⟨rfl, rfl, rfl, by decide +kernel, rfl, by decide +kernel, by decide +kernel⟩
abbrev s_read_number : Stmt := top 66
theorem sc_read_number : FnScope ["reader", "number"] ["reader"] (defScope s_read_number) := ⟨rfl, rfl, rfl, by decide +kernel, rfl, by decide +kernel, by decide +kernel⟩
abbrev s_read_comma : Stmt := top 67
theorem sc_read_comma : FnScope ["reader"] ["reader"] (defScope s_read_comma) := ⟨rfl, rfl, rfl, by decide +kernel, rfl, by decide +kernel, by decide +kernel⟩
abbrev s_worked_out : Stmt := top 68
theorem sc_worked_out : FnScope ["node", "known", "things"] ["node", "known"] (defScope s_worked_out) := ⟨rfl, rfl, rfl, by decide +kernel, rfl, by decide +kernel, by decide +kernel⟩
abbrev s_made_of_two : Stmt := top 71
theorem sc_made_of_two : FnScope ["word", "one", "other"] ["word", "one", "other"] (defScope s_made_of_two) := ⟨rfl, rfl, rfl, by decide +kernel, rfl, by decide +kernel, by decide +kernel⟩
abbrev s_law_whole : Stmt := top 74
theorem sc_law_whole : FnScope ["found"] ["found"] (defScope s_law_whole) := ⟨rfl, rfl, rfl, by decide +kernel, rfl, by decide +kernel, by decide +kernel⟩
abbrev s_law_numbers : Stmt := top 75
theorem sc_law_numbers : FnScope ["cell", "most"] ["cell"] (defScope s_law_numbers) := ⟨rfl, rfl, rfl, by decide +kernel, rfl, by decide +kernel, by decide +kernel⟩
abbrev s_law_common : Stmt := top 76
theorem sc_law_common : FnScope ["many", "step"] ["many", "step"] (defScope s_law_common) := ⟨rfl, rfl, rfl, by decide +kernel, rfl, by decide +kernel, by decide +kernel⟩
abbrev s_law_due : Stmt := top 77
theorem sc_law_due : FnScope ["word", "many", "other"] ["word", "many", "other"] (defScope s_law_due) := ⟨rfl, rfl, rfl, by decide +kernel, rfl, by decide +kernel, by decide +kernel⟩
abbrev s_law_up : Stmt := top 78
theorem sc_law_up : FnScope ["word", "many", "other", "x", "y"] ["word", "many", "other", "x", "y"] (defScope s_law_up) := ⟨rfl, rfl, rfl, by decide +kernel, rfl, by decide +kernel, by decide +kernel⟩
abbrev s_law_rows : Stmt := top 79
theorem sc_law_rows : FnScope ["word", "many", "other", "size", "rows", "y"] ["word", "many", "other"] (defScope s_law_rows) := ⟨rfl, rfl, rfl, by decide +kernel, rfl, by decide +kernel, by decide +kernel⟩
abbrev s_law_refused : Stmt := top 80
theorem sc_law_refused : FnScope ["text", "due", "caught", "e"] ["text", "due"] (defScope s_law_refused) := ⟨rfl, rfl, rfl, by decide +kernel, rfl, by decide +kernel, by decide +kernel⟩
abbrev s_law_right : Stmt := top 81
theorem sc_law_right : FnScope ["cell", "word", "many", "other", "gap", "text", "due", "rows", "piece", "x", "y", "found", "told"] ["cell"] (defScope s_law_right) := ⟨rfl, rfl, rfl, by decide +kernel, rfl, by decide +kernel, by decide +kernel⟩
abbrev s_law : Stmt := top 82
theorem sc_law : FnScope ["script", "cell"] ["script"] (defScope s_law) := ⟨rfl, rfl, rfl, by decide +kernel, rfl, by decide +kernel, by decide +kernel⟩
abbrev s_TooLarge_called : Stmt := (clsBody (top 2)).getD 0 (.Pass ⟨0, 0, 0, 0⟩)
theorem sc_TooLarge_called : FnScope ["self"] ["self"] (defScope s_TooLarge_called) := ⟨rfl, rfl, rfl, by decide +kernel, rfl, by decide +kernel, by decide +kernel⟩
abbrev s_NoPattern_called : Stmt := (clsBody (top 6)).getD 0 (.Pass ⟨0, 0, 0, 0⟩)
theorem sc_NoPattern_called : FnScope ["self"] ["self"] (defScope s_NoPattern_called) := ⟨rfl, rfl, rfl, by decide +kernel, rfl, by decide +kernel, by decide +kernel⟩
abbrev s_Piece___init__ : Stmt := (clsBody (top 34)).getD 0 (.Pass ⟨0, 0, 0, 0⟩)
theorem sc_Piece___init__ : FnScope ["self", "texts", "writing"] ["self", "texts", "writing"] (defScope s_Piece___init__) := ⟨rfl, rfl, rfl, by decide +kernel, rfl, by decide +kernel, by decide +kernel⟩
abbrev s_Piece_wide : Stmt := (clsBody (top 34)).getD 1 (.Pass ⟨0, 0, 0, 0⟩)
theorem sc_Piece_wide : FnScope ["self"] ["self"] (defScope s_Piece_wide) := ⟨rfl, rfl, rfl, by decide +kernel, rfl, by decide +kernel, by decide +kernel⟩
abbrev s_Piece_high : Stmt := (clsBody (top 34)).getD 2 (.Pass ⟨0, 0, 0, 0⟩)
theorem sc_Piece_high : FnScope ["self"] ["self"] (defScope s_Piece_high) := ⟨rfl, rfl, rfl, by decide +kernel, rfl, by decide +kernel, by decide +kernel⟩
abbrev s_Piece_sign : Stmt := (clsBody (top 34)).getD 3 (.Pass ⟨0, 0, 0, 0⟩)
theorem sc_Piece_sign : FnScope ["self", "x", "y"] ["self", "x", "y"] (defScope s_Piece_sign) := ⟨rfl, rfl, rfl, by decide +kernel, rfl, by decide +kernel, by decide +kernel⟩
abbrev s_Piece_cloth : Stmt := (clsBody (top 34)).getD 4 (.Pass ⟨0, 0, 0, 0⟩)
theorem sc_Piece_cloth : FnScope ["self"] ["self"] (defScope s_Piece_cloth) := ⟨rfl, rfl, rfl, by decide +kernel, rfl, by decide +kernel, by decide +kernel⟩
abbrev s_Piece_told : Stmt := (clsBody (top 34)).getD 5 (.Pass ⟨0, 0, 0, 0⟩)
theorem sc_Piece_told : FnScope ["self"] ["self"] (defScope s_Piece_told) := ⟨rfl, rfl, rfl, by decide +kernel, rfl, by decide +kernel, by decide +kernel⟩
abbrev s_Twill___init__ : Stmt := (clsBody (top 37)).getD 0 (.Pass ⟨0, 0, 0, 0⟩)
theorem sc_Twill___init__ : FnScope ["self", "over", "under", "size", "first", "texts"] ["self", "over", "under"] (defScope s_Twill___init__) := ⟨rfl, rfl, rfl, by decide +kernel, rfl, by decide +kernel, by decide +kernel⟩
abbrev s_Satin___init__ : Stmt := (clsBody (top 38)).getD 0 (.Pass ⟨0, 0, 0, 0⟩)
theorem sc_Satin___init__ : FnScope ["self", "size", "step", "overs", "texts"] ["self", "size", "step"] (defScope s_Satin___init__) := ⟨rfl, rfl, rfl, by decide +kernel, rfl, by decide +kernel, by decide +kernel⟩
abbrev s_Reader___init__ : Stmt := (clsBody (top 54)).getD 0 (.Pass ⟨0, 0, 0, 0⟩)
theorem sc_Reader___init__ : FnScope ["self", "text"] ["self", "text"] (defScope s_Reader___init__) := ⟨rfl, rfl, rfl, by decide +kernel, rfl, by decide +kernel, by decide +kernel⟩
abbrev s_Reader_ended : Stmt := (clsBody (top 54)).getD 1 (.Pass ⟨0, 0, 0, 0⟩)
theorem sc_Reader_ended : FnScope ["self"] ["self"] (defScope s_Reader_ended) := ⟨rfl, rfl, rfl, by decide +kernel, rfl, by decide +kernel, by decide +kernel⟩
abbrev s_Reader_took : Stmt := (clsBody (top 54)).getD 2 (.Pass ⟨0, 0, 0, 0⟩)
theorem sc_Reader_took : FnScope ["self", "wanted", "behind"] ["self", "wanted"] (defScope s_Reader_took) := ⟨rfl, rfl, rfl, by decide +kernel, rfl, by decide +kernel, by decide +kernel⟩
abbrev s_Reader_stretch : Stmt := (clsBody (top 54)).getD 3 (.Pass ⟨0, 0, 0, 0⟩)
theorem sc_Reader_stretch : FnScope ["self", "signs", "begin"] ["self", "signs"] (defScope s_Reader_stretch) := ⟨rfl, rfl, rfl, by decide +kernel, rfl, by decide +kernel, by decide +kernel⟩
abbrev s_Reader_number : Stmt := (clsBody (top 54)).getD 4 (.Pass ⟨0, 0, 0, 0⟩)
theorem sc_Reader_number : FnScope ["self"] ["self"] (defScope s_Reader_number) := ⟨rfl, rfl, rfl, by decide +kernel, rfl, by decide +kernel, by decide +kernel⟩
set_option genInjectivity false in
structure Adr where
  e_Piece : Addr
  e_Twill : Addr
  e_Satin : Addr
  e_Reader : Addr
  q_THINGS : Addr
  f_Piece___init__ : Addr
  d_Piece___init__ : FuncData
  f_Piece_wide : Addr
  d_Piece_wide : FuncData
  f_Piece_high : Addr
  d_Piece_high : FuncData
  f_Piece_sign : Addr
  d_Piece_sign : FuncData
  f_Piece_cloth : Addr
  d_Piece_cloth : FuncData
  f_Piece_told : Addr
  d_Piece_told : FuncData
  f_Twill___init__ : Addr
  d_Twill___init__ : FuncData
  f_Satin___init__ : Addr
  d_Satin___init__ : FuncData
  f_Reader___init__ : Addr
  d_Reader___init__ : FuncData
  f_Reader_ended : Addr
  d_Reader_ended : FuncData
  f_Reader_took : Addr
  d_Reader_took : FuncData
  f_Reader_stretch : Addr
  d_Reader_stretch : FuncData
  f_Reader_number : Addr
  d_Reader_number : FuncData
  f_check_size : Addr
  d_check_size : FuncData
  f_prime_to : Addr
  d_prime_to : FuncData
  f_written : Addr
  d_written : FuncData
  f_number_of : Addr
  d_number_of : FuncData
  f_read_pattern : Addr
  d_read_pattern : FuncData
  f_read_whole : Addr
  d_read_whole : FuncData
  f_read_node : Addr
  d_read_node : FuncData
  f_read_things : Addr
  d_read_things : FuncData
  f_read_number : Addr
  d_read_number : FuncData
  f_read_comma : Addr
  d_read_comma : FuncData
  f_worked_out : Addr
  d_worked_out : FuncData
  f_made_of_two : Addr
  d_made_of_two : FuncData
  f_law_whole : Addr
  d_law_whole : FuncData
  f_law_numbers : Addr
  d_law_numbers : FuncData
  f_law_common : Addr
  d_law_common : FuncData
  f_law_due : Addr
  d_law_due : FuncData
  f_law_up : Addr
  d_law_up : FuncData
  f_law_rows : Addr
  d_law_rows : FuncData
  f_law_refused : Addr
  d_law_refused : FuncData
  f_law_right : Addr
  d_law_right : FuncData
  f_law : Addr
  d_law : FuncData
  e_WeaveError : Addr
  e_TooLarge : Addr
  f_TooLarge_called : Addr
  d_TooLarge_called : FuncData
  e_NoCloth : Addr
  e_NoLaying : Addr
  e_NoBlock : Addr
  e_NoPattern : Addr
  f_NoPattern_called : Addr
  d_NoPattern_called : FuncData
  e_Unknown : Addr
structure Txt (K : PySem.W.Frag) (mg : Str → Option Value) (t : Adr) : Prop where
  check_size : Df K mg "check_size" s_check_size ["ends", "picks"] t.f_check_size t.d_check_size
  prime_to : Df K mg "prime_to" s_prime_to ["size", "step"] t.f_prime_to t.d_prime_to
  written : Df K mg "written" s_written ["word", "things"] t.f_written t.d_written
  number_of : Df K mg "number_of" s_number_of ["figures"] t.f_number_of t.d_number_of
  read_pattern : Df K mg "read_pattern" s_read_pattern ["text", "known"] t.f_read_pattern t.d_read_pattern
  read_whole : Df K mg "read_whole" s_read_whole ["text"] t.f_read_whole t.d_read_whole
  read_node : Df K mg "read_node" s_read_node ["reader", "depth"] t.f_read_node t.d_read_node
  read_things : Df K mg "read_things" s_read_things ["reader", "word", "depth"] t.f_read_things t.d_read_things
  read_number : Df K mg "read_number" s_read_number ["reader"] t.f_read_number t.d_read_number
  read_comma : Df K mg "read_comma" s_read_comma ["reader"] t.f_read_comma t.d_read_comma
  worked_out : Df K mg "worked_out" s_worked_out ["node", "known"] t.f_worked_out t.d_worked_out
  made_of_two : Df K mg "made_of_two" s_made_of_two ["word", "one", "other"] t.f_made_of_two t.d_made_of_two
  law_whole : Df K mg "_law_whole" s_law_whole ["found"] t.f_law_whole t.d_law_whole
  law_numbers : Df K mg "_law_numbers" s_law_numbers ["cell"] t.f_law_numbers t.d_law_numbers
  law_common : Df K mg "_law_common" s_law_common ["many", "step"] t.f_law_common t.d_law_common
  law_due : Df K mg "_law_due" s_law_due ["word", "many", "other"] t.f_law_due t.d_law_due
  law_up : Df K mg "_law_up" s_law_up ["word", "many", "other", "x", "y"] t.f_law_up t.d_law_up
  law_rows : Df K mg "_law_rows" s_law_rows ["word", "many", "other"] t.f_law_rows t.d_law_rows
  law_refused : Df K mg "_law_refused" s_law_refused ["text", "due"] t.f_law_refused t.d_law_refused
  law_right : Df K mg "_law_right" s_law_right ["cell"] t.f_law_right t.d_law_right
  law : Df K mg "law" s_law ["script"] t.f_law t.d_law
  b_ValueError : mg "ValueError" = none
  b_all : mg "all" = none
  b_any : mg "any" = none
  b_bool : mg "bool" = none
  b_enumerate : mg "enumerate" = none
  b_int : mg "int" = none
  b_isinstance : mg "isinstance" = none
  b_len : mg "len" = none
  b_list : mg "list" = none
  b_range : mg "range" = none
  b_reversed : mg "reversed" = none
  b_str : mg "str" = none
  b_tuple : mg "tuple" = none
  b_zip : mg "zip" = none
  c_LETTERS : ∃ tk, mg "LETTERS" = some (.str "abcdefghijklmnopqrstuvwxyz" tk)
  c_MOST_LETTERS : ∃ tk, mg "MOST_LETTERS" = some (.int 20 tk)
  c_MOST_STRANDS : ∃ tk, mg "MOST_STRANDS" = some (.int 40 tk)
  c_FIGURES : ∃ tk, mg "FIGURES" = some (.str "0123456789" tk)
  c_MOST_DEEP : ∃ tk, mg "MOST_DEEP" = some (.int 12 tk)
  c_MOST_RUNS : ∃ tk, mg "MOST_RUNS" = some (.int 40 tk)
  k_WeaveError : mg "WeaveError" = some (.ref t.e_WeaveError)
  x_WeaveError : Exn K t.e_WeaveError
  k_TooLarge : mg "TooLarge" = some (.ref t.e_TooLarge)
  x_TooLarge : Exn K t.e_TooLarge
  m_TooLarge : Mf K "called" "TooLarge.called" s_TooLarge_called ["self"] t.e_TooLarge t.f_TooLarge_called t.d_TooLarge_called
  r_TooLarge_WeaveError : PySem.W.mroIn K t.e_TooLarge (.ref t.e_WeaveError) = some true
  r_TooLarge_TooLarge : PySem.W.mroIn K t.e_TooLarge (.ref t.e_TooLarge) = some true
  r_TooLarge_NoCloth : PySem.W.mroIn K t.e_TooLarge (.ref t.e_NoCloth) = some false
  r_TooLarge_NoLaying : PySem.W.mroIn K t.e_TooLarge (.ref t.e_NoLaying) = some false
  r_TooLarge_NoBlock : PySem.W.mroIn K t.e_TooLarge (.ref t.e_NoBlock) = some false
  r_TooLarge_NoPattern : PySem.W.mroIn K t.e_TooLarge (.ref t.e_NoPattern) = some false
  r_TooLarge_Unknown : PySem.W.mroIn K t.e_TooLarge (.ref t.e_Unknown) = some false
  k_NoCloth : mg "NoCloth" = some (.ref t.e_NoCloth)
  x_NoCloth : Exn K t.e_NoCloth
  k_NoLaying : mg "NoLaying" = some (.ref t.e_NoLaying)
  x_NoLaying : Exn K t.e_NoLaying
  k_NoBlock : mg "NoBlock" = some (.ref t.e_NoBlock)
  x_NoBlock : Exn K t.e_NoBlock
  k_NoPattern : mg "NoPattern" = some (.ref t.e_NoPattern)
  x_NoPattern : Exn K t.e_NoPattern
  m_NoPattern : Mf K "called" "NoPattern.called" s_NoPattern_called ["self"] t.e_NoPattern t.f_NoPattern_called t.d_NoPattern_called
  r_NoPattern_WeaveError : PySem.W.mroIn K t.e_NoPattern (.ref t.e_WeaveError) = some true
  r_NoPattern_TooLarge : PySem.W.mroIn K t.e_NoPattern (.ref t.e_TooLarge) = some false
  r_NoPattern_NoCloth : PySem.W.mroIn K t.e_NoPattern (.ref t.e_NoCloth) = some false
  r_NoPattern_NoLaying : PySem.W.mroIn K t.e_NoPattern (.ref t.e_NoLaying) = some false
  r_NoPattern_NoBlock : PySem.W.mroIn K t.e_NoPattern (.ref t.e_NoBlock) = some false
  r_NoPattern_NoPattern : PySem.W.mroIn K t.e_NoPattern (.ref t.e_NoPattern) = some true
  r_NoPattern_Unknown : PySem.W.mroIn K t.e_NoPattern (.ref t.e_Unknown) = some false
  k_Unknown : mg "Unknown" = some (.ref t.e_Unknown)
  x_Unknown : Exn K t.e_Unknown
  k_Piece : mg "Piece" = some (.ref t.e_Piece)
  o_Piece : Own K t.e_Piece t.f_Piece___init__
  na_Piece_texts : NoAttr K t.e_Piece "texts"
  na_Piece_writing : NoAttr K t.e_Piece "writing"
  k_Twill : mg "Twill" = some (.ref t.e_Twill)
  o_Twill : Own K t.e_Twill t.f_Twill___init__
  na_Twill_texts : NoAttr K t.e_Twill "texts"
  na_Twill_writing : NoAttr K t.e_Twill "writing"
  is_Twill : Isa K t.e_Twill
  kb_Twill : PySem.W.kitOne K (.ref t.e_Twill) (.ref t.e_Piece) = some true
  im_Twill_wide : Meth K t.e_Twill "wide" t.f_Piece_wide
  im_Twill_high : Meth K t.e_Twill "high" t.f_Piece_high
  im_Twill_sign : Meth K t.e_Twill "sign" t.f_Piece_sign
  im_Twill_cloth : Meth K t.e_Twill "cloth" t.f_Piece_cloth
  im_Twill_told : Meth K t.e_Twill "told" t.f_Piece_told
  k_Satin : mg "Satin" = some (.ref t.e_Satin)
  o_Satin : Own K t.e_Satin t.f_Satin___init__
  na_Satin_texts : NoAttr K t.e_Satin "texts"
  na_Satin_writing : NoAttr K t.e_Satin "writing"
  is_Satin : Isa K t.e_Satin
  kb_Satin : PySem.W.kitOne K (.ref t.e_Satin) (.ref t.e_Piece) = some true
  im_Satin_wide : Meth K t.e_Satin "wide" t.f_Piece_wide
  im_Satin_high : Meth K t.e_Satin "high" t.f_Piece_high
  im_Satin_sign : Meth K t.e_Satin "sign" t.f_Piece_sign
  im_Satin_cloth : Meth K t.e_Satin "cloth" t.f_Piece_cloth
  im_Satin_told : Meth K t.e_Satin "told" t.f_Piece_told
  k_Reader : mg "Reader" = some (.ref t.e_Reader)
  o_Reader : Own K t.e_Reader t.f_Reader___init__
  na_Reader_text : NoAttr K t.e_Reader "text"
  na_Reader_place : NoAttr K t.e_Reader "place"
  cf_Piece : ClsF K t.e_Piece "__init__" t.f_Piece___init__
  g_THINGS : mg "THINGS" = some (.ref t.q_THINGS)
  d_THINGS : Top K t.q_THINGS ([("twill", "nn"), ("satin", "nn"), ("beside", "pp"), ("above", "pp"), ("mirror", "p"), ("upend", "p"), ("back", "p"), ("quarter", "p"), ("tile", "pnn"), ("blocks", "ppp"), ("lay", "pp")] : List (Str × Str))
  m_Piece___init__ : Mf K "__init__" "Piece.__init__" s_Piece___init__ ["self", "texts", "writing"] t.e_Piece t.f_Piece___init__ t.d_Piece___init__
  m_Piece_wide : Mf K "wide" "Piece.wide" s_Piece_wide ["self"] t.e_Piece t.f_Piece_wide t.d_Piece_wide
  m_Piece_high : Mf K "high" "Piece.high" s_Piece_high ["self"] t.e_Piece t.f_Piece_high t.d_Piece_high
  m_Piece_sign : Mf K "sign" "Piece.sign" s_Piece_sign ["self", "x", "y"] t.e_Piece t.f_Piece_sign t.d_Piece_sign
  m_Piece_cloth : Mf K "cloth" "Piece.cloth" s_Piece_cloth ["self"] t.e_Piece t.f_Piece_cloth t.d_Piece_cloth
  m_Piece_told : Mf K "told" "Piece.told" s_Piece_told ["self"] t.e_Piece t.f_Piece_told t.d_Piece_told
  m_Twill___init__ : Mf K "__init__" "Twill.__init__" s_Twill___init__ ["self", "over", "under"] t.e_Twill t.f_Twill___init__ t.d_Twill___init__
  m_Satin___init__ : Mf K "__init__" "Satin.__init__" s_Satin___init__ ["self", "size", "step"] t.e_Satin t.f_Satin___init__ t.d_Satin___init__
  m_Reader___init__ : Mf K "__init__" "Reader.__init__" s_Reader___init__ ["self", "text"] t.e_Reader t.f_Reader___init__ t.d_Reader___init__
  m_Reader_ended : Mf K "ended" "Reader.ended" s_Reader_ended ["self"] t.e_Reader t.f_Reader_ended t.d_Reader_ended
  m_Reader_took : Mf K "took" "Reader.took" s_Reader_took ["self", "wanted"] t.e_Reader t.f_Reader_took t.d_Reader_took
  m_Reader_stretch : Mf K "stretch" "Reader.stretch" s_Reader_stretch ["self", "signs"] t.e_Reader t.f_Reader_stretch t.d_Reader_stretch
  m_Reader_number : Mf K "number" "Reader.number" s_Reader_number ["self"] t.e_Reader t.f_Reader_number t.d_Reader_number
theorem bl1 {fd : FuncData} {ps : List Str} (h : ∀ a0 : Value, bindArgs fd ⟨[a0], []⟩ = pure (ps.zip [a0])) (us : List Value) (hl : us.length = 1) : bindArgs fd ⟨us, []⟩ = pure (ps.zip us) := by
  rcases us with _ | ⟨a0, us⟩
  · cases hl
  rcases us with _ | ⟨b, us⟩
  · exact h a0
  · cases hl
theorem bl2 {fd : FuncData} {ps : List Str} (h : ∀ a0 a1 : Value, bindArgs fd ⟨[a0, a1], []⟩ = pure (ps.zip [a0, a1])) (us : List Value) (hl : us.length = 2) : bindArgs fd ⟨us, []⟩ = pure (ps.zip us) := by
  rcases us with _ | ⟨a0, us⟩
  · cases hl
  rcases us with _ | ⟨a1, us⟩
  · cases hl
  rcases us with _ | ⟨b, us⟩
  · exact h a0 a1
  · cases hl
theorem bl3 {fd : FuncData} {ps : List Str} (h : ∀ a0 a1 a2 : Value, bindArgs fd ⟨[a0, a1, a2], []⟩ = pure (ps.zip [a0, a1, a2])) (us : List Value) (hl : us.length = 3) : bindArgs fd ⟨us, []⟩ = pure (ps.zip us) := by
  rcases us with _ | ⟨a0, us⟩
  · cases hl
  rcases us with _ | ⟨a1, us⟩
  · cases hl
  rcases us with _ | ⟨a2, us⟩
  · cases hl
  rcases us with _ | ⟨b, us⟩
  · exact h a0 a1 a2
  · cases hl
theorem bl5 {fd : FuncData} {ps : List Str} (h : ∀ a0 a1 a2 a3 a4 : Value, bindArgs fd ⟨[a0, a1, a2, a3, a4], []⟩ = pure (ps.zip [a0, a1, a2, a3, a4])) (us : List Value) (hl : us.length = 5) : bindArgs fd ⟨us, []⟩ = pure (ps.zip us) := by
  rcases us with _ | ⟨a0, us⟩
  · cases hl
  rcases us with _ | ⟨a1, us⟩
  · cases hl
  rcases us with _ | ⟨a2, us⟩
  · cases hl
  rcases us with _ | ⟨a3, us⟩
  · cases hl
  rcases us with _ | ⟨a4, us⟩
  · cases hl
  rcases us with _ | ⟨b, us⟩
  · exact h a0 a1 a2 a3 a4
  · cases hl
section
variable {P : Program} {w : World} {K : PySem.W.Frag} {mg : Str → Option Value} {base : Heap} {t : Adr}
def sp_called (z : Str) : Sp := fun vs H Q _ => ∃ v, vs = [v] ∧ Q (.str z) H
theorem ok_TooLarge_called (T : Txt K mg t) : FnOk P w K mg base CX0 1 t.f_TooLarge_called t.d_TooLarge_called ["self"] (sp_called "TooLarge") :=
  T.m_TooLarge.F.ok sc_TooLarge_called (fun vs H Q E h => by obtain ⟨v, rfl, _⟩ := h; rfl) fun cdv A outer s H vs Q E hr h => by
    obtain ⟨v, rfl, k⟩ := h
    exact ⟨_, pss_one (ps_ret pe_str), k⟩
theorem ok_NoPattern_called (T : Txt K mg t) : FnOk P w K mg base CX0 1 t.f_NoPattern_called t.d_NoPattern_called ["self"] (sp_called "NoPattern") :=
  T.m_NoPattern.F.ok sc_NoPattern_called (fun vs H Q E h => by obtain ⟨v, rfl, _⟩ := h; rfl) fun cdv A outer s H vs Q E hr h => by
    obtain ⟨v, rfl, k⟩ := h
    exact ⟨_, pss_one (ps_ret pe_str), k⟩
end
def stps (a b : Int) : List Int := if a < b then rngL (a + 1) 1 (b - a).toNat else rngL (a - 1) (-1) (a - b).toNat
def absI (z : Int) : Int := if z < 0 then -z else z
def go (a : Int) : List Int → List Int
  | [] => []
  | b :: r => stps a b ++ go b r
def pnum : List Int → List Int
  | [] => []
  | s :: r => s :: go s r
def lst (a : Int) : List Int → Int
  | [] => a
  | b :: r => lst b r
def dec (n : Nat) : List Nat := (Str.ofString (toString (n : Int))).cps.toList
theorem dec_tx (n : Nat) : Str.ofString (toString (n : Int)) = tx (dec n) := (tx_of _).symm
def decOk (n : Nat) : Bool := (dec n).all (fun c => decide (48 ≤ c ∧ c ≤ 57)) && decide (1 ≤ (dec n).length ∧ (dec n).length ≤ 2) && decide (¬ ((dec n).length = 2 ∧ (dec n)[0]? = some 48)) && decide (PySem.NumText.digitsVal (dec n) = n)
theorem dec_ok : ∀ n, n < 100 → decOk n = true := by decide +kernel
structure Dec (n : Nat) : Prop where
  dg : ∀ c ∈ dec n, 48 ≤ c ∧ c ≤ 57
  l1 : 1 ≤ (dec n).length
  l2 : (dec n).length ≤ 2
  z : ¬ ((dec n).length = 2 ∧ (dec n)[0]? = some 48)
  v : PySem.NumText.digitsVal (dec n) = n
theorem dec_is {n : Nat} (h : n < 100) : Dec n := by
  have := dec_ok n h
  unfold decOk at this
  simp only [Bool.and_eq_true, decide_eq_true_eq, List.all_eq_true] at this
  obtain ⟨⟨⟨h1, h2⟩, h3⟩, h4⟩ := this
  exact ⟨h1, h2.1, h2.2, h3, h4⟩
def tails : List Nat → List Nat
  | [] => []
  | n :: r => 45 :: (dec n ++ tails r)
def pathT : List Nat → List Nat
  | [] => []
  | n :: r => dec n ++ tails r
def Stop (rest : List Nat) : Prop := ∀ c, rest[0]? = some c → ¬ (48 ≤ c ∧ c ≤ 57) ∧ c ≠ 45
section
variable {P : Program} {w : World} {K : PySem.W.Frag} {mg : Str → Option Value} {base : Heap} {t : Adr}
def rf (u : List Nat) (p : Nat) : List (Str × V) := [("text", .str (tx u)), ("place", .int (p : Int))]
def Rd (t : Adr) (H : Hp) (r dx : Addr) (u : List Nat) (p : Nat) : Prop := H r = some (.ins t.e_Reader dx (rf u p)) ∧ p ≤ u.length ∧ u.length ≤ 1000000
theorem rf_text (u : List Nat) (p : Nat) : (rf u p).lookup ("text" : Str) = some (V.str (tx u)) := rfl
theorem rf_place (u : List Nat) (p : Nat) : (rf u p).lookup ("place" : Str) = some (V.int (p : Int)) := rfl
theorem rf_put (u : List Nat) (p q : Nat) : putF "place" (.int (q : Int)) (rf u p) = rf u q := rfl
theorem big {n : Nat} (h : n ≤ 1000000) : n ≤ sizeLine := Nat.le_trans h (by decide)
def sp_ended (t : Adr) : Sp := fun vs H Q _ => ∃ r dx u p, vs = [.ref r] ∧ Rd t H r dx u p ∧ Q (.bl (decide (p = u.length))) H
theorem ok_Reader_ended (T : Txt K mg t) : FnOk P w K mg base CX0 1 t.f_Reader_ended t.d_Reader_ended ["self"] (sp_ended t) := by
  refine T.m_Reader_ended.F.ok sc_Reader_ended (fun vs H Q E h => ?_) (fun cdv A outer s H vs Q E hr h => ?_)
  · obtain ⟨r, dx, u, p, rfl, _⟩ := h
    rfl
  · obtain ⟨r, dx, u, p, rfl, ⟨hr1, hp, hu⟩, k⟩ := h
    refine ⟨_, (pss_one (ps_ret (pe_cmpR op_eq (pe_fldK (K := K) (pv 0) rfl) (pe_callB call_len_str rfl T.b_len bt_len (pa_cons (pe_fldK (K := K) (pv 0) rfl) pa_nil)) (nomark _)))), ?_⟩
    refine ⟨_, rfl, _, _, _, _, _, rfl, hr1, T.o_Reader.c, T.na_Reader_place, rf_place u p, ?_⟩
    refine ⟨_, rfl, _, _, _, _, _, rfl, hr1, T.o_Reader.c, T.na_Reader_text, rf_text u p, ?_⟩
    refine ⟨_, rfl, (by rw [tx_len]; exact big hu), rfl, ?_⟩
    have e : decide (V.int (p : Int) = V.int ((tx u).length : Int)) = decide (p = u.length) := by
      rw [tx_len]
      apply decide_eq_decide.mpr
      constructor
      · intro z; injection z with z; omega
      · intro z; rw [z]
    rw [e]
    exact k
def sp_took (t : Adr) : Sp := fun vs H Q _ => ∃ r dx u p v, vs = [.ref r, .str (tx v)] ∧ Rd t H r dx u p ∧ v.length ≤ 100 ∧
  ((u.drop p).take v.length = v → Q (.bl true) (upd H r (.ins t.e_Reader dx (rf u (p + v.length))))) ∧ ((u.drop p).take v.length ≠ v → Q (.bl false) H)
theorem cut_seg {u : List Nat} {p n : Nat} (h : p ≤ u.length) : cutT u (some (p : Int)) (some ((p : Int) + (n : Int))) = (u.drop p).take n := by
  unfold cutT
  rw [show ((p : Int) + (n : Int)) = ((p + n : Nat) : Int) by omega, HT.sIx_nat, HT.sIx_nat, Nat.min_eq_left h]
  by_cases h2 : p + n ≤ u.length
  · rw [Nat.min_eq_left h2, Nat.add_sub_cancel_left]
  · rw [Nat.min_eq_right (by omega), List.take_of_length_le (by rw [List.length_drop]; omega), List.take_of_length_le (by rw [List.length_drop]; omega)]
theorem ok_Reader_took (T : Txt K mg t) : FnOk P w K mg base CX0 1 t.f_Reader_took t.d_Reader_took ["self", "wanted"] (sp_took t) := by
  refine T.m_Reader_took.F.ok sc_Reader_took (fun vs H Q E h => ?_) (fun cdv A outer s H vs Q E hr h => ?_)
  · obtain ⟨r, dx, u, p, v, rfl, _⟩ := h
    rfl
  · obtain ⟨r, dx, u, p, v, rfl, ⟨hr1, hp, hu⟩, hv, k1, k2⟩ := h
    refine ⟨_, (pss_cons (ps_set (i := 2) sc_Reader_took.nd rfl (Or.inl rfl) (pe_op op_add (pe_fldK (K := K) (pv 0) rfl) (pe_callB call_len_str rfl T.b_len bt_len (pa_cons (pv 1) pa_nil))))
      (pss_cons (ps_if (pt_cmpR op_ne (pe_slice sl_str (pe_fldK (K := K) (pv 0) rfl) (po_some (pe_fldK (K := K) (pv 0) rfl)) (po_some (pv 2))) (pv 1) (nomark _))
        (pss_one (ps_ret pe_bl))
        pss_nil)
      (pss_cons (ps_fldK (K := K) (pv 0) (pv 2))
      (pss_one (ps_ret pe_bl))))), ?_⟩
    refine ⟨_, rfl, _, _, _, _, _, rfl, hr1, T.o_Reader.c, T.na_Reader_place, rf_place u p, _, rfl, _, rfl, (by rw [tx_len]; exact big (by omega)), _, _, rfl, rfl, ?_⟩
    rw [tx_len]
    refine ⟨_, rfl, _, _, _, _, _, rfl, hr1, T.o_Reader.c, T.na_Reader_text, rf_text u p, ?_⟩
    refine ⟨_, rfl, _, _, _, _, _, rfl, hr1, T.o_Reader.c, T.na_Reader_place, rf_place u p, _, rfl, _, rfl, _, rfl, u, rfl, big hu, _, rfl, rfl, _, rfl, ?_⟩
    rw [cut_seg hp]
    by_cases hc : (u.drop p).take v.length = v
    · refine iteNS (by rw [hc]) ?_
      refine ⟨_, rfl, _, rfl, _, _, _, _, rfl, hr1, T.o_Reader.c, T.na_Reader_place, (by show 2 < 1000; decide), ?_⟩
      show Q (.bl true) (upd H r (.ins t.e_Reader dx (putF ("place" : Str) (.int ((p : Int) + (v.length : Int))) (rf u p))))
      rw [show ((p : Int) + (v.length : Int)) = ((p + v.length : Nat) : Int) by omega, rf_put]
      exact k1 hc
    · refine iteNp (fun z => hc (by injection z with z; exact tx_inj z)) ?_
      exact k2 hc
def dg (c : Nat) : Bool := decide (48 ≤ c ∧ c ≤ 57)
def figs (l : List Nat) : List Nat := l.takeWhile dg
def numV (v : List Nat) : V := if (1 ≤ v.length ∧ v.length ≤ 2) ∧ ¬ (v.length = 2 ∧ v[0]? = some 48) then .int ((PySem.NumText.digitsVal v : Nat) : Int) else .non
theorem upd_self {H : Hp} {r : Addr} {o : HO} (h : H r = some o) : upd H r o = H := by
  funext b
  unfold upd
  split
  next e => rw [e, h]
  next => rfl
theorem z48 (c : Nat) : (V.str ⟨#[c]⟩ : V) = V.str "0" ↔ c = 48 := by
  have e : (("0" : Str)) = tx [48] := by decide +kernel
  rw [e]
  exact ⟨fun z => by injection z with z; exact (List.cons.inj (tx_inj (a := [c]) (b := [48]) z)).1, fun z => by rw [z]; rfl⟩
def sp_numof : Sp := fun vs H Q _ => ∃ v : List Nat, vs = [.str (tx v)] ∧ (∀ c ∈ v, 48 ≤ c ∧ c ≤ 57) ∧ v.length ≤ 1000000 ∧ Q (numV v) H
theorem ok_number_of (T : Txt K mg t) : FnOk P w K mg base CX0 1 t.f_number_of t.d_number_of ["figures"] sp_numof := by
  refine T.number_of.F.ok sc_number_of (fun vs H Q E h => ?_) (fun cdv A outer s H vs Q E hr h => ?_)
  · obtain ⟨v, rfl, _⟩ := h
    rfl
  · obtain ⟨v, rfl, hd, hl, k⟩ := h
    have sz : (tx v).length ≤ sizeLine := by rw [tx_len]; exact big hl
    refine ⟨_, (pss_cons (ps_if (PW.pt (pw_or (pt_cmpR op_lt (pe_callB call_len_str rfl T.b_len bt_len (pa_cons (pv 0) pa_nil)) pe_int (nomark _)) (pw_or1 (pt_cmpR op_gt (pe_callB call_len_str rfl T.b_len bt_len (pa_cons (pv 0) pa_nil)) pe_int (nomark _)))))
        (pss_one (ps_ret pe_non))
        pss_nil)
      (pss_cons (ps_if (PW.pt (pw_and (pt_cmpR op_eq (pe_callB call_len_str rfl T.b_len bt_len (pa_cons (pv 0) pa_nil)) pe_int (nomark _)) (pw_and1 (pt_cmpR op_eq (pe_ix ix_str (pv 0) pe_int (fun _ _ => rfl)) pe_str (nomark _)))))
        (pss_one (ps_ret pe_non))
        pss_nil)
      (pss_one (ps_ret (pe_callTy call_intT rfl T.b_int bt_int (pa_cons (pv 0) pa_nil)))))), ?_⟩
    unfold numV at k
    refine ⟨_, rfl, _, rfl, sz, _, _, rfl, rfl, _, rfl, ?_⟩
    rw [tx_len]
    refine ite2D (fun c1 => ?_) (fun c1 => ?_)
    · refine iteT ?_
      rw [if_neg (by omega)] at k
      exact k
    · refine ⟨_, rfl, _, rfl, sz, _, _, rfl, rfl, _, rfl, ?_⟩
      rw [tx_len]
      refine ite2D (fun c2 => ?_) (fun c2 => ?_)
      · rw [if_neg (by omega)] at k
        exact k
      · refine ⟨_, rfl, _, rfl, sz, rfl, _, rfl, ?_⟩
        rw [tx_len]
        have fin : ¬ (v.length = 2 ∧ v[0]? = some 48) → ∃ z n, [V.str (tx v)] = [V.str z] ∧ PySem.intText? z = some n ∧ z.length ≤ 640 ∧ Q (.int n) H := fun c3 => by
          rw [if_pos ⟨by omega, c3⟩] at k
          refine ⟨tx v, _, rfl, PySem.intText_digits (x := tx v) (by rw [tx_list]; exact hd) (by rw [tx_list]; intro z; rw [z] at c1; simp at c1) (by rw [tx_len]; omega), by rw [tx_len]; omega, ?_⟩
          rw [tx_list]
          exact k
        refine ite2D (fun c3 => ?_) (fun c3 => ?_)
        · have l2 : v.length = 2 := by injection c3 with c3; omega
          have h0 : 0 < v.length := by omega
          refine ⟨_, rfl, _, _, v[0], rfl, rfl, sz, atI_of (by decide) (by rw [tx_list]; exact List.getElem?_eq_getElem h0), rfl, _, rfl, ?_⟩
          refine ite2D (fun c4 => ?_) (fun c4 => ?_)
          · rw [if_neg (fun z => z.2 ⟨l2, by rw [List.getElem?_eq_getElem h0, (z48 _).mp c4]⟩)] at k
            exact k
          · exact ⟨_, rfl, fin fun z => c4 ((z48 _).mpr (by have := z.2; rw [List.getElem?_eq_getElem h0] at this; exact Option.some.inj this))⟩
        · exact iteF ⟨_, rfl, fin fun z => c3 (by rw [z.1]; rfl)⟩
theorem rf_meth (u : List Nat) (p : Nat) : (rf u p).lookup ("ended" : Str) = none ∧ (rf u p).lookup ("took" : Str) = none ∧ (rf u p).lookup ("number" : Str) = none ∧ (rf u p).lookup ("stretch" : Str) = none := ⟨rfl, rfl, rfl, rfl⟩
def sp_init : Sp := fun vs H Q _ => ∃ (C r dx : Addr) (u : List Nat), vs = [.ref r, .str (tx u)] ∧ H r = some (.ins C dx []) ∧ Q .non (upd H r (.ins C dx (rf u 0)))
theorem ok_Reader___init__ (T : Txt K mg t) : FnOk P w K mg base CX0 1 t.f_Reader___init__ t.d_Reader___init__ ["self", "text"] (fun vs H Q E => ∃ (r dx : Addr) (u : List Nat), vs = [.ref r, .str (tx u)] ∧ H r = some (.ins t.e_Reader dx []) ∧ Q .non (upd H r (.ins t.e_Reader dx (rf u 0)))) := by
  refine T.m_Reader___init__.F.ok sc_Reader___init__ (fun vs H Q E h => ?_) (fun cdv A outer s H vs Q E hr h => ?_)
  · obtain ⟨r, dx, u, rfl, _⟩ := h
    rfl
  · obtain ⟨r, dx, u, rfl, h1, k⟩ := h
    refine ⟨_, (pss_cons (ps_fldK (K := K) (pv 0) (pv 1))
      (pss_one (ps_fldK (K := K) (pv 0) pe_int))), ?_⟩
    refine ⟨_, rfl, _, rfl, _, _, _, _, rfl, h1, T.o_Reader.c, T.na_Reader_text, (by decide), ?_⟩
    refine ⟨_, rfl, _, _, _, _, rfl, upd_same, T.o_Reader.c, T.na_Reader_place, (by show 1 < 1000; decide), ?_⟩
    rw [upd_upd]
    exact k
def stp (sg l : List Nat) : List Nat := l.takeWhile fun c => decide (c ∈ sg)
theorem stp_eq {sg : List Nat} : ∀ (l : List Nat) (n : Nat), n ≤ l.length → (∀ c ∈ l.take n, c ∈ sg) → (∀ c, l[n]? = some c → c ∉ sg) → stp sg l = l.take n
  | [], n, h, _, _ => by simp [stp]
  | c :: l, 0, _, _, h2 => by
    unfold stp
    rw [List.takeWhile_cons, if_neg (by rw [decide_eq_true_eq]; exact h2 c rfl)]
    rfl
  | c :: l, n + 1, h, h1, h2 => by
    have hc : c ∈ sg := h1 c (by simp)
    have := stp_eq (sg := sg) l n (by simpa using h) (fun d hd => h1 d (by rw [List.take_succ_cons]; exact List.mem_cons_of_mem _ hd)) (fun d hd => h2 d (by simpa using hd))
    unfold stp at this ⊢
    rw [List.takeWhile_cons, if_pos (decide_eq_true hc), this, List.take_succ_cons]
theorem stp_app {sg a b : List Nat} (h1 : ∀ c ∈ a, c ∈ sg) (h2 : ∀ c, b[0]? = some c → c ∉ sg) : stp sg (a ++ b) = a := by
  have := stp_eq (sg := sg) (a ++ b) a.length (by simp) (fun c hc => h1 c (by rw [List.take_left' rfl] at hc; exact hc)) (fun c hc => h2 c (by rw [List.getElem?_append_right (Nat.le_refl _), Nat.sub_self] at hc; exact hc))
  rw [this, List.take_left' rfl]
theorem stp_all (sg : List Nat) : ∀ (l : List Nat), (∀ c ∈ stp sg l, c ∈ sg) ∧ (stp sg l).length ≤ l.length
  | [] => ⟨fun c hc => (by cases hc), Nat.le_refl _⟩
  | a :: l => by
    have ih := stp_all sg l
    unfold stp at ih ⊢
    rw [List.takeWhile_cons]
    by_cases h : a ∈ sg
    · rw [if_pos (decide_eq_true h)]
      refine ⟨fun c hc => ?_, by simp only [List.length_cons]; omega⟩
      rcases List.mem_cons.mp hc with e | e
      · rw [e]; exact h
      · exact ih.1 c e
    · rw [if_neg (by rw [decide_eq_true_eq]; exact h)]
      exact ⟨fun c hc => (by cases hc), Nat.zero_le _⟩
theorem in_signs (sg : List Nat) (c : Nat) : (!(Builtin.Str.occurrences (tx sg) ⟨#[c]⟩ 0 (tx sg).length 1).isEmpty) = decide (c ∈ sg) := by
  rw [StrLaws.found_one, tx_list]
def sp_stretch (t : Adr) : Sp := fun vs H Q _ => ∃ r dx u p sg, vs = [.ref r, .str (tx sg)] ∧ Rd t H r dx u p ∧ sg.length ≤ 1000 ∧ Q (.str (tx (stp sg (u.drop p)))) (upd H r (.ins t.e_Reader dx (rf u (p + (stp sg (u.drop p)).length))))
theorem ok_Reader_stretch (T : Txt K mg t) : FnOk P w K mg base CX0 2 t.f_Reader_stretch t.d_Reader_stretch ["self", "signs"] (sp_stretch t) := by
  have G_Reader_ended : FnOk P w K mg base CX0 1 t.f_Reader_ended t.d_Reader_ended _ _ := ok_Reader_ended T
  refine T.m_Reader_stretch.F.ok sc_Reader_stretch (fun vs H Q E h => ?_) (fun cdv A outer s H vs Q E hr h => ?_)
  · obtain ⟨r, dx, u, p, sg, rfl, _⟩ := h
    rfl
  · obtain ⟨r, dx, u, p, sg, rfl, ⟨hr1, hp, hu⟩, hsg, k⟩ := h
    refine ⟨_, (pss_cons (ps_set (i := 2) sc_Reader_stretch.nd rfl (Or.inl rfl) (pe_fldK (K := K) (pv 0) rfl))
      (pss_cons (ps_while PassesOwn.never (PW.pt (pw_and (pt_not (pt_val (pe_meth0 (pv 0) T.o_Reader.c T.m_Reader_ended.m (G_Reader_ended.mono (by decide)) hr T.m_Reader_ended.b .nil pass0))) (pw_and1 (pt_cmpR op_in_str (pe_ix ix_str (pe_fldK (K := K) (pv 0) rfl) (pe_fldK (K := K) (pv 0) rfl) (fun _ _ => rfl)) (pv 1) rfl))))
        (pss_one (ps_fldaugK (K := K) (pv 0) pe_int in_add)))
      (pss_one (ps_ret (pe_slice sl_str (pe_fldK (K := K) (pv 0) rfl) (po_some (pv 2)) (po_some (pe_fldK (K := K) (pv 0) rfl))))))), ?_⟩
    refine ⟨_, rfl, _, _, _, _, _, rfl, hr1, T.o_Reader.c, T.na_Reader_place, rf_place u p, ?_⟩
    refine ⟨fun m σ H2 => ∃ n, σ = [some (.ref r), some (.str (tx sg)), some (.int (p : Int))] ∧ H2 = upd H r (.ins t.e_Reader dx (rf u (p + n))) ∧ p + n ≤ u.length ∧ (∀ c ∈ (u.drop p).take n, c ∈ sg) ∧ m = u.length - (p + n),
      ⟨_, 0, rfl, (upd_self hr1).symm, hp, (fun c hc => by simp at hc), rfl⟩, ?_⟩
    rintro m σ H2 ⟨n, rfl, rfl, hn, ha, rfl⟩
    have hS : (upd H r (.ins t.e_Reader dx (rf u (p + n)))) r = some (.ins t.e_Reader dx (rf u (p + n))) := upd_same
    have done : (∀ c, (u.drop p)[n]? = some c → c ∉ sg) → (u.drop p).take n = stp sg (u.drop p) := fun hs => (stp_eq _ n (by rw [List.length_drop]; omega) ha hs).symm
    have ln : ((u.drop p).take n).length = n := by rw [List.length_take, List.length_drop]; omega
    have e3 : cutT u (some (p : Int)) (some ((p + n : Nat) : Int)) = (u.drop p).take n := by rw [Int.natCast_add]; exact cut_seg hp
    have fin : (u.drop p).take n = stp sg (u.drop p) → Q (.str (tx (cutT u (some (p : Int)) (some ((p + n : Nat) : Int))))) (upd H r (.ins t.e_Reader dx (rf u (p + n)))) := fun e2 => by
      have e1 : (stp sg (u.drop p)).length = n := by rw [← e2, ln]
      rw [e3, e2]; rw [e1] at k; exact k
    refine ⟨_, rfl, r, dx, rf u (p + n), rfl, hS, (rf_meth u _).1, r, dx, u, p + n, rfl, ⟨hS, hn, hu⟩, _, rfl, ?_⟩
    by_cases c1 : p + n = u.length
    · rw [decide_eq_true c1]
      refine iteF ?_
      refine iteF ?_
      exact ⟨_, rfl, _, _, _, _, _, rfl, hS, T.o_Reader.c, T.na_Reader_text, rf_text u _, _, rfl, _, rfl, _, rfl, _, _, _, _, _, rfl, hS, T.o_Reader.c, T.na_Reader_place, rf_place u _, _, rfl, u, rfl, big hu,
        fin (done fun c hc => by rw [List.getElem?_eq_none (by rw [List.length_drop]; omega)] at hc; cases hc)⟩
    · rw [decide_eq_false c1]
      refine iteT ?_
      have hlt : p + n < u.length := by omega
      refine ⟨_, rfl, _, _, _, _, _, rfl, hS, T.o_Reader.c, T.na_Reader_text, rf_text u _, _, rfl, _, _, _, _, _, rfl, hS, T.o_Reader.c, T.na_Reader_place, rf_place u _, _, _, u[p + n], rfl, rfl, (by rw [tx_len]; exact big hu),
        atI_of (by omega) (by rw [Int.toNat_natCast, tx_list]; exact List.getElem?_eq_getElem hlt), _, rfl, _, _, rfl, rfl, _, rfl, ?_⟩
      rw [in_signs]
      refine ite2D (fun c2 => ?_) (fun c2 => ?_)
      · refine ⟨_, fun σ' H' h => h, ?_⟩
        refine ⟨_, rfl, _, _, _, _, _, rfl, hS, T.o_Reader.c, T.na_Reader_place, rf_place u _, _, _, rfl, rfl, dx, rf u (p + n), hS, (by show 2 < 1000; decide), ?_⟩
        refine ⟨u.length - (p + (n + 1)), by omega, n + 1, rfl, ?_, by omega, fun c hc => ?_, rfl⟩
        · rw [upd_upd]
          rfl
        · rw [List.take_add_one, List.getElem?_drop, List.getElem?_eq_getElem hlt] at hc
          rcases List.mem_append.mp hc with h | h
          · exact ha c h
          · rw [show c = u[p + n] by simpa using h]
            exact c2
      · exact ⟨_, rfl, _, _, _, _, _, rfl, hS, T.o_Reader.c, T.na_Reader_text, rf_text u _, _, rfl, _, rfl, _, rfl, _, _, _, _, _, rfl, hS, T.o_Reader.c, T.na_Reader_place, rf_place u _, _, rfl, u, rfl, big hu,
          fin (done fun c hc => by rw [List.getElem?_drop, List.getElem?_eq_getElem hlt] at hc; cases hc; exact c2)⟩
def tenF : List Nat := [48, 49, 50, 51, 52, 53, 54, 55, 56, 57]
theorem ten_is : (("0123456789" : Str)) = tx tenF := by decide +kernel
theorem tenF_iff {c : Nat} : c ∈ tenF ↔ 48 ≤ c ∧ c ≤ 57 := by
  unfold tenF
  simp only [List.mem_cons, List.not_mem_nil, or_false]
  omega
def sp_number (t : Adr) : Sp := fun vs H Q _ => ∃ r dx u p, vs = [.ref r] ∧ Rd t H r dx u p ∧ Q (numV (stp tenF (u.drop p))) (upd H r (.ins t.e_Reader dx (rf u (p + (stp tenF (u.drop p)).length))))
theorem ok_Reader_number (T : Txt K mg t) : FnOk P w K mg base CX0 3 t.f_Reader_number t.d_Reader_number ["self"] (sp_number t) := by
  have G_Reader_stretch : FnOk P w K mg base CX0 2 t.f_Reader_stretch t.d_Reader_stretch _ _ := ok_Reader_stretch T
  have G_number_of : FnOk P w K mg base CX0 1 t.f_number_of t.d_number_of _ _ := ok_number_of T
  refine T.m_Reader_number.F.ok sc_Reader_number (fun vs H Q E h => ?_) (fun cdv A outer s H vs Q E hr h => ?_)
  · obtain ⟨r, dx, u, p, rfl, _⟩ := h
    rfl
  · obtain ⟨r, dx, u, p, rfl, hR, k⟩ := h
    refine ⟨_, (pss_one (ps_ret (pe_call (G_number_of.mono (by decide)) hr rfl T.number_of.m T.number_of.F.kp T.number_of.b .nil pass0 (pa_cons (pe_meth (pv 0) T.o_Reader.c T.m_Reader_stretch.m (G_Reader_stretch.mono (by decide)) hr T.m_Reader_stretch.b .nil pass0 (pa_cons (pe_glob (v := .str "0123456789") rfl T.c_FIGURES.choose_spec ⟨_, rfl⟩) pa_nil)) pa_nil)))), ?_⟩
    have hf := stp_all tenF (u.drop p)
    refine ⟨_, rfl, r, dx, rf u p, rfl, hR.1, (rf_meth u p).2.2.2, r, dx, u, p, tenF, (by rw [ten_is]; rfl), hR, (by decide), ?_⟩
    exact ⟨_, rfl, fun c hc => tenF_iff.mp (hf.1 c hc), by have := hR.2.2; have := hf.2; rw [List.length_drop] at this; omega, k⟩
def sps (g : Nat) : List Nat := List.replicate g 32
def Sep (b : List Nat) : Prop := ∀ c, b[0]? = some c → c = 40 ∨ c = 41 ∨ c = 44
theorem sps_len (g : Nat) : (sps g).length = g := List.length_replicate
theorem one_sp : ((" " : Str)) = tx [32] := by decide +kernel
def NoSp (b : List Nat) : Prop := ∀ c, b[0]? = some c → c ≠ 32
theorem Sep.noSp {b : List Nat} (h : Sep b) : NoSp b := fun c hc => by have := h c hc; omega
theorem stp_sps {g : Nat} {b : List Nat} (hb : NoSp b) : stp [32] (sps g ++ b) = sps g := stp_app (fun c hc => by rw [(List.mem_replicate.mp hc).2]; exact List.mem_singleton.mpr rfl) (fun c hc z => hb c hc (List.mem_singleton.mp z))
theorem stp_dec {n g : Nat} {b : List Nat} (hn : n < 100) (hb : Sep b) : stp tenF (dec n ++ (sps g ++ b)) = dec n := stp_app (fun c hc => tenF_iff.mpr ((dec_is hn).dg c hc)) (fun c hc z => by
  have z := tenF_iff.mp z
  cases g with
  | zero => have := hb c hc; omega
  | succ g => have : c = 32 := by
                have e : some 32 = some c := hc
                injection e with e
                exact e.symm
              omega)
theorem drop_app {u a b : List Nat} {p : Nat} (e : u.drop p = a ++ b) : u.drop (p + a.length) = b := by rw [← List.drop_drop, e, List.drop_left' rfl]
theorem drop_one {u b : List Nat} {p c : Nat} (e : u.drop p = c :: b) : u.drop (p + [c].length) = b := drop_app (a := [c]) e
theorem app_le {u a b : List Nat} {p : Nat} (hp : p ≤ u.length) (e : u.drop p = a ++ b) : p + a.length ≤ u.length := by
  have := congrArg List.length e
  rw [List.length_drop, List.length_append] at this
  omega
def rdAt (t : Adr) (H : Hp) (r dx : Addr) (u : List Nat) (p : Nat) : Hp := upd H r (.ins t.e_Reader dx (rf u p))
theorem rd_at {H : Hp} {r dx : Addr} {u a b : List Nat} {p : Nat} (h : Rd t H r dx u p) (e : u.drop p = a ++ b) : Rd t (rdAt t H r dx u (p + a.length)) r dx u (p + a.length) := ⟨upd_same, app_le h.2.1 e, h.2.2⟩
theorem rdAt_at {H : Hp} {r dx : Addr} {u : List Nat} {p q : Nat} : rdAt t (rdAt t H r dx u p) r dx u q = rdAt t H r dx u q := upd_upd
theorem numV_dec {n : Nat} (hn : n < 100) : numV (dec n) = .int (n : Int) := by
  have d := dec_is hn
  unfold numV
  rw [if_pos ⟨⟨d.l1, d.l2⟩, d.z⟩, d.v]
def sp_gnum (t : Adr) : Sp := fun vs H Q _ => ∃ r dx u p n g b, vs = [.ref r] ∧ Rd t H r dx u p ∧ u.drop p = dec n ++ (sps g ++ b) ∧ n < 100 ∧ Sep b ∧ Q (.int ((n : Nat) : Int)) (rdAt t H r dx u (p + (dec n).length + g))
theorem ok_read_number (T : Txt K mg t) : FnOk P w K mg base CX0 4 t.f_read_number t.d_read_number ["reader"] (sp_gnum t) := by
  have G_Reader_number : FnOk P w K mg base CX0 3 t.f_Reader_number t.d_Reader_number _ _ := ok_Reader_number T
  have G_Reader_stretch : FnOk P w K mg base CX0 2 t.f_Reader_stretch t.d_Reader_stretch _ _ := ok_Reader_stretch T
  refine T.read_number.F.ok sc_read_number (fun vs H Q E h => ?_) (fun cdv A outer s H vs Q E hr h => ?_)
  · obtain ⟨r, dx, u, p, n, g, b, rfl, _⟩ := h
    rfl
  · obtain ⟨r, dx, u, p, n, g, b, rfl, hR, hd, hn, hb, k⟩ := h
    refine ⟨_, (pss_cons (ps_set (i := 1) sc_read_number.nd rfl (Or.inl rfl) (pe_meth0 (pv 0) T.o_Reader.c T.m_Reader_number.m (G_Reader_number.mono (by decide)) hr T.m_Reader_number.b .nil pass0))
      (pss_cons (ps_if (pt_cmpR op_isN (pv 1) pe_non (nomark _))
        (pss_one ps_never)
        pss_nil)
      (pss_cons (ps_expr (pe_meth (pv 0) T.o_Reader.c T.m_Reader_stretch.m (G_Reader_stretch.mono (by decide)) hr T.m_Reader_stretch.b .nil pass0 (pa_cons pe_str pa_nil)))
      (pss_one (ps_ret (pv 1)))))), ?_⟩
    refine ⟨_, rfl, r, dx, rf u p, rfl, hR.1, (rf_meth u p).2.2.1, r, dx, u, p, rfl, hR, ?_⟩
    show ∃ _, _
    rw [hd, stp_dec hn hb, numV_dec hn]
    refine ⟨_, rfl, rfl, _, rfl, ?_⟩
    refine iteDn (fun z => nomatch z) ?_
    have hR2 := rd_at hR hd
    have hd2 := drop_app hd
    refine ⟨_, rfl, r, dx, rf u (p + (dec n).length), rfl, hR2.1, (rf_meth u _).2.2.2, r, dx, u, _, [32], (by rw [one_sp]; rfl), hR2, (by decide), ?_⟩
    rw [hd2, stp_sps hb.noSp, sps_len]
    show ∃ _, _
    refine ⟨_, rfl, ?_⟩
    rw [upd_upd]
    exact k
def sp_gcomma (t : Adr) : Sp := fun vs H Q _ => ∃ r dx u p g b, vs = [.ref r] ∧ Rd t H r dx u p ∧ u.drop p = 44 :: (sps g ++ b) ∧ NoSp b ∧ Q .non (rdAt t H r dx u (p + 1 + g))
theorem one_comma : (("," : Str)) = tx [44] := by decide +kernel
theorem ok_read_comma (T : Txt K mg t) : FnOk P w K mg base CX0 3 t.f_read_comma t.d_read_comma ["reader"] (sp_gcomma t) := by
  have G_Reader_took : FnOk P w K mg base CX0 1 t.f_Reader_took t.d_Reader_took _ _ := ok_Reader_took T
  have G_Reader_stretch : FnOk P w K mg base CX0 2 t.f_Reader_stretch t.d_Reader_stretch _ _ := ok_Reader_stretch T
  refine T.read_comma.F.ok sc_read_comma (fun vs H Q E h => ?_) (fun cdv A outer s H vs Q E hr h => ?_)
  · obtain ⟨r, dx, u, p, g, b, rfl, _⟩ := h
    rfl
  · obtain ⟨r, dx, u, p, g, b, rfl, hR, hd, hb, k⟩ := h
    refine ⟨_, (pss_cons (ps_if (pt_not (pt_val (pe_meth (pv 0) T.o_Reader.c T.m_Reader_took.m (G_Reader_took.mono (by decide)) hr T.m_Reader_took.b .nil pass0 (pa_cons pe_str pa_nil))))
        (pss_one ps_never)
        pss_nil)
      (pss_one (ps_expr (pe_meth (pv 0) T.o_Reader.c T.m_Reader_stretch.m (G_Reader_stretch.mono (by decide)) hr T.m_Reader_stretch.b .nil pass0 (pa_cons pe_str pa_nil))))), ?_⟩
    refine ⟨_, rfl, r, dx, rf u p, rfl, hR.1, (rf_meth u p).2.1, r, dx, u, p, [44], (by rw [one_comma]; rfl), hR, (by decide), fun _ => ?_, fun hno => absurd (by rw [hd]; rfl) hno⟩
    have hR2 := rd_at (a := [44]) hR hd
    have hd2 := drop_one hd
    refine ⟨_, rfl, ?_⟩
    refine iteF ?_
    refine ⟨_, rfl, r, dx, rf u (p + 1), rfl, hR2.1, (rf_meth u _).2.2.2, r, dx, u, _, [32], (by rw [one_sp]; rfl), hR2, (by decide), ?_⟩
    rw [hd2, stp_sps hb, sps_len]
    rw [upd_upd]
    exact k
theorem fn_no {k : Nat} {CX : CXT} {f : Addr} {fd : FuncData} {ps : List Str} : FnOk P w K mg base CX k f fd ps (fun _ _ _ _ => False) := ⟨fun _ _ _ _ h => h.elim, fun _ _ _ _ _ _ _ _ _ _ _ _ _ h => h.elim⟩
def sp_gthings (t : Adr) (K : PySem.W.Frag) : Sp := fun vs H Q _ => ∃ r dx u p m n g b wd d, vs = [.ref r, .str wd, d] ∧ (wd = "twill" ∨ wd = "satin") ∧ Rd t H r dx u p ∧ u.drop p = dec m ++ (sps g ++ (44 :: (sps g ++ (dec n ++ (sps g ++ b))))) ∧ m < 100 ∧ n < 100 ∧ Sep b ∧
  ∀ q, H q = none → q ≠ r → Q (.ref q) (upd (rdAt t H r dx u (p + (dec m).length + g + 1 + g + (dec n).length + g)) q (.lst [.int (m : Int), .int (n : Int)]))
theorem ok_read_things (T : Txt K mg t) : FnOk P w K mg base CX0 5 t.f_read_things t.d_read_things ["reader", "word", "depth"] (sp_gthings t K) := by
  have G_read_number : FnOk P w K mg base CX0 4 t.f_read_number t.d_read_number _ _ := ok_read_number T
  have G_read_comma : FnOk P w K mg base CX0 3 t.f_read_comma t.d_read_comma _ _ := ok_read_comma T
  have G_read_node : FnOk P w K mg base CX0 4 t.f_read_node t.d_read_node ["reader", "depth"] _ := fn_no
  refine T.read_things.F.ok sc_read_things (fun vs H Q E h => ?_) (fun cdv A outer s H vs Q E hr h => ?_)
  · obtain ⟨r, dx, u, p, m, n, g, b, wd, d, rfl, _⟩ := h
    rfl
  · obtain ⟨r, dx, u, p, m, n, g, b, wd, d, rfl, hw, hR, hd, hm, hn, hb, k⟩ := h
    refine ⟨_, (pss_cons (ps_if (pt_cmpR op_eq (pv 1) pe_str (nomark _))
        (pss_one ps_never)
        pss_nil)
      (pss_cons (ps_if (pt_cmp (pc_topNotin T.d_THINGS (pv 1) (pe_glob (v := .ref t.q_THINGS) rfl T.g_THINGS rfl)))
        (pss_one ps_never)
        pss_nil)
      (pss_cons (ps_set (i := 3) sc_read_things.nd rfl (Or.inl rfl) (pe_lst pa_nil))
      (pss_cons (ps_for PassesOwn.never rfl (pi_str (pe_topGet T.d_THINGS (pe_glob (v := .ref t.q_THINGS) rfl T.g_THINGS rfl) (pv 1) (fun _ _ => rfl))) (pg_name (i := 4) sc_read_things.nd rfl (Or.inl rfl))
        (pss_cons (ps_if (pt_truthK (K := K) (pv 3) (fun _ => rfl))
          (pss_one (ps_expr (pe_call (G_read_comma.mono (by decide)) hr rfl T.read_comma.m T.read_comma.F.kp T.read_comma.b .nil pass0 (pa_cons (pv 0) pa_nil))))
          pss_nil)
        (pss_one (ps_expr (pe_bmK (K := K) PySem.F.plainAttrs_list PySem.F.slot_list_append PySem.F.type_list_append mt_append (pv 3) (pa_cons (pe_ifExp (pt_cmpR op_eq (pv 4) pe_str (nomark _)) (pe_call (G_read_node.mono (by decide)) hr rfl T.read_node.m T.read_node.F.kp T.read_node.b .nil pass0 (pa_cons (pv 0) (pa_cons (pv 2) pa_nil))) (pe_call (G_read_number.mono (by decide)) hr rfl T.read_number.m T.read_number.F.kp T.read_number.b .nil pass0 (pa_cons (pv 0) pa_nil))) pa_nil))))))
      (pss_one (ps_ret (pv 3))))))), ?_⟩
    refine ⟨_, rfl, rfl, _, rfl, ?_⟩
    refine iteDn (fun z => by rcases hw with e | e <;> rw [e] at z <;> exact absurd z (by decide +kernel)) ?_
    have hlk : lk [("twill", "nn"), ("satin", "nn"), ("beside", "pp"), ("above", "pp"), ("mirror", "p"), ("upend", "p"), ("back", "p"), ("quarter", "p"), ("tile", "pnn"), ("blocks", "ppp"), ("lay", "pp")] wd = some "nn" := by
      rcases hw with e | e <;> rw [e] <;> decide +kernel
    refine ⟨_, rfl, wd, rfl, rfl, _, rfl, ?_⟩
    rw [hlk]
    refine iteF ?_
    refine And.intro (by decide) (fun q hq => ?_)
    have nqr : q ≠ r := fun z => by rw [z, hR.1] at hq; cases hq
    obtain ⟨hh, eh⟩ : ∃ hh : Nat → List V → Hp, hh = fun p' xs => upd (rdAt t H r dx u p') q (.lst xs) := ⟨_, rfl⟩
    have h0 : upd H q (.lst []) = hh p [] := by rw [eh]; show _ = upd (upd H r _) q _; rw [upd_self hR.1]
    have hr1 : ∀ p' xs, p' ≤ u.length → Rd t (hh p' xs) r dx u p' := fun p' xs hp => by rw [eh]; exact ⟨by show (upd (upd H r _) q _) r = _; rw [upd_ne nqr.symm]; exact upd_same, hp, hR.2.2⟩
    have hr2 : ∀ p' p2 xs, rdAt t (hh p' xs) r dx u p2 = hh p2 xs := fun p' p2 xs => by
      rw [eh]
      funext b
      show upd (upd (upd H r _) q _) r _ b = upd (upd H r _) q _ b
      by_cases e1 : b = r
      · rw [e1, upd_same, upd_ne nqr.symm, upd_same]
      · by_cases e2 : b = q
        · rw [e2, upd_ne nqr, upd_same, upd_same]
        · rw [upd_ne e1, upd_ne e2, upd_ne e1, upd_ne e2, upd_ne e1]
    have hq1 : ∀ p' xs, hh p' xs q = some (.lst xs) := fun p' xs => by rw [eh]; exact upd_same
    have hq2 : ∀ p' xs ys, upd (hh p' xs) q (.lst ys) = hh p' ys := fun p' xs ys => by rw [eh]; exact upd_upd
    rw [h0]
    show ∃ _, _
    have hd1 := drop_app hd
    have hl1 := app_le hR.2.1 hd
    have hd2 := drop_app hd1
    have hl2 := app_le hl1 hd1
    rw [sps_len] at hd2 hl2
    have hd3 := drop_one hd2
    have hl3 := app_le (a := [44]) hl2 hd2
    have hd4 := drop_app hd3
    have hl4 := app_le hl3 hd3
    rw [sps_len] at hd4 hl4
    have hd5 := drop_app hd4
    have hl5 := app_le hl4 hd4
    have hl6 := app_le hl5 hd5
    rw [sps_len] at hl6
    refine ⟨_, rfl, wd, _, rfl, rfl, hlk, _, rfl, ?_⟩
    refine for_str (z := "nn") (fun i σ H2 => ∃ v, σ = [some (.ref r), some (.str wd), some d, some (.ref q), v] ∧ ((i = 0 ∧ H2 = hh p []) ∨ (i = 1 ∧ H2 = hh (p + (dec m).length + g) [.int (m : Int)]) ∨ (i = 2 ∧ H2 = hh (p + (dec m).length + g + 1 + g + (dec n).length + g) [.int (m : Int), .int (n : Int)]))) ⟨_, rfl, .inl ⟨rfl, rfl⟩⟩ ?_ ?_
    · rintro i c σ H2 hc ⟨v, rfl, hs⟩
      have hcc : c = 110 := by
        have e : (("nn" : Str)).cps = #[110, 110] := by decide +kernel
        rw [e] at hc
        match i, hc with
        | 0, hc => exact (Option.some.inj hc).symm
        | 1, hc => exact (Option.some.inj hc).symm
        | i + 2, hc => simp at hc
      have hcp : ¬ (V.str ⟨#[c]⟩ : V) = V.str "p" := by
        rw [hcc]
        decide +kernel
      rcases hs with ⟨rfl, rfl⟩ | ⟨rfl, rfl⟩ | ⟨rfl, rfl⟩
      · refine ⟨_, rfl, false, .inl ⟨[], SqL.of (hq1 _ _), rfl⟩, ?_⟩
        refine iteF ?_
        refine ⟨_, rfl, .inl ⟨rfl, _, SqL.of (hq1 _ _)⟩, _, rfl, rfl, _, rfl, ?_⟩
        refine iteDn hcp ?_
        refine ⟨_, rfl, r, dx, u, p, m, g, _, rfl, hr1 _ _ hR.2.1, hd, hm, (fun c hc => by injection hc with hc; omega), ?_⟩
        rw [hr2]
        refine ⟨_, _, _, rfl, rfl, hq1 _ _, (by decide), ?_⟩
        rw [hq2]
        exact ⟨_, rfl, .inr (.inl ⟨rfl, rfl⟩)⟩
      · refine ⟨_, rfl, true, .inl ⟨[.int (m : Int)], SqL.of (hq1 _ _), rfl⟩, ?_⟩
        refine iteT ?_
        refine ⟨_, rfl, r, dx, u, _, g, _, rfl, hr1 _ _ hl2, hd2, ?_, ?_⟩
        · intro c hc z
          have := (dec_is hn).dg
          have l1 := (dec_is hn).l1
          cases e : dec n with
          | nil => rw [e] at l1; simp at l1
          | cons a v =>
            rw [e] at hc this
            have h1 := this a (by simp)
            have : a = c := by injection hc
            omega
        · rw [hr2]
          refine ⟨_, rfl, .inl ⟨rfl, _, SqL.of (hq1 _ _)⟩, _, rfl, rfl, _, rfl, ?_⟩
          refine iteDn hcp ?_
          refine ⟨_, rfl, r, dx, u, _, n, g, b, rfl, hr1 _ _ hl4, hd4, hn, hb, ?_⟩
          rw [hr2]
          refine ⟨_, _, _, rfl, rfl, hq1 _ _, (by show 1 < sizeLine; decide), ?_⟩
          rw [hq2]
          exact ⟨_, rfl, .inr (.inr ⟨rfl, rfl⟩)⟩
      · exact absurd hc (by simp [show (("nn" : Str)).cps = #[110, 110] by decide +kernel])
    · rintro σ H2 ⟨v, rfl, hs⟩
      have e : (("nn" : Str)).cps.size = 2 := by decide +kernel
      rw [e] at hs
      rcases hs with ⟨h, _⟩ | ⟨h, _⟩ | ⟨_, rfl⟩
      · exact absurd h (by decide)
      · exact absurd h (by decide)
      · rw [eh]
        exact ⟨_, rfl, k q hq nqr⟩
def letF : List Nat := [97, 98, 99, 100, 101, 102, 103, 104, 105, 106, 107, 108, 109, 110, 111, 112, 113, 114, 115, 116, 117, 118, 119, 120, 121, 122]
theorem let_is : (("abcdefghijklmnopqrstuvwxyz" : Str)) = tx letF := by decide +kernel
theorem letF_iff {c : Nat} : c ∈ letF ↔ 97 ≤ c ∧ c ≤ 122 := by
  unfold letF
  simp only [List.mem_cons, List.not_mem_nil, or_false]
  omega
theorem one_open : (("(" : Str)) = tx [40] := by decide +kernel
theorem one_close : ((")" : Str)) = tx [41] := by decide +kernel
def Wd2 (wd : Str) (ws : List Nat) : Prop := (wd = "twill" ∨ wd = "satin") ∧ wd = tx ws ∧ ∀ c ∈ ws, 97 ≤ c ∧ c ≤ 122
def two (ws : List Nat) (m n g : Nat) (b : List Nat) : List Nat := ws ++ (sps g ++ (40 :: (sps g ++ (dec m ++ (sps g ++ (44 :: (sps g ++ (dec n ++ (sps g ++ (41 :: b))))))))))
theorem swp {H : Hp} {r dx q : Addr} {u : List Nat} {p1 p2 : Nat} {o : HO} (h : q ≠ r) : upd (upd (rdAt t H r dx u p1) q o) r (.ins t.e_Reader dx (rf u p2)) = upd (rdAt t H r dx u p2) q o := by
  funext b
  show upd (upd (upd H r _) q _) r _ b = upd (upd H r _) q _ b
  by_cases e1 : b = r
  · rw [e1, upd_same, upd_ne h.symm, upd_same]
  · by_cases e2 : b = q
    · rw [e2, upd_ne h, upd_same, upd_same]
    · rw [upd_ne e1, upd_ne e2, upd_ne e1, upd_ne e2, upd_ne e1]
theorem noSp_cons {c : Nat} {b : List Nat} (h : c ≠ 32) : NoSp (c :: b) := fun d hd => by
  have e : c = d := by injection hd
  rw [← e]
  exact h
theorem noSp_dec {n : Nat} {b : List Nat} (hn : n < 100) : NoSp (dec n ++ b) := by
  have := (dec_is hn).dg
  have l1 := (dec_is hn).l1
  cases e : dec n with
  | nil => rw [e] at l1; simp at l1
  | cons a v =>
    rw [e] at this
    have h1 := this a (by simp)
    exact noSp_cons (by omega)
theorem stp_let {ws b : List Nat} {g : Nat} (h : ∀ c ∈ ws, 97 ≤ c ∧ c ≤ 122) (hb : ∀ c, b[0]? = some c → ¬ (97 ≤ c ∧ c ≤ 122)) : stp letF (ws ++ (sps g ++ b)) = ws := stp_app (fun c hc => letF_iff.mpr (h c hc)) (fun c hc z => by
  have z := letF_iff.mp z
  cases g with
  | zero => exact hb c hc z
  | succ g => have : c = 32 := by
                have e : some 32 = some c := hc
                injection e with e
                exact e.symm
              omega)
def sp_gnode (t : Adr) (K : PySem.W.Frag) : Sp := fun vs H Q _ => ∃ r dx u p m n g g2 b wd ws, vs = [.ref r, .int 1] ∧ Wd2 wd ws ∧ Rd t H r dx u p ∧ u.drop p = two ws m n g (sps g2 ++ b) ∧ m < 100 ∧ n < 100 ∧ NoSp b ∧
  ∀ q a, H q = none → H a = none → q ≠ r → a ≠ r → a ≠ q → Q (.ref a) (upd (upd (rdAt t H r dx u (u.length - b.length)) q (.lst [.int (m : Int), .int (n : Int)])) a (.tup [.str wd, .ref q]))
theorem ok_read_node (T : Txt K mg t) : FnOk P w K mg base CX0 6 t.f_read_node t.d_read_node ["reader", "depth"] (sp_gnode t K) := by
  have G_read_things : FnOk P w K mg base CX0 5 t.f_read_things t.d_read_things _ _ := ok_read_things T
  have G_Reader_took : FnOk P w K mg base CX0 1 t.f_Reader_took t.d_Reader_took _ _ := ok_Reader_took T
  have G_Reader_stretch : FnOk P w K mg base CX0 2 t.f_Reader_stretch t.d_Reader_stretch _ _ := ok_Reader_stretch T
  refine T.read_node.F.ok sc_read_node (fun vs H Q E h => ?_) (fun cdv A outer s H vs Q E hr h => ?_)
  · obtain ⟨r, dx, u, p, m, n, g, g2, b, wd, ws, rfl, _⟩ := h
    rfl
  · obtain ⟨r, dx, u, p, m, n, g, g2, b, wd, ws, rfl, ⟨hw, hws, hwl⟩, hR, hd, hm, hn, hb, k⟩ := h
    refine ⟨_, (pss_cons (ps_if (pt_cmpR op_gt (pv 1) (pe_glob (v := .int 12) rfl T.c_MOST_DEEP.choose_spec ⟨_, rfl⟩) (nomark _))
        (pss_one ps_never)
        pss_nil)
      (pss_cons (ps_set (i := 2) sc_read_node.nd rfl (Or.inl rfl) (pe_meth (pv 0) T.o_Reader.c T.m_Reader_stretch.m (G_Reader_stretch.mono (by decide)) hr T.m_Reader_stretch.b .nil pass0 (pa_cons (pe_glob (v := .str "abcdefghijklmnopqrstuvwxyz") rfl T.c_LETTERS.choose_spec ⟨_, rfl⟩) pa_nil)))
      (pss_cons (ps_expr (pe_meth (pv 0) T.o_Reader.c T.m_Reader_stretch.m (G_Reader_stretch.mono (by decide)) hr T.m_Reader_stretch.b .nil pass0 (pa_cons pe_str pa_nil)))
      (pss_cons (ps_if (pt_not (pt_val (pe_meth (pv 0) T.o_Reader.c T.m_Reader_took.m (G_Reader_took.mono (by decide)) hr T.m_Reader_took.b .nil pass0 (pa_cons pe_str pa_nil))))
        (pss_cons ps_never
        (pss_one (ps_ret (pe_tup (pa_cons (pv 2) (pa_cons pe_non pa_nil))))))
        pss_nil)
      (pss_cons (ps_expr (pe_meth (pv 0) T.o_Reader.c T.m_Reader_stretch.m (G_Reader_stretch.mono (by decide)) hr T.m_Reader_stretch.b .nil pass0 (pa_cons pe_str pa_nil)))
      (pss_cons (ps_set (i := 3) sc_read_node.nd rfl (Or.inl rfl) (pe_call (G_read_things.mono (by decide)) hr rfl T.read_things.m T.read_things.F.kp T.read_things.b .nil pass0 (pa_cons (pv 0) (pa_cons (pv 2) (pa_cons (pe_op op_add (pv 1) pe_int) pa_nil)))))
      (pss_cons (ps_if (pt_not (pt_val (pe_meth (pv 0) T.o_Reader.c T.m_Reader_took.m (G_Reader_took.mono (by decide)) hr T.m_Reader_took.b .nil pass0 (pa_cons pe_str pa_nil))))
        (pss_one ps_never)
        pss_nil)
      (pss_cons (ps_expr (pe_meth (pv 0) T.o_Reader.c T.m_Reader_stretch.m (G_Reader_stretch.mono (by decide)) hr T.m_Reader_stretch.b .nil pass0 (pa_cons pe_str pa_nil)))
      (pss_one (ps_ret (pe_tup (pa_cons (pv 2) (pa_cons (pv 3) pa_nil))))))))))))), ?_⟩
    refine ⟨_, rfl, _, _, rfl, rfl, _, rfl, ?_⟩
    refine iteDn (by decide) ?_
    unfold two at hd
    have a1 := rd_at hR hd
    have d1 := drop_app hd
    have a2 := rd_at a1 d1
    have d2 := drop_app d1
    rw [sps_len] at a2 d2
    have a3 := rd_at (a := [40]) a2 d2
    have d3 := drop_one d2
    have a4 := rd_at a3 d3
    have d4 := drop_app d3
    rw [sps_len] at a4 d4
    rw [rdAt_at] at a2 a3 a4
    rw [rdAt_at] at a3 a4
    rw [rdAt_at] at a4
    refine ⟨_, rfl, r, dx, rf u p, rfl, hR.1, (rf_meth u p).2.2.2, r, dx, u, p, letF, (by rw [let_is]; rfl), hR, (by decide), ?_⟩
    rw [hd, stp_let hwl (fun c hc z => by have e : 40 = c := by injection hc
                                          omega)]
    refine ⟨_, rfl, r, dx, rf u _, rfl, a1.1, (rf_meth u _).2.2.2, r, dx, u, _, [32], (by rw [one_sp]; rfl), a1, (by decide), ?_⟩
    rw [d1, stp_sps (noSp_cons (by decide)), sps_len, upd_upd]
    refine ⟨_, rfl, r, dx, rf u _, rfl, a2.1, (rf_meth u _).2.1, r, dx, u, _, [40], (by rw [one_open]; rfl), a2, (by decide), fun _ => ?_, fun hno => absurd (by rw [d2]; rfl) hno⟩
    rw [upd_upd]
    refine ⟨_, rfl, ?_⟩
    refine iteF ?_
    refine ⟨_, rfl, r, dx, rf u _, rfl, a3.1, (rf_meth u _).2.2.2, r, dx, u, _, [32], (by rw [one_sp]; rfl), a3, (by decide), ?_⟩
    rw [d3, stp_sps (noSp_dec hm), sps_len, upd_upd]
    refine ⟨_, rfl, _, rfl, _, rfl, _, _, rfl, rfl, r, dx, u, _, m, n, g, _, wd, _, by rw [hws]; rfl, hw, a4, d4, hm, hn, (fun c hc => by
      have e : 41 = c := by injection hc
      omega), fun q hq nqr => ?_⟩
    rw [upd_ne nqr] at hq
    have d5 := drop_app d4
    have d6 := drop_app d5
    rw [sps_len] at d6
    have d7 := drop_one d6
    have d8 := drop_app d7
    rw [sps_len] at d8
    have d9 := drop_app d8
    have d10 := drop_app d9
    rw [sps_len] at d10
    have ll := congrArg List.length hd
    simp only [List.length_append, List.length_cons, List.length_drop, sps_len] at ll
    have hp := hR.2.1
    obtain ⟨p5, e5⟩ : ∃ p5, p5 = p + ws.length + g + [40].length + g + (dec m).length + g + 1 + g + (dec n).length + g := ⟨_, rfl⟩
    have d10' : u.drop p5 = 41 :: (sps g2 ++ b) := by rw [e5]; exact d10
    have l5 : p5 + 1 + g2 = u.length - b.length ∧ p5 ≤ u.length ∧ p5 + 1 ≤ u.length := by
      rw [e5]
      simp only [List.length_cons, List.length_nil]
      omega
    have d11 : u.drop (p5 + 1) = sps g2 ++ b := drop_one d10'
    rw [show ∀ o p9, rdAt t (upd H r o) r dx u p9 = rdAt t H r dx u p9 from fun _ _ => upd_upd, ← e5]
    have hH : ∀ p9 o, (upd (rdAt t H r dx u p9) q o) r = some (.ins t.e_Reader dx (rf u p9)) := fun p9 o => by rw [upd_ne nqr.symm]; exact upd_same
    refine ⟨_, rfl, r, dx, rf u p5, rfl, hH _ _, (rf_meth u _).2.1, r, dx, u, p5, [41], (by rw [one_close]; rfl), ⟨hH _ _, l5.2.1, hR.2.2⟩, (by decide), fun _ => ?_, fun hno => absurd (by rw [d10']; rfl) hno⟩
    rw [swp nqr]
    refine ⟨_, rfl, ?_⟩
    refine iteF ?_
    refine ⟨_, rfl, r, dx, rf u (p5 + 1), rfl, hH _ _, (rf_meth u _).2.2.2, r, dx, u, p5 + 1, [32], (by rw [one_sp]; rfl), ⟨hH _ _, l5.2.2, hR.2.2⟩, (by decide), ?_⟩
    rw [d11, stp_sps hb, sps_len, swp nqr, l5.1]
    refine ⟨_, rfl, _, rfl, (by show 2 ≤ sizeLine; decide), fun a ha => ?_⟩
    have naq : a ≠ q := fun z => by rw [z, upd_same] at ha; cases ha
    rw [upd_ne naq] at ha
    have nar : a ≠ r := fun z => by rw [z] at ha; rw [show rdAt t H r dx u (u.length - b.length) r = some _ from upd_same] at ha; cases ha
    rw [show rdAt t H r dx u (u.length - b.length) a = H a from upd_ne nar] at ha
    rw [← hws]
    exact k q a hq ha nqr nar naq
def sp_gwhole (t : Adr) (K : PySem.W.Frag) : Sp := fun vs H Q _ => ∃ u m n g g0 g2 wd ws, vs = [.str (tx u)] ∧ Wd2 wd ws ∧ u = sps g0 ++ two ws m n g (sps g2) ∧ u.length ≤ 1000 ∧ m < 100 ∧ n < 100 ∧
  ∀ q a H', Same H H' → H q = none → H a = none → H' q = some (.lst [.int (m : Int), .int (n : Int)]) → H' a = some (.tup [.str wd, .ref q]) → Q (.ref a) H'
theorem ok_read_whole (T : Txt K mg t) : FnOk P w K mg base CX0 7 t.f_read_whole t.d_read_whole ["text"] (sp_gwhole t K) := by
  have G_read_node : FnOk P w K mg base CX0 6 t.f_read_node t.d_read_node _ _ := ok_read_node T
  have G_Reader_ended : FnOk P w K mg base CX0 1 t.f_Reader_ended t.d_Reader_ended _ _ := ok_Reader_ended T
  have G_Reader_stretch : FnOk P w K mg base CX0 2 t.f_Reader_stretch t.d_Reader_stretch _ _ := ok_Reader_stretch T
  have G_Reader___init__ : FnOk P w K mg base CX0 1 t.f_Reader___init__ t.d_Reader___init__ _ _ := ok_Reader___init__ T
  refine T.read_whole.F.ok sc_read_whole (fun vs H Q E h => ?_) (fun cdv A outer s H vs Q E hr h => ?_)
  · obtain ⟨u, m, n, g, g0, g2, wd, ws, rfl, _⟩ := h
    rfl
  · obtain ⟨u, m, n, g, g0, g2, wd, ws, rfl, hw, hu, hul, hm, hn, k⟩ := h
    refine ⟨_, (pss_cons (ps_set (i := 1) sc_read_whole.nd rfl (Or.inl rfl) (pe_make T.o_Reader.m (G_Reader___init__.mono (by decide)) hr rfl T.k_Reader T.m_Reader___init__.b .nil pass0 (pa_cons (pv 0) pa_nil)))
      (pss_cons (ps_expr (pe_meth (pv 1) T.o_Reader.c T.m_Reader_stretch.m (G_Reader_stretch.mono (by decide)) hr T.m_Reader_stretch.b .nil pass0 (pa_cons pe_str pa_nil)))
      (pss_cons (ps_set (i := 2) sc_read_whole.nd rfl (Or.inl rfl) (pe_call (G_read_node.mono (by decide)) hr rfl T.read_node.m T.read_node.F.kp T.read_node.b .nil pass0 (pa_cons (pv 1) (pa_cons pe_int pa_nil))))
      (pss_cons (ps_if (pt_not (pt_val (pe_meth0 (pv 1) T.o_Reader.c T.m_Reader_ended.m (G_Reader_ended.mono (by decide)) hr T.m_Reader_ended.b .nil pass0)))
        (pss_one ps_never)
        pss_nil)
      (pss_one (ps_ret (pv 2))))))), ?_⟩
    refine ⟨_, rfl, fun r dx hr1 hdx hne => ⟨r, dx, u, rfl, upd_same, ?_⟩⟩
    rw [upd_upd]
    refine ⟨rfl, ?_⟩
    have hH : ∀ p9, (rdAt t (upd H dx (.own r)) r dx u p9) r = some (.ins t.e_Reader dx (rf u p9)) := fun p9 => upd_same
    have hu0 : u.drop 0 = sps g0 ++ two ws m n g (sps g2) := hu
    have hns : NoSp (two ws m n g (sps g2)) := fun c hc => by
      unfold two at hc
      have hwl := hw.2.2
      have hw0 : ws ≠ [] := fun z => by
        have h1 := hw.2.1
        rw [z] at h1
        rcases hw.1 with e | e <;> rw [e] at h1 <;> exact absurd h1 (by decide +kernel)
      cases ws with
      | nil => exact absurd rfl hw0
      | cons x xs =>
        have e : x = c := by injection hc
        have := hwl x (by simp)
        omega
    have d1 := drop_app hu0
    have l1 := app_le (Nat.zero_le _) hu0
    rw [sps_len] at d1 l1
    have l9 : u.length ≤ 1000000 := by omega
    refine ⟨_, rfl, r, dx, rf u 0, rfl, hH 0, (rf_meth u _).2.2.2, r, dx, u, 0, [32], (by rw [one_sp]; rfl), ⟨hH 0, Nat.zero_le _, l9⟩, (by decide), ?_⟩
    rw [hu0, stp_sps hns, sps_len, upd_upd]
    refine ⟨_, rfl, r, dx, u, 0 + g0, m, n, g, g2, [], wd, ws, rfl, hw, ⟨hH _, l1, l9⟩, by rw [List.append_nil]; exact d1, hm, hn, (fun c hc => by simp at hc), fun q a hq ha nqr nar naq => ?_⟩
    rw [upd_ne nqr] at hq
    rw [upd_ne nar] at ha
    have nqd : q ≠ dx := fun z => by rw [z, upd_same] at hq; cases hq
    have nad : a ≠ dx := fun z => by rw [z, upd_same] at ha; cases ha
    rw [upd_ne nqd] at hq
    rw [upd_ne nad] at ha
    rw [show ∀ o p9, rdAt t (upd (upd H dx (.own r)) r o) r dx u p9 = rdAt t (upd H dx (.own r)) r dx u p9 from fun _ _ => upd_upd]
    have hr9 : (upd (upd (rdAt t (upd H dx (.own r)) r dx u (u.length - ([] : List Nat).length)) q (.lst [.int (m : Int), .int (n : Int)])) a (.tup [.str wd, .ref q])) r = some (.ins t.e_Reader dx (rf u (u.length - ([] : List Nat).length))) := by
      rw [upd_ne nar.symm, upd_ne nqr.symm]
      exact upd_same
    refine ⟨_, rfl, r, dx, rf u (u.length - ([] : List Nat).length), rfl, hr9, (rf_meth u _).1, r, dx, u, u.length - ([] : List Nat).length, rfl, ⟨hr9, Nat.sub_le _ _, l9⟩, ?_⟩
    refine ⟨_, rfl, ?_⟩
    rw [decide_eq_true (show u.length - ([] : List Nat).length = u.length from rfl)]
    refine iteF ?_
    refine ⟨_, rfl, k q a _ (fun b o e => ?_) hq ha ?_ upd_same⟩
    · rw [upd_ne (ne_of_none e ha), upd_ne (ne_of_none e hq)]
      show (upd (upd H dx _) r _) b = _
      rw [upd_ne (ne_of_none e hr1), upd_ne (ne_of_none e hdx)]
      exact e
    · rw [upd_ne naq.symm]
      exact upd_same
def pf (l : Addr) (z : Str) : List (Str × V) := [("texts", .ref l), ("writing", .str z)]
def sp_pinit (K : PySem.W.Frag) : Sp := fun vs H Q _ => ∃ (C r dx a : Addr) (ts : List (List Nat)) (z : Str), vs = [.ref r, .ref a, .str z] ∧ H r = some (.ins C dx []) ∧ Cls K C ∧ NoAttr K C "texts" ∧ NoAttr K C "writing" ∧ SqL K H a (vS ts) ∧
  ∀ l, H l = none → Q .non (upd (upd H l (.lst (vS ts))) r (.ins C dx (pf l z)))
theorem ok_Piece___init__ (T : Txt K mg t) : FnOk P w K mg base CX0 1 t.f_Piece___init__ t.d_Piece___init__ ["self", "texts", "writing"] (sp_pinit K) := by
  refine T.m_Piece___init__.F.ok sc_Piece___init__ (fun vs H Q E h => ?_) (fun cdv A outer s H vs Q E hr h => ?_)
  · obtain ⟨C, r, dx, a, ts, z, rfl, _⟩ := h
    rfl
  · obtain ⟨C, r, dx, a, ts, z, rfl, h1, hc, hn1, hn2, hS, k⟩ := h
    refine ⟨_, (pss_cons (ps_fldK (K := K) (pv 0) (pe_callTy (call_list_ofK (K := K)) rfl T.b_list bt_list (pa_cons (pv 1) pa_nil)))
      (pss_one (ps_fldK (K := K) (pv 0) (pv 2)))), ?_⟩
    refine ⟨_, rfl, _, _, rfl, .inl hS, fun l hl => ?_⟩
    have nlr : r ≠ l := ne_of_none h1 hl
    have h1' : (upd H l (.lst (vS ts))) r = some (.ins C dx []) := by rw [upd_ne nlr]; exact h1
    refine ⟨_, rfl, _, _, _, _, rfl, h1', hc, hn1, (by decide), ?_⟩
    refine ⟨_, rfl, _, rfl, _, _, _, _, rfl, upd_same, hc, hn2, (by show 1 < 1000; decide), ?_⟩
    rw [upd_upd]
    exact k l hl
def sp_csize (t : Adr) : Sp := fun vs H Q E => ∃ m n : Nat, vs = [.int (m : Int), .int (n : Int)] ∧ (m ≤ 40 ∧ n ≤ 40 → Q .non H) ∧ (40 < m ∨ 40 < n → ∀ H', Same H H' → E (.ref t.e_TooLarge) none H')
theorem okx_check_size (T : Txt K mg t) : FnOk P w K mg base (CX1 P w) 2 t.f_check_size t.d_check_size ["ends", "picks"] (sp_csize t) := by
  refine T.check_size.F.okX sc_check_size (fun vs H Q E h => ?_) (fun cdv A outer s H vs Q E hr h => ?_)
  · obtain ⟨m, n, rfl, _⟩ := h
    rfl
  · obtain ⟨m, n, rfl, k1, k2⟩ := h
    refine ⟨_, (pss_one (ps_if (PW.pt (pw_or (pt_cmpR op_gt (pv 0) (pe_glob (v := .int 40) rfl T.c_MOST_STRANDS.choose_spec ⟨_, rfl⟩) (nomark _)) (pw_or1 (pt_cmpR op_gt (pv 1) (pe_glob (v := .int 40) rfl T.c_MOST_STRANDS.choose_spec ⟨_, rfl⟩) (nomark _)))))
        (pss_one (ps_raise body1 rfl (fun _ _ z => z) PySem.F.excBase_ValueError has_ve PySem.F.excBase_ValueError T.x_TooLarge.q rfl T.k_TooLarge (pa_cons pe_str pa_nil)))
        pss_nil)), ?_⟩
    refine ⟨_, rfl, _, _, rfl, rfl, _, rfl, ?_⟩
    refine ite2D (fun c1 => ?_) (fun c1 => ?_)
    · refine iteT ?_
      exact ⟨by decide, k2 (.inl (by omega)) _ (.refl _)⟩
    · refine ⟨_, rfl, _, _, rfl, rfl, _, rfl, ?_⟩
      refine ite2D (fun c2 => ?_) (fun c2 => ?_)
      · exact ⟨by decide, k2 (.inr (by omega)) _ (.refl _)⟩
      · exact k1 (by omega)
def cps2 (m n i : Nat) : List Bool := (List.range i).map fun j => decide (m % (2 + j) = 0) && decide (n % (2 + j) = 0)
def cop (m n k : Nat) : Bool := (cps2 m n (k - 1)).any id
theorem cps2_len {m n i : Nat} : (cps2 m n i).length = i := by unfold cps2; rw [List.length_map, List.length_range]
theorem cps2_step {m n i : Nat} : cps2 m n (i + 1) = cps2 m n i ++ [decide (m % (2 + i) = 0) && decide (n % (2 + i) = 0)] := by
  unfold cps2
  rw [List.range_succ, List.map_append]
  rfl
theorem mod0 (m i : Nat) : decide (V.int ((m : Int) % (2 + (i : Int))) = V.int 0) = decide (m % (2 + i) = 0) := by
  apply decide_eq_decide.mpr
  have e : (m : Int) % (2 + (i : Int)) = ((m % (2 + i) : Nat) : Int) := by
    rw [Int.natCast_emod]
    rfl
  rw [e]
  exact ⟨fun z => by injection z with z; omega, fun z => by rw [z]; rfl⟩
def sp_prime : Sp := fun vs H Q _ => ∃ m n : Nat, vs = [.int (m : Int), .int (n : Int)] ∧ m ≤ 100 ∧ 1 ≤ n ∧ n ≤ 100 ∧ ∀ H', Same H H' → Q (.bl (!cop m n n)) H'
theorem ok_prime_to (T : Txt K mg t) : FnOk P w K mg base CX0 2 t.f_prime_to t.d_prime_to ["size", "step"] sp_prime := by
  refine T.prime_to.F.ok sc_prime_to (fun vs H Q E h => ?_) (fun cdv A outer s H vs Q E hr h => ?_)
  · obtain ⟨m, n, rfl, _⟩ := h
    rfl
  · obtain ⟨m, n, rfl, hm, hn1, hn, k⟩ := h
    refine ⟨_, (pss_one (ps_ret (pe_not (pe_callB (call_anyB (K := K)) rfl T.b_any bt_any (pa_cons (pe_comp (CompOk.mk (caps := [0, 1]) (Nc := ["k", "size", "step"]) rfl (by decide +kernel) (by decide +kernel) (comp_fr (sc0 := defScope s_prime_to) rfl (by decide +kernel)) rfl rfl rfl (by decide +kernel) (fun k j h => match k, h with | 0, h => by obtain rfl := Option.some.inj h; exact ⟨_, rfl, rfl, rfl⟩ | 1, h => by obtain rfl := Option.some.inj h; exact ⟨_, rfl, rfl, rfl⟩ | _ + 2, h => by simp at h)) rfl (pi_range2 rfl T.b_range (pa_cons pe_int (pa_cons (pe_op op_add (pv 1) pe_int) pa_nil))) (fun _ _ _ _ _ => .nil) (fun _ _ _ _ _ => (pe_and (pe_cmpR op_eq (pe_op op_mod (pv 1) (pv 0)) pe_int (nomark _)) (pe_one (pe_cmpR op_eq (pe_op op_mod (pv 2) (pv 0)) pe_int (nomark _)))))) pa_nil))))), ?_⟩
    refine ⟨_, rfl, _, _, rfl, rfl, _, _, rfl, ⟨by decide, by decide, by omega, by omega⟩, ?_⟩
    rw [show ((n : Int) + 1 - 2).toNat = n - 1 by omega]
    refine comp_range (lo := 2) (n := n - 1) (fun i ys H2 => H2 = H ∧ ys = vB (cps2 m n i)) ⟨rfl, rfl⟩ ?_ ?_ ?_ ?_
    · rintro i ys H2 hi ⟨rfl, rfl⟩
      rw [vB_len, cps2_len]
      exact Nat.le_refl _
    · exact big (by omega)
    · rintro i ys H2 hi ⟨rfl, rfl⟩
      refine CTurn.no ?_
      refine ⟨_, rfl, _, rfl, _, _, rfl, rfl, (by show (0 : Int) < 2 + (i : Int); omega), rfl, _, rfl, ?_⟩
      rw [mod0]
      have fin : CN (n - 1) (fun i ys H3 => H3 = H2 ∧ ys = vB (cps2 m n i)) i (vB (cps2 m n i) ++ [.bl (decide (m % (2 + i) = 0) && decide (n % (2 + i) = 0))]) H2 := CN.of hi ⟨rfl, by rw [vB_app, cps2_step]⟩
      refine ite2D (fun c1 => ?_) (fun c1 => ?_)
      · refine ⟨_, rfl, _, rfl, _, _, rfl, rfl, (by show (0 : Int) < 2 + (i : Int); omega), rfl, ?_⟩
        rw [mod0]
        rw [decide_eq_true c1, Bool.true_and] at fin
        exact fin
      · rw [decide_eq_false c1, Bool.false_and] at fin
        exact fin
    · rintro ys H2 q ⟨rfl, rfl⟩ hq
      refine ⟨_, _, rfl, SqL.of upd_same, _, rfl, ?_⟩
      exact k _ (.upd hq)
end
theorem glue_sep (z : List Nat) : ∀ (ys : List (List Nat)) (acc : Array Nat), (ys.map tx).foldl (fun acc p => acc ++ (tx z).cps ++ p.cps) acc = acc ++ ((ys.map fun y => z ++ y).flatten).toArray
  | [], acc => by simp
  | y :: ys, acc => by
    rw [List.map_cons, List.foldl_cons, glue_sep z ys]
    simp [tx]
theorem tx_joinS (z y : List Nat) (ys : List (List Nat)) : Txt.join (tx z) ((y :: ys).map tx) = tx (y ++ (ys.map fun y => z ++ y).flatten) := by
  show Str.mk _ = _
  simp only [List.map_cons, List.drop_one, List.tail_cons, List.headD_cons]
  rw [glue_sep]
  simp [tx]
section
variable {P : Program} {w : World} {K : PySem.W.Frag} {mg : Str → Option Value} {base : Heap} {t : Adr}
def SameB (r : Addr) (H H' : Hp) : Prop := ∀ b o, b ≠ r → H b = some o → H' b = some o
theorem lg {m : Nat} (h : m < 100) : ((m : Int)).natAbs.log2 < 1920 := by
  rw [Int.natAbs_natCast]
  exact Nat.lt_of_le_of_lt (Nat.log2_le_self m) (by omega)
theorem join2 (x y : List Nat) : Txt.join (tx [44]) [tx x, tx y] = tx (x ++ (44 :: y)) := by
  have := tx_joinS [44] x [y]
  simpa using this
def wrT (ws x y : List Nat) : List Nat := ws ++ (40 :: (x ++ (44 :: (y ++ [41]))))
def sp_written (K : PySem.W.Frag) : Sp := fun vs H Q _ => ∃ (a : Addr) (ws x y : List Nat), vs = [.str (tx ws), .ref a] ∧ SqL K H a [.str (tx x), .str (tx y)] ∧ ws.length ≤ 10000 ∧ x.length ≤ 10000 ∧ y.length ≤ 10000 ∧ Q (.str (tx (wrT ws x y))) H
theorem ok_written (T : Txt K mg t) : FnOk P w K mg base CX0 1 t.f_written t.d_written ["word", "things"] (sp_written K) := by
  refine T.written.F.ok sc_written (fun vs H Q E h => ?_) (fun cdv A outer s H vs Q E hr h => ?_)
  · obtain ⟨a, ws, x, y, rfl, _⟩ := h
    rfl
  · obtain ⟨a, ws, x, y, rfl, hS, hw, hx, hy, k⟩ := h
    refine ⟨_, (pss_one (ps_ret (pe_op op_add_str (pe_op op_add_str (pe_op op_add_str (pv 0) pe_str) (pe_bmK (K := K) PySem.F.plainAttrs_str PySem.F.slot_str_join PySem.F.type_str_join (mt_joinK (K := K)) pe_str (pa_cons (pv 1) pa_nil))) pe_str))), ?_⟩
    have e1 : (("," : Str)).length = 1 := by decide +kernel
    refine ⟨_, rfl, _, _, rfl, rfl, (by rw [one_open, tx_len, tx_len]; exact big (by simp only [List.length_cons, List.length_nil]; omega)), rfl, _, rfl, _, _, [tx x, tx y], rfl, rfl, hS, ?_, ?_⟩
    · simp only [List.map_cons, List.map_nil, List.sum_cons, List.sum_nil, List.length_cons, List.length_nil, tx_len, e1]
      omega
    · rw [one_open, one_comma, one_close, join2, tx_app]
      refine ⟨_, _, rfl, rfl, (by rw [tx_len, tx_len]; exact big (by simp only [List.length_append, List.length_cons, List.length_nil]; omega)), ?_⟩
      rw [tx_app]
      refine ⟨_, _, rfl, rfl, (by rw [tx_len, tx_len]; exact big (by simp only [List.length_append, List.length_cons, List.length_nil]; omega)), ?_⟩
      rw [tx_app, show (ws ++ [40] ++ (x ++ 44 :: y)) ++ [41] = wrT ws x y by unfold wrT; simp]
      exact k
def twl (m n : Nat) (y x : Nat) : Nat := if (x + (m + n) - y) % (m + n) < m then 35 else 46
def twT (m n y : Nat) : List Nat := (List.range (m + n)).map (twl m n y)
def fst2 (m n : Nat) : List Nat := List.replicate m 35 ++ List.replicate n 46
theorem fst2_len {m n : Nat} : (fst2 m n).length = m + n := by unfold fst2; rw [List.length_append, List.length_replicate, List.length_replicate]
theorem fst2_at {m n i : Nat} (h : i < (fst2 m n).length) : (fst2 m n)[i] = if i < m then 35 else 46 := by
  unfold fst2 at h ⊢
  by_cases c : i < m
  · rw [if_pos c, List.getElem_append_left (by rw [List.length_replicate]; exact c), List.getElem_replicate]
  · rw [if_neg c, List.getElem_append_right (by rw [List.length_replicate]; omega), List.getElem_replicate]
theorem twT_is {m n y : Nat} (hy : y < m + n) : (fst2 m n).drop (m + n - y) ++ (fst2 m n).take (m + n - y) = twT m n y := by
  have fl := @fst2_len m n
  apply List.ext_getElem
  · unfold twT
    rw [List.length_append, List.length_drop, List.length_take, fl, List.length_map, List.length_range]
    omega
  · intro x h1 h2
    have hx : x < m + n := by
      unfold twT at h2
      rw [List.length_map, List.length_range] at h2
      exact h2
    have hd : ((fst2 m n).drop (m + n - y)).length = y := by rw [List.length_drop, fl]; omega
    have e2 : (twT m n y)[x] = twl m n y x := by simp only [twT, List.getElem_map, List.getElem_range]
    rw [e2]
    unfold twl
    by_cases c : x < y
    · rw [List.getElem_append_left (by rw [hd]; exact c), List.getElem_drop, fst2_at, show m + n - y + x = x + (m + n) - y by omega, Nat.mod_eq_of_lt (show x + (m + n) - y < m + n by omega)]
    · rw [List.getElem_append_right (by rw [hd]; omega), List.getElem_take, fst2_at, hd]
      have e : (x + (m + n) - y) % (m + n) = x - y := by
        rw [show x + (m + n) - y = (x - y) + (m + n) by omega, Nat.add_mod_right]
        exact Nat.mod_eq_of_lt (by omega)
      rw [e]
theorem rep1 (n c : Nat) : (List.replicate n [c]).flatten = List.replicate n c := by
  induction n with
  | zero => rfl
  | succ n ih => rw [List.replicate_succ, List.flatten_cons, ih, List.replicate_succ]; rfl
theorem one_hash : (("#" : Str)) = tx [35] := by decide +kernel
theorem one_dot : (("." : Str)) = tx [46] := by decide +kernel
theorem tw_word : (("twill" : Str)) = tx [116, 119, 105, 108, 108] := by decide +kernel
theorem cut_tail {u : List Nat} {k : Nat} (h : k ≤ u.length) : cutT u (some (k : Int)) none = u.drop k := by
  unfold cutT
  rw [HT.sIx_nat, Nat.min_eq_left h]
  exact List.take_of_length_le (by rw [List.length_drop]; exact Nat.le_refl _)
def twW : List Nat := [116, 119, 105, 108, 108]
def sp_twill (K : PySem.W.Frag) (t : Adr) : Sp := fun vs H Q E => ∃ (r dx : Addr) (m n : Nat), vs = [.ref r, .int (m : Int), .int (n : Int)] ∧ H r = some (.ins t.e_Twill dx []) ∧ m < 100 ∧ n < 100 ∧
  (1 ≤ m → 1 ≤ n → m + n ≤ 40 → ∀ l H', SameB r H H' → H l = none → H' l = some (.lst (vS ((List.range (m + n)).map (twT m n)))) → H' r = some (.ins t.e_Twill dx (pf l (tx (wrT twW (dec m) (dec n))))) → Q .non H') ∧
  ((m = 0 ∨ n = 0) → ∀ H', SameB r H H' → E (.ref t.e_NoPattern) none H') ∧
  (1 ≤ m → 1 ≤ n → 40 < m + n → ∀ H', SameB r H H' → E (.ref t.e_TooLarge) none H')
theorem okx_Twill___init__ (T : Txt K mg t) : FnOk P w K mg base (CX1 P w) 3 t.f_Twill___init__ t.d_Twill___init__ ["self", "over", "under"] (sp_twill K t) := by
  have G_check_size : FnOk P w K mg base (CX1 P w) 2 t.f_check_size t.d_check_size _ _ := okx_check_size T
  have G_written : FnOk P w K mg base CX0 1 t.f_written t.d_written _ _ := ok_written T
  have G_Piece___init__ : FnOk P w K mg base CX0 1 t.f_Piece___init__ t.d_Piece___init__ _ _ := ok_Piece___init__ T
  refine T.m_Twill___init__.F.okX sc_Twill___init__ (fun vs H Q E h => ?_) (fun cdv A outer s H vs Q E hr h => ?_)
  · obtain ⟨r, dx, m, n, rfl, _⟩ := h
    rfl
  · obtain ⟨r, dx, m, n, rfl, h1, hm, hn, k1, k2, k3⟩ := h
    refine ⟨_, (pss_cons (ps_if (PW.pt (pw_or (pt_cmpR op_lt (pv 1) pe_int (nomark _)) (pw_or1 (pt_cmpR op_lt (pv 2) pe_int (nomark _)))))
        (pss_one (ps_raise body1 rfl (fun _ _ z => z) PySem.F.excBase_ValueError has_ve PySem.F.excBase_ValueError T.x_NoPattern.q rfl T.k_NoPattern (pa_cons pe_str pa_nil)))
        pss_nil)
      (pss_cons (ps_set (i := 3) sc_Twill___init__.nd rfl (Or.inr rfl) (pe_op op_add (pv 1) (pv 2)))
      (pss_cons (ps_expr (pe_call (G_check_size.mono (by decide)) hr rfl T.check_size.m T.check_size.F.kp T.check_size.b .nil pass1 (pa_cons (pv 3) (pa_cons (pv 3) pa_nil))))
      (pss_cons (ps_set (i := 4) sc_Twill___init__.nd rfl (Or.inr rfl) (pe_op op_add_str (pe_op op_repS pe_str (pv 1)) (pe_op op_repS pe_str (pv 2))))
      (pss_cons (PS.nox (ps_setC (i := 5) (CompOk.mk (caps := [3, 4]) (Nc := ["y", "size", "first"]) rfl (by decide +kernel) (by decide +kernel) (comp_fr (sc0 := defScope s_Twill___init__) rfl (by decide +kernel)) rfl rfl rfl (by decide +kernel) (fun k j h => match k, h with | 0, h => by obtain rfl := Option.some.inj h; exact ⟨_, rfl, rfl, rfl⟩ | 1, h => by obtain rfl := Option.some.inj h; exact ⟨_, rfl, rfl, rfl⟩ | _ + 2, h => by simp at h)) rfl sc_Twill___init__.nd rfl rfl (pi_range1 rfl T.b_range (pa_cons (pv 3) pa_nil)) (fun _ _ _ _ _ => .nil) (fun _ _ _ _ _ => (pe_op op_add_str (pe_slice sl_str (pv 2) (po_some (pe_op op_sub (pv 1) (pv 0))) po_none) (pe_slice sl_str (pv 2) po_none (po_some (pe_op op_sub (pv 1) (pv 0)))))) rfl))
      (pss_one (ps_expr (pe_clsM (pe_glob (v := .ref t.e_Piece) rfl T.k_Piece rfl) T.cf_Piece (G_Piece___init__.mono (by decide)) hr T.m_Piece___init__.b .nil pass0 (pa_cons (pv 0) (pa_cons (pv 5) (pa_cons (pe_call (G_written.mono (by decide)) hr rfl T.written.m T.written.F.kp T.written.b .nil pass0 (pa_cons pe_str (pa_cons (pe_lst (pa_cons (pe_callTy call_str_int rfl T.b_str bt_str (pa_cons (pv 1) pa_nil)) (pa_cons (pe_callTy call_str_int rfl T.b_str bt_str (pa_cons (pv 2) pa_nil)) pa_nil))) pa_nil))) pa_nil))))))))))), ?_⟩
    refine ⟨_, rfl, _, _, rfl, rfl, _, rfl, ?_⟩
    refine ite2D (fun c1 => ?_) (fun c1 => ?_)
    · refine iteT ?_
      exact ⟨by decide, k2 (.inl (by omega)) _ (fun b o _ e => e)⟩
    · refine ⟨_, rfl, _, _, rfl, rfl, _, rfl, ?_⟩
      refine ite2D (fun c2 => ?_) (fun c2 => ?_)
      · exact ⟨by decide, k2 (.inr (by omega)) _ (fun b o _ e => e)⟩
      · refine ⟨_, rfl, _, rfl, _, _, rfl, rfl, ?_⟩
        refine ⟨_, rfl, _, rfl, m + n, m + n, rfl, fun c3 => ?_, fun c3 H' s' => k3 (by omega) (by omega) (by omega) _ (fun b o _ e => s' b o e)⟩
        refine ⟨_, rfl, [35], (m : Int), (by rw [one_hash]), rfl, (by omega), (by omega), (big (by simp only [List.length_cons, List.length_nil]; omega)), ?_⟩
        refine ⟨_, rfl, [46], (n : Int), (by rw [one_dot]), rfl, (by omega), (by omega), (big (by simp only [List.length_cons, List.length_nil]; omega)), ?_⟩
        rw [Int.toNat_natCast, Int.toNat_natCast, rep1, rep1]
        refine ⟨_, _, rfl, rfl, (by rw [tx_len, tx_len]; exact big (by rw [List.length_replicate, List.length_replicate]; omega)), ?_⟩
        rw [tx_app, show List.replicate m 35 ++ List.replicate n 46 = fst2 m n from rfl]
        obtain ⟨N, hN⟩ : ∃ N, N = m + n := ⟨_, rfl⟩
        refine ⟨_, rfl, _, rfl, (by show -(2 ^ 62) ≤ (m : Int) + (n : Int); omega), (by show (m : Int) + (n : Int) < 2 ^ 62; omega), ?_⟩
        rw [show ((m : Int) + (n : Int)).toNat = m + n by omega]
        refine comp_range (lo := 0) (n := m + n) (fun i ys H2 => H2 = H ∧ ys = vS ((List.range i).map (twT m n))) ⟨rfl, rfl⟩ ?_ ?_ ?_ ?_
        · rintro i ys H2 hi ⟨rfl, rfl⟩
          rw [vS_len, List.length_map, List.length_range]
          exact Nat.le_refl _
        · exact big (by omega)
        · rintro i ys H2 hi ⟨rfl, rfl⟩
          refine CTurn.no ?_
          have fl := @fst2_len m n
          refine ⟨_, rfl, _, rfl, _, rfl, _, _, rfl, rfl, _, rfl, fst2 m n, rfl, big (by omega), ?_⟩
          rw [show (m : Int) + (n : Int) - (0 + (i : Int)) = ((m + n - i : Nat) : Int) by omega, cut_tail (by omega)]
          refine ⟨_, rfl, _, rfl, _, rfl, _, _, rfl, rfl, _, rfl, fst2 m n, rfl, big (by omega), ?_⟩
          rw [show (m : Int) + (n : Int) - (0 + (i : Int)) = ((m + n - i : Nat) : Int) by omega, cut_to (by omega)]
          refine ⟨_, _, rfl, rfl, (by rw [tx_len, tx_len]; exact big (by rw [List.length_drop, List.length_take]; omega)), ?_⟩
          rw [tx_app, twT_is hi]
          exact (CN.of hi ⟨rfl, by rw [List.range_succ, List.map_append]; exact vS_app _ _⟩ : CN (m + n) (fun i ys H3 => H3 = H2 ∧ ys = vS ((List.range i).map (twT m n))) i (vS ((List.range i).map (twT m n)) ++ [.str (tx (twT m n i))]) H2)
        · rintro ys H2 q ⟨rfl, rfl⟩ hq
          have hqr : r ≠ q := ne_of_none h1 hq
          refine ⟨rfl, _, rfl, _, rfl, _, rfl, _, rfl, lg hm, _, rfl, _, rfl, lg hn, (by show 2 ≤ sizeLine; decide), fun p hp => ?_⟩
          rw [dec_tx m, dec_tx n]
          have d1 := (dec_is hm).l2
          have d2 := (dec_is hn).l2
          refine ⟨p, twW, dec m, dec n, (by rw [tw_word]; rfl), SqL.of upd_same, (by decide), by omega, by omega, ?_⟩
          have npq : q ≠ p := fun z => by rw [← z, upd_same] at hp; cases hp
          have npr : r ≠ p := fun z => by rw [← z, upd_ne hqr, h1] at hp; cases hp
          refine ⟨t.e_Twill, r, dx, q, (List.range (m + n)).map (twT m n), _, rfl, ?_, T.o_Twill.c, T.na_Twill_texts, T.na_Twill_writing, SqL.of (by rw [upd_ne npq]; exact upd_same), fun l hl => ?_⟩
          · rw [upd_ne npr, upd_ne hqr]
            exact h1
          have nlp : l ≠ p := fun z => by rw [z, upd_same] at hl; cases hl
          rw [upd_ne nlp] at hl
          have nlq : l ≠ q := fun z => by rw [z, upd_same] at hl; cases hl
          rw [upd_ne nlq] at hl
          have nlr : l ≠ r := fun z => by rw [z, h1] at hl; cases hl
          refine k1 (by omega) (by omega) c3.1 l _ (fun b o hb e => ?_) hl ?_ upd_same
          · have hp' : H2 p = none := by
              rw [upd_ne npq.symm] at hp
              exact hp
            rw [upd_ne hb, upd_ne (ne_of_none e hl), upd_ne (ne_of_none e hp'), upd_ne (ne_of_none e hq)]
            exact e
          · rw [upd_ne nlr]
            exact upd_same
def stT (s o : Nat) : List Nat := (List.range s).map fun x => if x = o then 35 else 46
theorem stT_is {s o : Nat} (ho : o < s) : List.replicate o 46 ++ [35] ++ List.replicate (s - 1 - o) 46 = stT s o := by
  apply List.ext_getElem
  · unfold stT
    simp only [List.length_append, List.length_replicate, List.length_cons, List.length_nil, List.length_map, List.length_range]
    omega
  · intro x h1 h2
    have e2 : (stT s o)[x] = if x = o then 35 else 46 := by simp only [stT, List.getElem_map, List.getElem_range]
    rw [e2]
    by_cases c : x < o
    · rw [if_neg (by omega), List.getElem_append_left (by simp only [List.length_append, List.length_replicate, List.length_cons, List.length_nil]; omega), List.getElem_append_left (by rw [List.length_replicate]; exact c), List.getElem_replicate]
    · by_cases c2 : x = o
      · subst c2
        rw [if_pos rfl, List.getElem_append_left (by simp only [List.length_append, List.length_replicate, List.length_cons, List.length_nil]; omega), List.getElem_append_right (by rw [List.length_replicate]; omega)]
        simp
      · rw [if_neg c2, List.getElem_append_right (by simp only [List.length_append, List.length_replicate, List.length_cons, List.length_nil]; omega), List.getElem_replicate]
def saT (s p y : Nat) : List Nat := stT s (y * p % s)
def saW : List Nat := [115, 97, 116, 105, 110]
theorem sa_word : (("satin" : Str)) = tx saW := by decide +kernel
def Pri (s p : Nat) : Prop := 1 ≤ p ∧ p < s ∧ cop s p p = false
def sp_satin (K : PySem.W.Frag) (t : Adr) : Sp := fun vs H Q E => ∃ (r dx : Addr) (m n : Nat), vs = [.ref r, .int (m : Int), .int (n : Int)] ∧ H r = some (.ins t.e_Satin dx []) ∧ m < 100 ∧ n < 100 ∧
  (Pri m n → m ≤ 40 → ∀ l H', SameB r H H' → H l = none → H' l = some (.lst (vS ((List.range m).map (saT m n)))) → H' r = some (.ins t.e_Satin dx (pf l (tx (wrT saW (dec m) (dec n))))) → Q .non H') ∧
  (¬ Pri m n → ∀ H', SameB r H H' → E (.ref t.e_NoPattern) none H') ∧
  (Pri m n → 40 < m → ∀ H', SameB r H H' → E (.ref t.e_TooLarge) none H')
theorem okx_Satin___init__ (T : Txt K mg t) : FnOk P w K mg base (CX1 P w) 3 t.f_Satin___init__ t.d_Satin___init__ ["self", "size", "step"] (sp_satin K t) := by
  have G_check_size : FnOk P w K mg base (CX1 P w) 2 t.f_check_size t.d_check_size _ _ := okx_check_size T
  have G_prime_to : FnOk P w K mg base CX0 2 t.f_prime_to t.d_prime_to _ _ := ok_prime_to T
  have G_written : FnOk P w K mg base CX0 1 t.f_written t.d_written _ _ := ok_written T
  have G_Piece___init__ : FnOk P w K mg base CX0 1 t.f_Piece___init__ t.d_Piece___init__ _ _ := ok_Piece___init__ T
  refine T.m_Satin___init__.F.okX sc_Satin___init__ (fun vs H Q E h => ?_) (fun cdv A outer s H vs Q E hr h => ?_)
  · obtain ⟨r, dx, m, n, rfl, _⟩ := h
    rfl
  · obtain ⟨r, dx, m, n, rfl, h1, hm, hn, k1, k2, k3⟩ := h
    refine ⟨_, (pss_cons (ps_if (PW.pt (pw_or (pt_cmpR op_lt (pv 2) pe_int (nomark _)) (pw_or (pt_cmpR op_ge (pv 2) (pv 1) (nomark _)) (pw_or1 (pt_not (pt_val (pe_call (G_prime_to.mono (by decide)) hr rfl T.prime_to.m T.prime_to.F.kp T.prime_to.b .nil pass0 (pa_cons (pv 1) (pa_cons (pv 2) pa_nil)))))))))
        (pss_one (ps_raise body1 rfl (fun _ _ z => z) PySem.F.excBase_ValueError has_ve PySem.F.excBase_ValueError T.x_NoPattern.q rfl T.k_NoPattern (pa_cons pe_str pa_nil)))
        pss_nil)
      (pss_cons (ps_expr (pe_call (G_check_size.mono (by decide)) hr rfl T.check_size.m T.check_size.F.kp T.check_size.b .nil pass1 (pa_cons (pv 1) (pa_cons (pv 1) pa_nil))))
      (pss_cons (PS.nox (ps_setC (i := 3) (CompOk.mk (caps := [1, 2]) (Nc := ["y", "size", "step"]) rfl (by decide +kernel) (by decide +kernel) (comp_fr (sc0 := defScope s_Satin___init__) rfl (by decide +kernel)) rfl rfl rfl (by decide +kernel) (fun k j h => match k, h with | 0, h => by obtain rfl := Option.some.inj h; exact ⟨_, rfl, rfl, rfl⟩ | 1, h => by obtain rfl := Option.some.inj h; exact ⟨_, rfl, rfl, rfl⟩ | _ + 2, h => by simp at h)) rfl sc_Satin___init__.nd rfl rfl (pi_range1 rfl T.b_range (pa_cons (pv 1) pa_nil)) (fun _ _ _ _ _ => .nil) (fun _ _ _ _ _ => (pe_op op_mod (pe_op op_mul (pv 0) (pv 2)) (pv 1))) rfl))
      (pss_cons (PS.nox (ps_setC (i := 4) (CompOk.mk (caps := [1]) (Nc := ["over", "size"]) rfl (by decide +kernel) (by decide +kernel) (comp_fr (sc0 := defScope s_Satin___init__) rfl (by decide +kernel)) rfl rfl rfl (by decide +kernel) (fun k j h => match k, h with | 0, h => by obtain rfl := Option.some.inj h; exact ⟨_, rfl, rfl, rfl⟩ | _ + 1, h => by simp at h)) rfl sc_Satin___init__.nd rfl rfl (pi_listK (K := K) (pv 3)) (fun _ _ _ _ _ => .nil) (fun _ _ _ _ _ => (pe_op op_add_str (pe_op op_add_str (pe_op op_repS pe_str (pv 0)) pe_str) (pe_op op_repS pe_str (pe_op op_sub (pe_op op_sub (pv 1) pe_int) (pv 0))))) rfl))
      (pss_one (ps_expr (pe_clsM (pe_glob (v := .ref t.e_Piece) rfl T.k_Piece rfl) T.cf_Piece (G_Piece___init__.mono (by decide)) hr T.m_Piece___init__.b .nil pass0 (pa_cons (pv 0) (pa_cons (pv 4) (pa_cons (pe_call (G_written.mono (by decide)) hr rfl T.written.m T.written.F.kp T.written.b .nil pass0 (pa_cons pe_str (pa_cons (pe_lst (pa_cons (pe_callTy call_str_int rfl T.b_str bt_str (pa_cons (pv 1) pa_nil)) (pa_cons (pe_callTy call_str_int rfl T.b_str bt_str (pa_cons (pv 2) pa_nil)) pa_nil))) pa_nil))) pa_nil)))))))))), ?_⟩
    refine ⟨_, rfl, _, _, rfl, rfl, _, rfl, ?_⟩
    refine ite2D (fun c1 => ?_) (fun c1 => ?_)
    · refine iteT ?_
      exact ⟨by decide, k2 (fun z => by have := z.1; omega) _ (fun b o _ e => e)⟩
    · refine ⟨_, rfl, _, rfl, _, _, rfl, rfl, _, rfl, ?_⟩
      refine ite2D (fun c2 => ?_) (fun c2 => ?_)
      · exact ⟨by decide, k2 (fun z => by have := z.2.1; omega) _ (fun b o _ e => e)⟩
      · refine ⟨_, rfl, _, rfl, m, n, rfl, by omega, by omega, by omega, fun H1 s1 => ?_⟩
        refine ⟨_, rfl, ?_⟩
        cases c3 : cop m n n with
        | true =>
          refine iteT ?_
          exact ⟨by decide, k2 (fun z => by have := z.2.2; rw [c3] at this; cases this) _ (fun b o _ e => s1 b o e)⟩
        | false =>
          refine iteF ?_
          have pr : Pri m n := ⟨by omega, by omega, c3⟩
          refine ⟨_, rfl, _, rfl, m, m, rfl, fun c4 => ?_, fun c4 H' s' => k3 pr (by omega) _ (fun b o _ e => s' b o (s1 b o e))⟩
          have h1' := s1 _ _ h1
          have m0 : 0 < m := by omega
          refine ⟨_, rfl, _, rfl, (by omega), (by omega), ?_⟩
          rw [Int.toNat_natCast]
          refine comp_range (lo := 0) (n := m) (fun i ys H2 => H2 = H1 ∧ ys = vI ((List.range i).map fun y => ((y * n % m : Nat) : Int))) ⟨rfl, rfl⟩ ?_ ?_ ?_ ?_
          · rintro i ys H2 hi ⟨rfl, rfl⟩
            rw [vI_len, List.length_map, List.length_range]
            exact Nat.le_refl _
          · exact big (by omega)
          · rintro i ys H2 hi ⟨rfl, rfl⟩
            refine CTurn.no ?_
            refine ⟨_, rfl, _, rfl, _, _, rfl, rfl, (.inr ⟨by omega, by omega⟩), _, rfl, _, _, rfl, rfl, (by omega), ?_⟩
            show CN _ _ _ (_ ++ [V.int ((0 + (i : Int)) * (n : Int) % (m : Int))]) _
            rw [show (0 + (i : Int)) * (n : Int) % (m : Int) = ((i * n % m : Nat) : Int) by rw [Int.zero_add, ← Int.natCast_mul, ← Int.natCast_emod]]
            exact (CN.of hi ⟨rfl, by rw [List.range_succ, List.map_append]; exact vI_app _ _⟩ : CN m (fun i ys H3 => H3 = H2 ∧ ys = vI ((List.range i).map fun y => ((y * n % m : Nat) : Int))) i (vI ((List.range i).map fun y => ((y * n % m : Nat) : Int)) ++ [.int ((i * n % m : Nat) : Int)]) H2)
          · rintro ys H2 q ⟨rfl, rfl⟩ hq
            have hqr : r ≠ q := ne_of_none h1' hq
            have e3 : (upd H2 q (.lst (vI ((List.range m).map fun y => ((y * n % m : Nat) : Int))))) q = some (.lst (vI ((List.range m).map fun y => ((y * n % m : Nat) : Int)))) := upd_same
            have s3 : Same H2 (upd H2 q (.lst (vI ((List.range m).map fun y => ((y * n % m : Nat) : Int))))) := .upd hq
            generalize upd H2 q (.lst (vI ((List.range m).map fun y => ((y * n % m : Nat) : Int)))) = H3 at e3 s3 ⊢
            have h3 := s3 _ _ h1'
            refine ⟨_, rfl, _, rfl, ⟨_, SqL.of e3⟩, ?_⟩
            refine comp_list (K := K) (a := q) (xs := vI ((List.range m).map fun y => ((y * n % m : Nat) : Int))) (fun i ys H4 => H4 = H3 ∧ ys = vS ((List.range i).map (saT m n))) ⟨rfl, rfl⟩ ?_ ?_ ?_ ?_
            · rintro i ys H4 hi ⟨rfl, rfl⟩
              refine ⟨SqL.of e3, ?_⟩
              rw [vS_len, List.length_map, List.length_range]
              exact Nat.le_refl _
            · rw [vI_len, List.length_map, List.length_range]
              exact big (by omega)
            · rintro i x ys H4 hi hx ⟨rfl, rfl⟩
              rw [vI_len, List.length_map, List.length_range] at hi
              have ex : x = .int ((i * n % m : Nat) : Int) := by
                unfold vI at hx
                rw [List.getElem?_map, List.getElem?_map, List.getElem?_range hi] at hx
                exact (Option.some.inj hx).symm
              have lo : i * n % m < m := Nat.mod_lt _ m0
              obtain ⟨o, eo⟩ : ∃ o, o = i * n % m := ⟨_, rfl⟩
              rw [ex]
              rw [← eo] at lo ⊢
              refine CTurn.no ?_
              refine ⟨_, rfl, [46], (o : Int), (by rw [one_dot]), rfl, (by omega), (by omega), (big (by simp only [List.length_cons, List.length_nil]; omega)), ?_⟩
              rw [Int.toNat_natCast, rep1, one_hash]
              refine ⟨_, _, rfl, rfl, (by rw [tx_len, tx_len]; exact big (by rw [List.length_replicate]; simp only [List.length_cons, List.length_nil]; omega)), ?_⟩
              rw [tx_app]
              refine ⟨_, rfl, _, _, rfl, rfl, _, rfl, _, _, rfl, rfl, [46], ((m - 1 - o : Nat) : Int), (by rw [one_dot]), ?_, (by omega), (by omega), (big (by simp only [List.length_cons, List.length_nil]; omega)), ?_⟩
              · show V.int ((m : Int) - 1 - (o : Int)) = _
                rw [show (m : Int) - 1 - (o : Int) = ((m - 1 - o : Nat) : Int) by omega]
              rw [Int.toNat_natCast, rep1]
              refine ⟨_, _, rfl, rfl, (by rw [tx_len, tx_len]; exact big (by rw [List.length_append, List.length_replicate, List.length_replicate]; simp only [List.length_cons, List.length_nil]; omega)), ?_⟩
              rw [tx_app, stT_is lo]
              rw [vI_len, List.length_map, List.length_range]
              exact (CN.of hi ⟨rfl, by rw [List.range_succ, List.map_append, eo]; exact vS_app _ _⟩ : CN m (fun i ys H5 => H5 = H4 ∧ ys = vS ((List.range i).map (saT m n))) i (vS ((List.range i).map (saT m n)) ++ [.str (tx (stT m o))]) H4)
            · rintro ys H4 q2 ⟨rfl, rfl⟩ hq2
              rw [vI_len, List.length_map, List.length_range]
              have hqr2 : r ≠ q2 := ne_of_none h3 hq2
              refine ⟨rfl, _, rfl, _, rfl, _, rfl, _, rfl, lg hm, _, rfl, _, rfl, lg hn, (by show 2 ≤ sizeLine; decide), fun p hp => ?_⟩
              rw [dec_tx m, dec_tx n]
              have d1 := (dec_is hm).l2
              have d2 := (dec_is hn).l2
              refine ⟨p, saW, dec m, dec n, (by rw [sa_word]; rfl), SqL.of upd_same, (by decide), by omega, by omega, ?_⟩
              have npq : q2 ≠ p := fun z => by rw [← z, upd_same] at hp; cases hp
              have npr : r ≠ p := fun z => by rw [← z, upd_ne hqr2, h3] at hp; cases hp
              refine ⟨t.e_Satin, r, dx, q2, (List.range m).map (saT m n), _, rfl, ?_, T.o_Satin.c, T.na_Satin_texts, T.na_Satin_writing, SqL.of (by rw [upd_ne npq]; exact upd_same), fun l hl => ?_⟩
              · rw [upd_ne npr, upd_ne hqr2]
                exact h3
              have nlp : l ≠ p := fun z => by rw [z, upd_same] at hl; cases hl
              rw [upd_ne nlp] at hl
              have nlq : l ≠ q2 := fun z => by rw [z, upd_same] at hl; cases hl
              rw [upd_ne nlq] at hl
              have nlr : l ≠ r := fun z => by rw [z, h3] at hl; cases hl
              have hlH : H l = none := by
                cases e : H l with
                | none => rfl
                | some o => rw [s3 _ _ (s1 _ _ e)] at hl; cases hl
              refine k1 pr c4.1 l _ (fun b o hb e => ?_) hlH ?_ upd_same
              · have hp' : H4 p = none := by
                  rw [upd_ne npq.symm] at hp
                  exact hp
                have e' := s3 _ _ (s1 _ _ e)
                rw [upd_ne hb, upd_ne (ne_of_none e' hl), upd_ne (ne_of_none e' hp'), upd_ne (ne_of_none e' hq2)]
                exact e'
              · rw [upd_ne nlr]
                exact upd_same
def wN : Bool → List Nat
  | true => twW
  | false => saW
def wS : Bool → Str
  | true => "twill"
  | false => "satin"
def cC (t : Adr) : Bool → Addr
  | true => t.e_Twill
  | false => t.e_Satin
def Gd : Bool → Nat → Nat → Prop
  | true, m, n => 1 ≤ m ∧ 1 ≤ n
  | false, m, n => Pri m n
def sz : Bool → Nat → Nat → Nat
  | true, m, n => m + n
  | false, m, _ => m
def rw1 : Bool → Nat → Nat → Nat → List Nat
  | true, m, n, y => twT m n y
  | false, m, n, y => saT m n y
def rws (tw : Bool) (m n : Nat) : List (List Nat) := (List.range (sz tw m n)).map (rw1 tw m n)
def Pce (t : Adr) (H : Hp) (p : Addr) (tw : Bool) (m n : Nat) : Prop := ∃ dx l, H p = some (.ins (cC t tw) dx (pf l (tx (wrT (wN tw) (dec m) (dec n))))) ∧ H l = some (.lst (vS (rws tw m n)))
def Outc (t : Adr) (tw : Bool) (m n : Nat) (H : Hp) (Q : VK) (E : XK) : Prop :=
  (Gd tw m n → sz tw m n ≤ 40 → ∀ p H', Same H H' → Pce t H' p tw m n → Q (.ref p) H') ∧
  (¬ Gd tw m n → ∀ H', Same H H' → E (.ref t.e_NoPattern) none H') ∧
  (Gd tw m n → 40 < sz tw m n → ∀ H', Same H H' → E (.ref t.e_TooLarge) none H')
theorem Outc.same {tw : Bool} {m n : Nat} {H H1 : Hp} {Q : VK} {E : XK} (h : Outc t tw m n H Q E) (s : Same H H1) : Outc t tw m n H1 Q E := ⟨fun a b p H' s' => h.1 a b p H' (s.trans s'), fun a H' s' => h.2.1 a H' (s.trans s'), fun a b H' s' => h.2.2 a b H' (s.trans s')⟩
theorem same_made {r dx C : Addr} {H H' : Hp} (h1 : H r = none) (h2 : H dx = none) (s : SameB r (upd (upd H dx (.own r)) r (.ins C dx [])) H') : Same H H' := fun b o e => by
  have n1 := ne_of_none e h1
  refine s b o n1 ?_
  rw [upd_ne n1, upd_ne (ne_of_none e h2)]
  exact e
def sp_mtwo (t : Adr) : Sp := fun vs H Q E => ∃ (tw : Bool) (m n : Nat), vs = [.str (wS tw), .int (m : Int), .int (n : Int)] ∧ m < 100 ∧ n < 100 ∧ Outc t tw m n H Q E
theorem okx_made_of_two (T : Txt K mg t) : FnOk P w K mg base (CX1 P w) 5 t.f_made_of_two t.d_made_of_two ["word", "one", "other"] (sp_mtwo t) := by
  have G_Twill___init__ : FnOk P w K mg base (CX1 P w) 3 t.f_Twill___init__ t.d_Twill___init__ _ _ := okx_Twill___init__ T
  have G_Satin___init__ : FnOk P w K mg base (CX1 P w) 3 t.f_Satin___init__ t.d_Satin___init__ _ _ := okx_Satin___init__ T
  refine T.made_of_two.F.okX sc_made_of_two (fun vs H Q E h => ?_) (fun cdv A outer s H vs Q E hr h => ?_)
  · obtain ⟨tw, m, n, rfl, _⟩ := h
    rfl
  · obtain ⟨tw, m, n, rfl, hm, hn, k1, k2, k3⟩ := h
    refine ⟨_, (pss_cons (ps_if (pt_cmpR op_eq (pv 0) pe_str (nomark _))
        (pss_one (ps_ret (pe_make T.o_Twill.m (G_Twill___init__.mono (by decide)) hr rfl T.k_Twill T.m_Twill___init__.b .nil pass1 (pa_cons (pv 1) (pa_cons (pv 2) pa_nil)))))
        pss_nil)
      (pss_cons (ps_if (pt_cmpR op_eq (pv 0) pe_str (nomark _))
        (pss_one (ps_ret (pe_make T.o_Satin.m (G_Satin___init__.mono (by decide)) hr rfl T.k_Satin T.m_Satin___init__.b .nil pass1 (pa_cons (pv 1) (pa_cons (pv 2) pa_nil)))))
        pss_nil)
      (pss_cons (ps_if (pt_cmpR op_eq (pv 0) pe_str (nomark _))
        (pss_one ps_never)
        pss_nil)
      (pss_cons (ps_if (pt_cmpR op_eq (pv 0) pe_str (nomark _))
        (pss_one ps_never)
        pss_nil)
      (pss_one ps_never))))), ?_⟩
    cases tw with
    | true =>
      refine ⟨_, rfl, rfl, _, rfl, ?_⟩
      refine iteDp rfl ?_
      refine ⟨_, rfl, _, rfl, fun r dx hr1 hdx hne => ⟨r, dx, m, n, rfl, upd_same, hm, hn, fun g1 g2 g3 l H' sb _ hl hr9 => ?_, fun g1 H' sb => ?_, fun g1 g2 g3 H' sb => ?_⟩⟩
      · exact ⟨rfl, k1 ⟨g1, g2⟩ g3 r H' (same_made hr1 hdx sb) ⟨dx, l, hr9, hl⟩⟩
      · exact k2 (fun z => by have := z.1; have := z.2; omega) H' (same_made hr1 hdx sb)
      · exact k3 ⟨g1, g2⟩ g3 H' (same_made hr1 hdx sb)
    | false =>
      refine ⟨_, rfl, rfl, _, rfl, ?_⟩
      refine iteDn (by decide +kernel) ?_
      refine ⟨_, rfl, rfl, _, rfl, ?_⟩
      refine iteDp rfl ?_
      refine ⟨_, rfl, _, rfl, fun r dx hr1 hdx hne => ⟨r, dx, m, n, rfl, upd_same, hm, hn, fun g1 g3 l H' sb _ hl hr9 => ?_, fun g1 H' sb => ?_, fun g1 g3 H' sb => ?_⟩⟩
      · exact ⟨rfl, k1 g1 g3 r H' (same_made hr1 hdx sb) ⟨dx, l, hr9, hl⟩⟩
      · exact k2 g1 H' (same_made hr1 hdx sb)
      · exact k3 g1 g3 H' (same_made hr1 hdx sb)
def sp_wout (K : PySem.W.Frag) (t : Adr) : Sp := fun vs H Q E => ∃ (tw : Bool) (m n : Nat) (a q : Addr) (kn : V), vs = [.ref a, kn] ∧ H a = some (.tup [.str (wS tw), .ref q]) ∧ H q = some (.lst [.int (m : Int), .int (n : Int)]) ∧ m < 100 ∧ n < 100 ∧ Outc t tw m n H Q E
theorem okx_worked_out (T : Txt K mg t) : FnOk P w K mg base (CX1 P w) 6 t.f_worked_out t.d_worked_out ["node", "known"] (sp_wout K t) := by
  have G_made_of_two : FnOk P w K mg base (CX1 P w) 5 t.f_made_of_two t.d_made_of_two _ _ := okx_made_of_two T
  have G_worked_out : FnOk P w K mg base (CX1 P w) 4 t.f_worked_out t.d_worked_out ["node", "known"] _ := fn_no
  refine T.worked_out.F.okX sc_worked_out (fun vs H Q E h => ?_) (fun cdv A outer s H vs Q E hr h => ?_)
  · obtain ⟨tw, m, n, a, q, kn, rfl, _⟩ := h
    rfl
  · obtain ⟨tw, m, n, a, q, kn, rfl, ha, hq, hm, hn, k⟩ := h
    refine ⟨_, (pss_cons (ps_if (pt_cmpR op_isN (pe_ix (ix_tupK (K := K)) (pv 0) pe_int (fun _ _ => rfl)) pe_non (nomark _))
        (pss_one ps_never)
        pss_nil)
      (pss_cons (ps_setCX (i := 2) (E' := E) body1 (fun _ _ z => z) (CompOk.mk (caps := [1]) (Nc := ["thing", "known"]) rfl (by decide +kernel) (by decide +kernel) (comp_fr (sc0 := defScope s_worked_out) rfl (by decide +kernel)) rfl rfl rfl (by decide +kernel) (fun k j h => match k, h with | 0, h => by obtain rfl := Option.some.inj h; exact ⟨_, rfl, rfl, rfl⟩ | _ + 1, h => by simp at h)) rfl sc_worked_out.nd rfl rfl (pi_listK (K := K) (pe_ix (ix_tupK (K := K)) (pv 0) pe_int (fun _ _ => rfl))) (fun _ _ _ _ _ => .nil) (fun _ _ _ _ _ => (pe_ifExp (pt_val (pe_callB (call_isiK (K := K)) rfl T.b_isinstance bt_isinstance (pa_cons (pv 0) (pa_cons (pe_bltn (v := .ty "tuple") rfl T.b_tuple bt_tuple rfl) pa_nil)))) (pe_call (G_worked_out.mono (by decide)) hr rfl T.worked_out.m T.worked_out.F.kp T.worked_out.b .nil passC (pa_cons (pv 0) (pa_cons (pv 1) pa_nil))) (pv 0))) rfl)
      (pss_cons (ps_if (pt_cmpR op_eq (pe_ix (ix_tupK (K := K)) (pv 0) pe_int (fun _ _ => rfl)) pe_str (nomark _))
        (pss_one ps_never)
        pss_nil)
      (pss_cons (ps_if (pt_cmpR op_eq (pe_callB (call_len_seqK (K := K)) rfl T.b_len bt_len (pa_cons (pv 2) pa_nil)) pe_int (nomark _))
        (pss_one ps_never)
        pss_nil)
      (pss_cons (ps_if (pt_cmpR op_eq (pe_callB (call_len_seqK (K := K)) rfl T.b_len bt_len (pa_cons (pv 2) pa_nil)) pe_int (nomark _))
        (pss_one ps_never)
        pss_nil)
      (pss_one (ps_ret (pe_call (G_made_of_two.mono (by decide)) hr rfl T.made_of_two.m T.made_of_two.F.kp T.made_of_two.b .nil pass1 (pa_cons (pe_ix (ix_tupK (K := K)) (pv 0) pe_int (fun _ _ => rfl)) (pa_cons (pe_ix (ix_listK (K := K)) (pv 2) pe_int (fun _ _ => rfl)) (pa_cons (pe_ix (ix_listK (K := K)) (pv 2) pe_int (fun _ _ => rfl)) pa_nil))))))))))), ?_⟩
    have a0 : atI [V.str (wS tw), V.ref q] 0 = some (.str (wS tw)) := atI_of (by decide) rfl
    have a1 : atI [V.str (wS tw), V.ref q] 1 = some (.ref q) := atI_of (by decide) rfl
    have b0 : atI [V.int (m : Int), V.int (n : Int)] 0 = some (.int (m : Int)) := atI_of (by decide) rfl
    have b1 : atI [V.int (m : Int), V.int (n : Int)] 1 = some (.int (n : Int)) := atI_of (by decide) rfl
    refine ⟨_, rfl, _, _, _, _, rfl, rfl, SqT.of ha, a1, rfl, _, rfl, ?_⟩
    refine iteDn (fun z => nomatch z) ?_
    refine ⟨_, rfl, _, _, _, _, rfl, rfl, SqT.of ha, a1, _, rfl, ⟨_, SqL.of hq⟩, ?_⟩
    refine comp_list (K := K) (a := q) (xs := [V.int (m : Int), V.int (n : Int)]) (fun i ys H2 => H2 = H ∧ ys = [V.int (m : Int), V.int (n : Int)].take i) ⟨rfl, rfl⟩ ?_ ?_ ?_ ?_
    · rintro i ys H2 hi ⟨rfl, rfl⟩
      refine ⟨SqL.of hq, ?_⟩
      rw [List.length_take]
      exact Nat.min_le_left _ _
    · show 2 ≤ sizeLine
      decide
    · rintro i x ys H2 hi hx ⟨rfl, rfl⟩
      refine CTurn.no ?_
      have hxi : ∃ z : Int, x = .int z := by
        have : x ∈ [V.int (m : Int), V.int (n : Int)] := List.mem_of_getElem? hx
        rcases List.mem_cons.mp this with e | e
        · exact ⟨_, e⟩
        · exact ⟨_, List.mem_singleton.mp e⟩
      obtain ⟨z, rfl⟩ := hxi
      refine ⟨_, rfl, _, _, false, .int z, .inl ⟨_, rfl, rfl⟩, _, rfl, ?_⟩
      refine iteF ?_
      refine ⟨_, rfl, ?_⟩
      exact CN.of hi ⟨rfl, by rw [List.take_add_one, hx]; rfl⟩
    · rintro ys H2 l ⟨rfl, rfl⟩ hl
      have sl : Same H2 (upd H2 l (.lst ([V.int (m : Int), V.int (n : Int)].take [V.int (m : Int), V.int (n : Int)].length))) := .upd hl
      have hl9 : (upd H2 l (.lst ([V.int (m : Int), V.int (n : Int)].take [V.int (m : Int), V.int (n : Int)].length))) l = some (.lst [V.int (m : Int), V.int (n : Int)]) := upd_same
      generalize upd H2 l (.lst ([V.int (m : Int), V.int (n : Int)].take [V.int (m : Int), V.int (n : Int)].length)) = H3 at sl hl9 ⊢
      have ha3 := sl _ _ ha
      refine ⟨_, rfl, _, _, _, _, rfl, rfl, SqT.of ha3, a0, rfl, _, rfl, ?_⟩
      refine iteDn (by cases tw <;> decide +kernel) ?_
      refine ⟨_, rfl, _, _, rfl, .inl (SqL.of hl9), rfl, _, rfl, ?_⟩
      refine iteDn (by show ¬ (V.int 2 : V) = V.int 1; decide) ?_
      refine ⟨_, rfl, _, _, rfl, .inl (SqL.of hl9), rfl, _, rfl, ?_⟩
      refine iteDn (by show ¬ (V.int 2 : V) = V.int 3; decide) ?_
      refine ⟨_, rfl, _, _, _, _, rfl, rfl, SqT.of ha3, a0, _, rfl, _, _, _, _, rfl, rfl, SqL.of hl9, b0, _, rfl, _, _, _, _, rfl, rfl, SqL.of hl9, b1, tw, m, n, rfl, hm, hn, ?_⟩
      exact k.same sl
def sp_rpat (t : Adr) : Sp := fun vs H Q E => ∃ (tw : Bool) (m n g g0 g2 : Nat) (u : List Nat) (kn : V), vs = [.str (tx u), kn] ∧ u = sps g0 ++ two (wN tw) m n g (sps g2) ∧ u.length ≤ 1000 ∧ m < 100 ∧ n < 100 ∧ Outc t tw m n H Q E
theorem wd2 (tw : Bool) : Wd2 (wS tw) (wN tw) := by
  cases tw
  · exact ⟨.inr rfl, sa_word, by decide⟩
  · exact ⟨.inl rfl, tw_word, by decide⟩
theorem okx_read_pattern (T : Txt K mg t) : FnOk P w K mg base (CX1 P w) 8 t.f_read_pattern t.d_read_pattern ["text", "known"] (sp_rpat t) := by
  have G_worked_out : FnOk P w K mg base (CX1 P w) 6 t.f_worked_out t.d_worked_out _ _ := okx_worked_out T
  have G_read_whole : FnOk P w K mg base CX0 7 t.f_read_whole t.d_read_whole _ _ := ok_read_whole T
  refine T.read_pattern.F.okX sc_read_pattern (fun vs H Q E h => ?_) (fun cdv A outer s H vs Q E hr h => ?_)
  · obtain ⟨tw, m, n, g, g0, g2, u, kn, rfl, _⟩ := h
    rfl
  · obtain ⟨tw, m, n, g, g0, g2, u, kn, rfl, hu, hul, hm, hn, k⟩ := h
    refine ⟨_, (pss_one (ps_ret (pe_call (G_worked_out.mono (by decide)) hr rfl T.worked_out.m T.worked_out.F.kp T.worked_out.b .nil pass1 (pa_cons (pe_call (G_read_whole.mono (by decide)) hr rfl T.read_whole.m T.read_whole.F.kp T.read_whole.b .nil pass0 (pa_cons (pv 0) pa_nil)) (pa_cons (pv 1) pa_nil))))), ?_⟩
    refine ⟨_, rfl, u, m, n, g, g0, g2, wS tw, wN tw, rfl, wd2 tw, hu, hul, hm, hn, fun q a H1 s1 _ _ hq ha => ?_⟩
    exact ⟨_, rfl, tw, m, n, a, q, kn, rfl, ha, hq, hm, hn, k.same s1⟩
theorem rws_len {tw : Bool} {m n : Nat} : (rws tw m n).length = sz tw m n := by unfold rws; rw [List.length_map, List.length_range]
theorem rws_at {tw : Bool} {m n i : Nat} (h : i < sz tw m n) : (rws tw m n)[i]? = some (rw1 tw m n i) := by
  unfold rws
  rw [List.getElem?_map, List.getElem?_range h]
  rfl
theorem rw1_len {tw : Bool} {m n i : Nat} : (rw1 tw m n i).length = sz tw m n := by
  cases tw
  · show (stT _ _).length = m
    unfold stT
    rw [List.length_map, List.length_range]
  · show (twT _ _ _).length = m + n
    unfold twT
    rw [List.length_map, List.length_range]
theorem pf_texts (l : Addr) (z : Str) : (pf l z).lookup ("texts" : Str) = some (V.ref l) := rfl
theorem pf_writing (l : Addr) (z : Str) : (pf l z).lookup ("writing" : Str) = some (V.str z) := rfl
theorem pf_meth (l : Addr) (z : Str) : (pf l z).lookup ("wide" : Str) = none ∧ (pf l z).lookup ("high" : Str) = none ∧ (pf l z).lookup ("sign" : Str) = none ∧ (pf l z).lookup ("cloth" : Str) = none ∧ (pf l z).lookup ("told" : Str) = none := ⟨rfl, rfl, rfl, rfl, rfl⟩
theorem cC_c (T : Txt K mg t) (tw : Bool) : Cls K (cC t tw) ∧ NoAttr K (cC t tw) "texts" ∧ NoAttr K (cC t tw) "writing" := by
  cases tw
  · exact ⟨T.o_Satin.c, T.na_Satin_texts, T.na_Satin_writing⟩
  · exact ⟨T.o_Twill.c, T.na_Twill_texts, T.na_Twill_writing⟩
theorem vS_at {cl : List (List Nat)} {i : Nat} {x : List Nat} (h : cl[i]? = some x) : atI (vS cl) (i : Int) = some (.str (tx x)) := atI_of (by omega) (by rw [Int.toNat_natCast]; unfold vS; rw [List.getElem?_map, h]; rfl)
def sp_wide (t : Adr) : Sp := fun vs H Q _ => ∃ p tw m n, vs = [.ref p] ∧ Pce t H p tw m n ∧ 1 ≤ sz tw m n ∧ sz tw m n ≤ 40 ∧ Q (.int ((sz tw m n : Nat) : Int)) H
theorem ok_Piece_wide (T : Txt K mg t) : FnOk P w K mg base CX0 1 t.f_Piece_wide t.d_Piece_wide ["self"] (sp_wide t) := by
  refine T.m_Piece_wide.F.ok sc_Piece_wide (fun vs H Q E h => ?_) (fun cdv A outer s H vs Q E hr h => ?_)
  · obtain ⟨p, tw, m, n, rfl, _⟩ := h
    rfl
  · obtain ⟨p, tw, m, n, rfl, ⟨dx, l, hp, hl⟩, h1, h40, k⟩ := h
    have C := cC_c T tw
    refine ⟨_, (pss_one (ps_ret (pe_callB call_len_str rfl T.b_len bt_len (pa_cons (pe_ix (ix_listK (K := K)) (pe_fldK (K := K) (pv 0) rfl) pe_int (fun _ _ => rfl)) pa_nil)))), ?_⟩
    refine ⟨_, rfl, _, _, _, _, _, rfl, hp, C.1, C.2.1, pf_texts _ _, _, _, _, _, rfl, rfl, SqL.of hl, vS_at (i := 0) (rws_at h1), _, rfl, (by rw [tx_len, rw1_len]; exact big (by omega)), ?_⟩
    rw [tx_len, rw1_len]
    exact k
theorem ok_Piece_high (T : Txt K mg t) : FnOk P w K mg base CX0 1 t.f_Piece_high t.d_Piece_high ["self"] (sp_wide t) := by
  refine T.m_Piece_high.F.ok sc_Piece_high (fun vs H Q E h => ?_) (fun cdv A outer s H vs Q E hr h => ?_)
  · obtain ⟨p, tw, m, n, rfl, _⟩ := h
    rfl
  · obtain ⟨p, tw, m, n, rfl, ⟨dx, l, hp, hl⟩, h1, h40, k⟩ := h
    have C := cC_c T tw
    refine ⟨_, (pss_one (ps_ret (pe_callB (call_len_seqK (K := K)) rfl T.b_len bt_len (pa_cons (pe_fldK (K := K) (pv 0) rfl) pa_nil)))), ?_⟩
    refine ⟨_, rfl, _, _, _, _, _, rfl, hp, C.1, C.2.1, pf_texts _ _, _, _, rfl, .inl (SqL.of hl), ?_⟩
    rw [vS_len, rws_len]
    exact k
def sp_sign (t : Adr) : Sp := fun vs H Q _ => ∃ p tw m n c, ∃ x y : Nat, vs = [.ref p, .int (x : Int), .int (y : Int)] ∧ Pce t H p tw m n ∧ y < sz tw m n ∧ sz tw m n ≤ 40 ∧ (rw1 tw m n y)[x]? = some c ∧ Q (.str ⟨#[c]⟩) H
theorem ok_Piece_sign (T : Txt K mg t) : FnOk P w K mg base CX0 1 t.f_Piece_sign t.d_Piece_sign ["self", "x", "y"] (sp_sign t) := by
  refine T.m_Piece_sign.F.ok sc_Piece_sign (fun vs H Q E h => ?_) (fun cdv A outer s H vs Q E hr h => ?_)
  · obtain ⟨p, tw, m, n, c, x, y, rfl, _⟩ := h
    rfl
  · obtain ⟨p, tw, m, n, c, x, y, rfl, ⟨dx, l, hp, hl⟩, h1, h40, hc, k⟩ := h
    have C := cC_c T tw
    refine ⟨_, (pss_one (ps_ret (pe_ix ix_str (pe_ix (ix_listK (K := K)) (pe_fldK (K := K) (pv 0) rfl) (pv 2) (fun _ _ => rfl)) (pv 1) (fun _ _ => rfl)))), ?_⟩
    refine ⟨_, rfl, _, _, _, _, _, rfl, hp, C.1, C.2.1, pf_texts _ _, _, rfl, _, _, _, _, rfl, rfl, SqL.of hl, vS_at (rws_at h1), _, rfl, _, _, c, rfl, rfl, (by rw [tx_len, rw1_len]; exact big (by omega)), atI_of (by omega) (by rw [Int.toNat_natCast, tx_list]; exact hc), ?_⟩
    exact k
def sp_cloth (t : Adr) : Sp := fun vs H Q _ => ∃ p tw m n, vs = [.ref p] ∧ Pce t H p tw m n ∧ ∀ l, H l = none → Q (.ref l) (upd H l (.lst (vS (rws tw m n))))
theorem ok_Piece_cloth (T : Txt K mg t) : FnOk P w K mg base CX0 1 t.f_Piece_cloth t.d_Piece_cloth ["self"] (sp_cloth t) := by
  refine T.m_Piece_cloth.F.ok sc_Piece_cloth (fun vs H Q E h => ?_) (fun cdv A outer s H vs Q E hr h => ?_)
  · obtain ⟨p, tw, m, n, rfl, _⟩ := h
    rfl
  · obtain ⟨p, tw, m, n, rfl, ⟨dx, l, hp, hl⟩, k⟩ := h
    have C := cC_c T tw
    refine ⟨_, (pss_one (ps_ret (pe_callTy (call_list_ofK (K := K)) rfl T.b_list bt_list (pa_cons (pe_fldK (K := K) (pv 0) rfl) pa_nil)))), ?_⟩
    exact ⟨_, rfl, _, _, _, _, _, rfl, hp, C.1, C.2.1, pf_texts _ _, _, _, rfl, .inl (SqL.of hl), fun q hq => k q hq⟩
def sp_told (t : Adr) : Sp := fun vs H Q _ => ∃ p tw m n, vs = [.ref p] ∧ Pce t H p tw m n ∧ Q (.str (tx (wrT (wN tw) (dec m) (dec n)))) H
theorem ok_Piece_told (T : Txt K mg t) : FnOk P w K mg base CX0 1 t.f_Piece_told t.d_Piece_told ["self"] (sp_told t) := by
  refine T.m_Piece_told.F.ok sc_Piece_told (fun vs H Q E h => ?_) (fun cdv A outer s H vs Q E hr h => ?_)
  · obtain ⟨p, tw, m, n, rfl, _⟩ := h
    rfl
  · obtain ⟨p, tw, m, n, rfl, ⟨dx, l, hp, hl⟩, k⟩ := h
    have C := cC_c T tw
    refine ⟨_, (pss_one (ps_ret (pe_fldK (K := K) (pv 0) rfl))), ?_⟩
    exact ⟨_, rfl, _, _, _, _, _, rfl, hp, C.1, C.2.2, pf_writing _ _, k⟩
theorem kit_same (K : PySem.W.Frag) (n : String) : PySem.W.kitOne K (.type n) (.type n) = some true := if_pos (beq_self_eq_true _)
def sp_lwhole : Sp := fun vs H Q _ => ∃ z : Int, vs = [.int z] ∧ Q (.bl true) H
theorem ok_law_whole (T : Txt K mg t) : FnOk P w K mg base CX0 1 t.f_law_whole t.d_law_whole ["found"] sp_lwhole := by
  refine T.law_whole.F.ok sc_law_whole (fun vs H Q E h => ?_) (fun cdv A outer s H vs Q E hr h => ?_)
  · obtain ⟨z, rfl, _⟩ := h
    rfl
  · obtain ⟨z, rfl, k⟩ := h
    refine ⟨_, (pss_one (ps_ret (pe_and (pe_callB (call_isiK (K := K)) rfl T.b_isinstance bt_isinstance (pa_cons (pv 0) (pa_cons (pe_bltn (v := .ty "int") rfl T.b_int bt_int rfl) pa_nil))) (pe_one (pe_not (pe_callB (call_isiK (K := K)) rfl T.b_isinstance bt_isinstance (pa_cons (pv 0) (pa_cons (pe_bltn (v := .ty "bool") rfl T.b_bool bt_bool rfl) pa_nil)))))))), ?_⟩
    refine ⟨_, rfl, _, _, true, .int z, .inl ⟨_, rfl, kit_same _ _⟩, _, rfl, ?_⟩
    refine iteT ?_
    exact ⟨_, rfl, _, _, false, .int z, .inl ⟨_, rfl, rfl⟩, _, rfl, k⟩
def nMost (c : Int) : Int := if c % 5 = 3 then 50 else 12
def sp_lnum (K : PySem.W.Frag) : Sp := fun vs H Q _ => ∃ c : Int, vs = [.int c] ∧ ∀ a m n, H a = none → m < 50 → n < 50 → Q (.ref a) (upd H a (.lst [.int ((m : Nat) : Int), .int ((n : Nat) : Int)]))
theorem ok_law_numbers (T : Txt K mg t) : FnOk P w K mg base CX0 1 t.f_law_numbers t.d_law_numbers ["cell"] (sp_lnum K) := by
  refine T.law_numbers.F.ok sc_law_numbers (fun vs H Q E h => ?_) (fun cdv A outer s H vs Q E hr h => ?_)
  · obtain ⟨c, rfl, _⟩ := h
    rfl
  · obtain ⟨c, rfl, k⟩ := h
    refine ⟨_, (pss_cons (ps_set (i := 1) sc_law_numbers.nd rfl (Or.inl rfl) pe_int)
      (pss_cons (ps_if (pt_cmpR op_eq (pe_op op_mod (pv 0) pe_int) pe_int (nomark _))
        (pss_one (ps_set (i := 1) sc_law_numbers.nd rfl (Or.inl rfl) pe_int))
        pss_nil)
      (pss_one (ps_ret (pe_lst (pa_cons (pe_op op_mod (pe_op op_fdiv (pv 0) pe_int) (pv 1)) (pa_cons (pe_op op_mod (pe_op op_fdiv (pv 0) pe_int) (pv 1)) pa_nil))))))), ?_⟩
    have hmod : ∀ x M : Int, M = 12 ∨ M = 50 → ∃ m : Nat, x % M = (m : Int) ∧ m < 50 := fun x M hM => ⟨(x % M).toNat, by rcases hM with h | h <;> rw [h] <;> omega, by rcases hM with h | h <;> rw [h] <;> omega⟩
    refine ⟨_, rfl, _, _, rfl, rfl, (by show (0 : Int) < 5; decide), rfl, _, rfl, ?_⟩
    refine ite2D (fun c1 => ?_) (fun c1 => ?_)
    · obtain ⟨m, e1, hm⟩ := hmod (c / 10) 50 (.inr rfl)
      obtain ⟨n, e2, hn⟩ := hmod (c / 500) 50 (.inr rfl)
      refine ⟨_, rfl, _, _, rfl, rfl, ⟨by decide, by decide⟩, _, rfl, _, _, rfl, rfl, (by show (0 : Int) < 50; decide), _, rfl, _, _, rfl, rfl, ⟨by decide, by decide⟩, _, rfl, _, _, rfl, rfl, (by show (0 : Int) < 50; decide), (by show 2 ≤ sizeLine; decide), fun a ha => ?_⟩
      have := k a m n ha hm hn
      rw [← e1, ← e2] at this
      exact this
    · obtain ⟨m, e1, hm⟩ := hmod (c / 10) 12 (.inl rfl)
      obtain ⟨n, e2, hn⟩ := hmod (c / 500) 12 (.inl rfl)
      refine ⟨_, rfl, _, _, rfl, rfl, ⟨by decide, by decide⟩, _, rfl, _, _, rfl, rfl, (by show (0 : Int) < 12; decide), _, rfl, _, _, rfl, rfl, ⟨by decide, by decide⟩, _, rfl, _, _, rfl, rfl, (by show (0 : Int) < 12; decide), (by show 2 ≤ sizeLine; decide), fun a ha => ?_⟩
      have := k a m n ha hm hn
      rw [← e1, ← e2] at this
      exact this
def sp_lcommon : Sp := fun vs H Q _ => ∃ m n : Nat, vs = [.int (m : Int), .int (n : Int)] ∧ m ≤ 100 ∧ 1 ≤ m ∧ ∀ H', Same H H' → Q (.bl (cop m n m)) H'
theorem ok_law_common (T : Txt K mg t) : FnOk P w K mg base CX0 1 t.f_law_common t.d_law_common ["many", "step"] sp_lcommon := by
  refine T.law_common.F.ok sc_law_common (fun vs H Q E h => ?_) (fun cdv A outer s H vs Q E hr h => ?_)
  · obtain ⟨m, n, rfl, _⟩ := h
    rfl
  · obtain ⟨m, n, rfl, hm, hm1, k⟩ := h
    refine ⟨_, (pss_one (ps_ret (pe_callB (call_anyB (K := K)) rfl T.b_any bt_any (pa_cons (pe_comp (CompOk.mk (caps := [0, 1]) (Nc := ["k", "many", "step"]) rfl (by decide +kernel) (by decide +kernel) (comp_fr (sc0 := defScope s_law_common) rfl (by decide +kernel)) rfl rfl rfl (by decide +kernel) (fun k j h => match k, h with | 0, h => by obtain rfl := Option.some.inj h; exact ⟨_, rfl, rfl, rfl⟩ | 1, h => by obtain rfl := Option.some.inj h; exact ⟨_, rfl, rfl, rfl⟩ | _ + 2, h => by simp at h)) rfl (pi_range2 rfl T.b_range (pa_cons pe_int (pa_cons (pe_op op_add (pv 0) pe_int) pa_nil))) (fun _ _ _ _ _ => .nil) (fun _ _ _ _ _ => (pe_and (pe_cmpR op_eq (pe_op op_mod (pv 1) (pv 0)) pe_int (nomark _)) (pe_one (pe_cmpR op_eq (pe_op op_mod (pv 2) (pv 0)) pe_int (nomark _)))))) pa_nil)))), ?_⟩
    refine ⟨_, rfl, _, _, rfl, rfl, _, _, rfl, ⟨by decide, by decide, by omega, by omega⟩, ?_⟩
    rw [show ((m : Int) + 1 - 2).toNat = m - 1 by omega]
    refine comp_range (lo := 2) (n := m - 1) (fun i ys H2 => H2 = H ∧ ys = vB (cps2 m n i)) ⟨rfl, rfl⟩ ?_ ?_ ?_ ?_
    · rintro i ys H2 hi ⟨rfl, rfl⟩
      rw [vB_len, cps2_len]
      exact Nat.le_refl _
    · exact big (by omega)
    · rintro i ys H2 hi ⟨rfl, rfl⟩
      refine CTurn.no ?_
      refine ⟨_, rfl, _, rfl, _, _, rfl, rfl, (by show (0 : Int) < 2 + (i : Int); omega), rfl, _, rfl, ?_⟩
      rw [mod0]
      have fin : CN (m - 1) (fun i ys H3 => H3 = H2 ∧ ys = vB (cps2 m n i)) i (vB (cps2 m n i) ++ [.bl (decide (m % (2 + i) = 0) && decide (n % (2 + i) = 0))]) H2 := CN.of hi ⟨rfl, by rw [vB_app, cps2_step]⟩
      refine ite2D (fun c1 => ?_) (fun c1 => ?_)
      · refine ⟨_, rfl, _, rfl, _, _, rfl, rfl, (by show (0 : Int) < 2 + (i : Int); omega), rfl, ?_⟩
        rw [mod0]
        rw [decide_eq_true c1, Bool.true_and] at fin
        exact fin
      · rw [decide_eq_false c1, Bool.false_and] at fin
        exact fin
    · rintro ys H2 q ⟨rfl, rfl⟩ hq
      refine ⟨_, _, rfl, SqL.of upd_same, ?_⟩
      exact k _ (.upd hq)
theorem cop_eq {m n : Nat} (h1 : 1 ≤ n) (h2 : n < m) : cop m n m = cop m n n := by
  have key : ∀ j, n - 1 ≤ j → (decide (m % (2 + j) = 0) && decide (n % (2 + j) = 0)) = false := fun j hj => by
    have e : n % (2 + j) = n := Nat.mod_eq_of_lt (by omega)
    rw [e, decide_eq_false (show ¬ n = 0 by omega), Bool.and_false]
  have step : ∀ i, n - 1 ≤ i → (cps2 m n i).any id = (cps2 m n (n - 1)).any id := fun i hi => by
    induction i with
    | zero => rw [show n - 1 = 0 by omega]
    | succ i ih =>
      by_cases c : n - 1 ≤ i
      · rw [cps2_step, List.any_append, ih c, key i c]
        simp
      · rw [show n - 1 = i + 1 by omega]
  exact step (m - 1) (by omega)
def sp_ldue : Sp := fun vs H Q _ => ∃ (tw : Bool) (m n : Nat), vs = [.str (wS tw), .int (m : Int), .int (n : Int)] ∧ m < 100 ∧ n < 100 ∧
  (¬ Gd tw m n → ∀ H', Same H H' → Q (.str "NoPattern") H') ∧ (Gd tw m n → 40 < sz tw m n → ∀ H', Same H H' → Q (.str "TooLarge") H') ∧ (Gd tw m n → sz tw m n ≤ 40 → ∀ H', Same H H' → Q (.str "") H')
theorem ok_law_due (T : Txt K mg t) : FnOk P w K mg base CX0 2 t.f_law_due t.d_law_due ["word", "many", "other"] sp_ldue := by
  have G_law_common : FnOk P w K mg base CX0 1 t.f_law_common t.d_law_common _ _ := ok_law_common T
  refine T.law_due.F.ok sc_law_due (fun vs H Q E h => ?_) (fun cdv A outer s H vs Q E hr h => ?_)
  · obtain ⟨tw, m, n, rfl, _⟩ := h
    rfl
  · obtain ⟨tw, m, n, rfl, hm, hn, k1, k2, k3⟩ := h
    refine ⟨_, (pss_cons (ps_if (pt_cmpR op_eq (pv 0) pe_str (nomark _))
        (pss_cons (ps_if (PW.pt (pw_or (pt_cmpR op_eq (pv 1) pe_int (nomark _)) (pw_or1 (pt_cmpR op_eq (pv 2) pe_int (nomark _)))))
          (pss_one (ps_ret pe_str))
          pss_nil)
        (pss_cons (ps_if (pt_cmpR op_gt (pe_op op_add (pv 1) (pv 2)) pe_int (nomark _))
          (pss_one (ps_ret pe_str))
          pss_nil)
        (pss_one (ps_ret pe_str))))
        pss_nil)
      (pss_cons (ps_if (PW.pt (pw_or (pt_cmpR op_eq (pv 2) pe_int (nomark _)) (pw_or (pt_cmpR op_ge (pv 2) (pv 1) (nomark _)) (pw_or1 (pt_val (pe_call (G_law_common.mono (by decide)) hr rfl T.law_common.m T.law_common.F.kp T.law_common.b .nil pass0 (pa_cons (pv 1) (pa_cons (pv 2) pa_nil))))))))
        (pss_one (ps_ret pe_str))
        pss_nil)
      (pss_cons (ps_if (pt_cmpR op_gt (pv 1) pe_int (nomark _))
        (pss_one (ps_ret pe_str))
        pss_nil)
      (pss_one (ps_ret pe_str))))), ?_⟩
    cases tw with
    | true =>
      refine ⟨_, rfl, rfl, _, rfl, ?_⟩
      refine iteDp rfl ?_
      refine ⟨_, rfl, rfl, _, rfl, ?_⟩
      refine ite2D (fun c1 => ?_) (fun c1 => ?_)
      · refine iteT ?_
        exact k1 (fun z => by have := z.1; injection c1 with c1; omega) _ (.refl _)
      · refine ⟨_, rfl, rfl, _, rfl, ?_⟩
        refine ite2D (fun c2 => ?_) (fun c2 => ?_)
        · exact k1 (fun z => by have := z.2; injection c2 with c2; omega) _ (.refl _)
        · have m1 : 1 ≤ m := Nat.pos_of_ne_zero fun z => c1 (by rw [z]; rfl)
          have n1 : 1 ≤ n := Nat.pos_of_ne_zero fun z => c2 (by rw [z]; rfl)
          refine ⟨_, rfl, _, rfl, _, _, rfl, rfl, _, _, rfl, rfl, _, rfl, ?_⟩
          refine ite2D (fun c3 => ?_) (fun c3 => ?_)
          · exact k2 ⟨m1, n1⟩ (show 40 < m + n by omega) _ (.refl _)
          · exact k3 ⟨m1, n1⟩ (show m + n ≤ 40 by omega) _ (.refl _)
    | false =>
      refine ⟨_, rfl, rfl, _, rfl, ?_⟩
      refine iteDn (by decide +kernel) ?_
      refine ⟨_, rfl, rfl, _, rfl, ?_⟩
      refine ite2D (fun c1 => ?_) (fun c1 => ?_)
      · refine iteT ?_
        exact k1 (fun z => by have := z.1; injection c1 with c1; omega) _ (.refl _)
      · have n1 : 1 ≤ n := Nat.pos_of_ne_zero fun z => c1 (by rw [z]; rfl)
        refine ⟨_, rfl, _, rfl, _, _, rfl, rfl, _, rfl, ?_⟩
        refine ite2D (fun c2 => ?_) (fun c2 => ?_)
        · exact k1 (fun z => by have := z.2.1; omega) _ (.refl _)
        · refine ⟨_, rfl, _, rfl, m, n, rfl, by omega, by omega, fun H1 s1 => ?_⟩
          rw [cop_eq n1 (by omega)]
          refine ⟨_, rfl, ?_⟩
          cases c3 : cop m n n with
          | true =>
            refine iteT ?_
            exact k1 (fun z => by have := z.2.2; rw [c3] at this; cases this) _ s1
          | false =>
            refine iteF ?_
            have pr : Pri m n := ⟨n1, by omega, c3⟩
            refine ⟨_, rfl, _, _, rfl, rfl, _, rfl, ?_⟩
            refine ite2D (fun c4 => ?_) (fun c4 => ?_)
            · exact k2 pr (show 40 < m by omega) _ s1
            · exact k3 pr (show m ≤ 40 by omega) _ s1
def upB : Bool → Nat → Nat → Nat → Nat → Bool
  | true, m, n, y, x => decide ((x + (m + n) - y) % (m + n) < m)
  | false, m, n, y, x => decide (x = y * n % m)
theorem rw1_is {tw : Bool} {m n y : Nat} : rw1 tw m n y = (List.range (sz tw m n)).map fun x => if upB tw m n y x = true then 35 else 46 := by
  cases tw
  · show stT m (y * n % m) = _
    unfold stT
    apply List.map_congr_left
    intro x _
    simp only [upB, decide_eq_true_eq]
  · show twT m n y = _
    unfold twT
    apply List.map_congr_left
    intro x _
    simp only [upB, decide_eq_true_eq, twl]
theorem up_tw {m n x y : Nat} (hy : y < m + n) : ((x : Int) + ((m : Int) + (n : Int)) * 50 - (y : Int)) % ((m : Int) + (n : Int)) = (((x + (m + n) - y) % (m + n) : Nat) : Int) := by
  rw [Int.natCast_emod, show ((x : Int) + ((m : Int) + (n : Int)) * 50 - (y : Int)) = ((x + (m + n) - y : Nat) : Int) + ((m + n : Nat) : Int) * 49 by omega, show ((m : Int) + (n : Int)) = ((m + n : Nat) : Int) by omega, Int.add_mul_emod_self_left]
theorem up_sa {m n x y : Nat} (hx : x < m) : ((y : Int) * (n : Int) - (x : Int)) % (m : Int) = 0 ↔ x = y * n % m := by
  rw [← Int.emod_eq_emod_iff_emod_sub_eq_zero, ← Int.natCast_mul, ← Int.natCast_emod, ← Int.natCast_emod, Nat.mod_eq_of_lt hx]
  omega
def sp_lup : Sp := fun vs H Q _ => ∃ (tw : Bool) (m n x y : Nat), vs = [.str (wS tw), .int (m : Int), .int (n : Int), .int (x : Int), .int (y : Int)] ∧ x < sz tw m n ∧ y < sz tw m n ∧ sz tw m n ≤ 40 ∧ Q (.bl (upB tw m n y x)) H
theorem ok_law_up (T : Txt K mg t) : FnOk P w K mg base CX0 1 t.f_law_up t.d_law_up ["word", "many", "other", "x", "y"] sp_lup := by
  refine T.law_up.F.ok sc_law_up (fun vs H Q E h => ?_) (fun cdv A outer s H vs Q E hr h => ?_)
  · obtain ⟨tw, m, n, x, y, rfl, _⟩ := h
    rfl
  · obtain ⟨tw, m, n, x, y, rfl, hx, hy, h40, k⟩ := h
    refine ⟨_, (pss_cons (ps_if (pt_cmpR op_eq (pv 0) pe_str (nomark _))
        (pss_one (ps_ret (pe_cmpR op_lt (pe_op op_mod (pe_op op_sub (pe_op op_add (pv 3) (pe_op op_mul (pe_op op_add (pv 1) (pv 2)) pe_int)) (pv 4)) (pe_op op_add (pv 1) (pv 2))) (pv 1) (nomark _))))
        pss_nil)
      (pss_one (ps_ret (pe_cmpR op_eq (pe_op op_mod (pe_op op_sub (pe_op op_mul (pv 4) (pv 2)) (pv 3)) (pv 1)) pe_int (nomark _))))), ?_⟩
    cases tw with
    | true =>
      refine ⟨_, rfl, rfl, _, rfl, ?_⟩
      refine iteDp rfl ?_
      have hy' : y < m + n := hy
      refine ⟨_, rfl, _, rfl, _, rfl, _, _, rfl, rfl, _, _, rfl, rfl, (.inr ⟨by decide, by decide⟩), _, _, rfl, rfl, _, rfl, _, _, rfl, rfl, _, rfl, _, rfl, _, _, rfl, rfl, _, _, rfl, rfl, (by show (0 : Int) < (m : Int) + (n : Int); omega), _, rfl, _, _, rfl, rfl, ?_⟩
      rw [up_tw hy']
      show Q (V.bl (decide ((((x + (m + n) - y) % (m + n) : Nat) : Int) < (m : Int)))) H
      rw [show decide ((((x + (m + n) - y) % (m + n) : Nat) : Int) < (m : Int)) = upB true m n y x from decide_eq_decide.mpr (by omega)]
      exact k
    | false =>
      refine ⟨_, rfl, rfl, _, rfl, ?_⟩
      refine iteDn (by decide +kernel) ?_
      have hx' : x < m := hx
      have n40 : m ≤ 40 := h40
      have hy' : y < m := hy
      have cm : CMul (y : Int) (n : Int) := Or.inl ⟨by omega, by omega⟩
      refine ⟨_, rfl, _, rfl, _, _, rfl, rfl, cm, _, rfl, _, _, rfl, rfl, _, rfl, _, _, rfl, rfl, (by show (0 : Int) < (m : Int); omega), rfl, ?_⟩
      show Q (V.bl (decide (V.int (((y : Int) * (n : Int) - (x : Int)) % (m : Int)) = V.int 0))) H
      rw [show decide (V.int (((y : Int) * (n : Int) - (x : Int)) % (m : Int)) = V.int 0) = upB false m n y x from decide_eq_decide.mpr ⟨fun z => (up_sa hx').mp (by injection z), fun z => by rw [(up_sa hx').mpr z]⟩]
      exact k
theorem flat1 (f : Nat → Nat) : ∀ l : List Nat, (l.map fun x => [f x]).flatten = l.map f
  | [] => rfl
  | a :: l => by rw [List.map_cons, List.flatten_cons, flat1 f l]; rfl
theorem sum1 (f : Nat → Nat) : ∀ l : List Nat, (((l.map fun x => tx [f x])).map (·.length)).sum = l.length
  | [] => rfl
  | a :: l => by
    rw [List.map_cons, List.map_cons, List.sum_cons, sum1 f l, tx_len, List.length_cons, List.length_cons, List.length_nil]
    omega
theorem dots (k : Bool) : atI (("." ++ "#" : String) |> fun z => (Str.ofString z).cps.toList) (if k = true then 1 else 0) = some (if k = true then 35 else 46) := by cases k <;> decide +kernel
def sgf (tw : Bool) (m n y x : Nat) : Nat := if upB tw m n y x = true then 35 else 46
theorem no_txt : (("" : Str)) = tx [] := by decide +kernel
def sp_lrows (K : PySem.W.Frag) : Sp := fun vs H Q _ => ∃ (tw : Bool) (m n : Nat), vs = [.str (wS tw), .int (m : Int), .int (n : Int)] ∧ 1 ≤ sz tw m n ∧ sz tw m n ≤ 40 ∧ ∀ a H', Same H H' → H' a = some (.lst (vS (rws tw m n))) → Q (.ref a) H'
theorem ok_law_rows (T : Txt K mg t) : FnOk P w K mg base CX0 2 t.f_law_rows t.d_law_rows ["word", "many", "other"] (sp_lrows K) := by
  have G_law_up : FnOk P w K mg base CX0 1 t.f_law_up t.d_law_up _ _ := ok_law_up T
  refine T.law_rows.F.ok sc_law_rows (fun vs H Q E h => ?_) (fun cdv A outer s H vs Q E hr h => ?_)
  · obtain ⟨tw, m, n, rfl, _⟩ := h
    rfl
  · obtain ⟨tw, m, n, rfl, h1, h40, k⟩ := h
    refine ⟨_, (pss_cons (ps_set (i := 3) sc_law_rows.nd rfl (Or.inl rfl) (pv 1))
      (pss_cons (ps_if (pt_cmpR op_eq (pv 0) pe_str (nomark _))
        (pss_one (ps_set (i := 3) sc_law_rows.nd rfl (Or.inl rfl) (pe_op op_add (pv 1) (pv 2))))
        pss_nil)
      (pss_cons (ps_set (i := 4) sc_law_rows.nd rfl (Or.inl rfl) (pe_lst pa_nil))
      (pss_cons (ps_for PassesOwn.never rfl (pi_range1 rfl T.b_range (pa_cons (pv 3) pa_nil)) (pg_name (i := 5) sc_law_rows.nd rfl (Or.inr rfl))
        (pss_one (ps_expr (pe_bmK (K := K) PySem.F.plainAttrs_list PySem.F.slot_list_append PySem.F.type_list_append mt_append (pv 4) (pa_cons (pe_bmK (K := K) PySem.F.plainAttrs_str PySem.F.slot_str_join PySem.F.type_str_join (mt_joinK (K := K)) pe_str (pa_cons (pe_comp (CompOk.mk (caps := [0, 1, 2, 5]) (Nc := ["x", "word", "many", "other", "y"]) rfl (by decide +kernel) (by decide +kernel) (comp_fr (sc0 := defScope s_law_rows) rfl (by decide +kernel)) rfl rfl rfl (by decide +kernel) (fun k j h => match k, h with | 0, h => by obtain rfl := Option.some.inj h; exact ⟨_, rfl, rfl, rfl⟩ | 1, h => by obtain rfl := Option.some.inj h; exact ⟨_, rfl, rfl, rfl⟩ | 2, h => by obtain rfl := Option.some.inj h; exact ⟨_, rfl, rfl, rfl⟩ | 3, h => by obtain rfl := Option.some.inj h; exact ⟨_, rfl, rfl, rfl⟩ | _ + 4, h => by simp at h)) rfl (pi_range1 rfl T.b_range (pa_cons (pv 3) pa_nil)) (fun _ _ _ _ _ => .nil) (fun _ _ _ _ _ => (pe_ix ix_str pe_str (pe_callTy call_int1 rfl T.b_int bt_int (pa_cons (pe_call (G_law_up.mono (by decide)) hr rfl T.law_up.m T.law_up.F.kp T.law_up.b .nil pass0 (pa_cons (pv 1) (pa_cons (pv 2) (pa_cons (pv 3) (pa_cons (pv 0) (pa_cons (pv 4) pa_nil)))))) pa_nil)) (fun _ _ => rfl)))) pa_nil)) pa_nil)))))
      (pss_one (ps_ret (pv 4))))))), ?_⟩
    refine ⟨_, rfl, _, rfl, rfl, _, rfl, ?_⟩
    obtain ⟨U, eU⟩ : ∃ U : Nat → Nat → Bool, U = upB tw m n := ⟨_, rfl⟩
    obtain ⟨W, eW⟩ : ∃ W, W = wS tw := ⟨_, rfl⟩
    obtain ⟨N, eN⟩ : ∃ N, N = sz tw m n := ⟨_, rfl⟩
    obtain ⟨F, eF⟩ : ∃ F : Nat → List Nat, F = fun y => (List.range N).map fun x => if U y x = true then 35 else 46 := ⟨_, rfl⟩
    obtain ⟨tv, eU', eW', eN', h40'⟩ : ∃ tv, U = upB tv m n ∧ W = wS tv ∧ N = sz tv m n ∧ sz tv m n ≤ 40 := ⟨tw, eU, eW, eN, h40⟩
    have k' : ∀ a H', Same H H' → H' a = some (.lst (vS ((List.range N).map F))) → Q (.ref a) H' := fun a H' s' e => k a H' s' (by
      rw [e, eF, eN, eU]
      unfold rws
      rw [show rw1 tw m n = fun y => (List.range (sz tw m n)).map fun x => if upB tw m n y x = true then 35 else 46 from funext fun y => rw1_is])
    have n40 : N ≤ 40 := eN ▸ h40
    cases tw
    case' true =>
      refine iteDp rfl ?_
      refine ⟨_, rfl, _, rfl, _, _, rfl, rfl, ?_⟩
      have b1 : -(2 ^ 62) ≤ (m : Int) + (n : Int) ∧ (m : Int) + (n : Int) < 2 ^ 62 := by have : m + n ≤ 40 := h40; omega
      have b2 : ((m : Int) + (n : Int)).toNat = N := by rw [eN]; show _ = m + n; omega
    case' false =>
      refine iteDn (by decide +kernel) ?_
      have b1 : -(2 ^ 62) ≤ (m : Int) ∧ (m : Int) < 2 ^ 62 := by have : m ≤ 40 := h40; omega
      have b2 : ((m : Int)).toNat = N := by rw [eN]; show _ = m; omega
    all_goals
      refine And.intro (by decide) (fun q hq => ?_)
      refine ⟨_, rfl, _, rfl, b1.1, b1.2, ?_⟩
      rw [b2]
      refine for_range (lo := 0) (n := N) (fun i σ H2 => ∃ v, σ = [some (.str W), some (.int (m : Int)), some (.int (n : Int)), some (.int (N : Int)), some (.ref q), v] ∧ Same H H2 ∧ H2 q = some (.lst (vS ((List.range i).map F)))) ⟨none, by rw [eW, eN]; rfl, .upd hq, upd_same⟩ ?_ ?_
      · rintro i σ H2 hi ⟨v, rfl, s2, hq2⟩
        refine ⟨_, rfl, .inl ⟨rfl, _, SqL.of hq2⟩, rfl, _, rfl, _, rfl, (by omega), (by omega), ?_⟩
        rw [Int.toNat_natCast]
        refine comp_range (lo := 0) (n := N) (fun j ys H3 => H3 = H2 ∧ ys = ((List.range j).map fun x => tx [if U i x = true then 35 else 46]).map V.str) ⟨rfl, rfl⟩ ?_ ?_ ?_ ?_
        · rintro j ys H3 hj ⟨rfl, rfl⟩
          rw [List.length_map, List.length_map, List.length_range]
          exact Nat.le_refl _
        · exact big (by omega)
        · rintro j ys H3 hj ⟨rfl, rfl⟩
          refine CTurn.no ?_
          refine ⟨_, rfl, _, rfl, _, rfl, _, rfl, _, rfl, ?_⟩
          refine ⟨tv, m, n, j, i, (by rw [Int.zero_add, Int.zero_add, eW']; rfl), eN' ▸ hj, eN' ▸ hi, h40', ?_⟩
          rw [← eU']
          refine .inr ⟨U i j, rfl, _, _, (if U i j = true then 35 else 46), rfl, rfl, (by decide), dots _, ?_⟩
          exact (CN.of hj ⟨rfl, by rw [List.range_succ, List.map_append, List.map_append]; rfl⟩ : CN N (fun j ys H4 => H4 = H3 ∧ ys = ((List.range j).map fun x => tx [if U i x = true then 35 else 46]).map V.str) j (((List.range j).map fun x => tx [if U i x = true then 35 else 46]).map V.str ++ [.str (tx [if U i j = true then 35 else 46])]) H3)
        · rintro ys H3 p ⟨rfl, rfl⟩ hp
          have npq : q ≠ p := ne_of_none hq2 hp
          have hl : (vS ((List.range i).map F)).length < sizeLine := by
            rw [vS_len, List.length_map, List.length_range]
            exact Nat.lt_of_lt_of_le (show i < 1000000 by omega) (by decide)
          refine ⟨_, _, _, rfl, rfl, SqL.of upd_same, ?_, ?_⟩
          · rw [sum1 (fun x => if U i x = true then 35 else 46), List.length_map, List.length_range, no_txt, tx_len]
            simp only [List.length_nil]
            omega
          rw [no_txt, show ((List.range N).map fun x => tx [if U i x = true then 35 else 46]) = ((List.range N).map fun x => [if U i x = true then 35 else 46]).map tx by rw [List.map_map]; rfl, tx_join, flat1 (fun x => if U i x = true then 35 else 46)]
          have hq3 : (upd H3 p (.lst (((List.range N).map fun x => [if U i x = true then 35 else 46]).map tx |>.map V.str))) q = some (.lst (vS ((List.range i).map F))) := by rw [upd_ne npq]; exact hq2
          refine ⟨_, _, _, rfl, rfl, hq3, hl, ?_⟩
          refine ⟨_, rfl, fun b o e => ?_, ?_⟩
          · have e' := s2 b o e
            rw [upd_ne (ne_of_none e hq), upd_ne (ne_of_none e' hp)]
            exact e'
          · rw [upd_same, List.range_succ, List.map_append]
            show some (HO.lst (vS ((List.range i).map F) ++ [.str (tx ((List.range N).map fun x => if U i x = true then 35 else 46))])) = _
            rw [vS_app]
            show _ = some (HO.lst (vS ((List.range i).map F ++ [F i])))
            rw [eF]
      · rintro σ H2 ⟨v, rfl, s2, hq2⟩
        exact ⟨_, rfl, k' q H2 s2 hq2⟩
def sp_lref (t : Adr) : Sp := fun vs H Q _ => ∃ (tw : Bool) (m n g : Nat) (u : List Nat) (due : Str), vs = [.str (tx u), .str due] ∧ u = two (wN tw) m n g [] ∧ u.length ≤ 1000 ∧ m < 100 ∧ n < 100 ∧ ((¬ Gd tw m n ∧ due = "NoPattern") ∨ (Gd tw m n ∧ 40 < sz tw m n ∧ due = "TooLarge")) ∧ ∀ H', Same H H' → Q (.bl true) H'
theorem ok_law_refused (T : Txt K mg t) : FnOk P w K mg base CX0 9 t.f_law_refused t.d_law_refused ["text", "due"] (sp_lref t) := by
  have G_read_pattern : FnOk P w K mg base (CX1 P w) 8 t.f_read_pattern t.d_read_pattern _ _ := okx_read_pattern T
  have G_NoPattern_called : FnOk P w K mg base CX0 1 t.f_NoPattern_called t.d_NoPattern_called _ _ := ok_NoPattern_called T
  have G_TooLarge_called : FnOk P w K mg base CX0 1 t.f_TooLarge_called t.d_TooLarge_called _ _ := ok_TooLarge_called T
  refine T.law_refused.F.ok sc_law_refused (fun vs H Q E h => ?_) (fun cdv A outer s H vs Q E hr h => ?_)
  · obtain ⟨tw, m, n, g, u, due, rfl, _⟩ := h
    rfl
  · obtain ⟨tw, m, n, g, u, due, rfl, hu, hul, hm, hn, hd, k⟩ := h
    rcases hd with ⟨ng, rfl⟩ | ⟨gd, hs, rfl⟩
    · refine ⟨_, (pss_cons (ps_set (i := 2) sc_law_refused.nd rfl (Or.inl rfl) pe_non)
      (pss_cons (ps_try (j := 3) ⟨rfl, rfl, rfl⟩ rfl (psxs_one (psx_expr (pex_call (G_read_pattern.mono (by decide)) hr rfl T.read_pattern.m T.read_pattern.F.kp T.read_pattern.b .nil (pa_cons (pv 0) (pa_cons (pe_lst pa_nil) pa_nil))))) sc_law_refused.nd rfl rfl rfl T.k_WeaveError T.x_WeaveError.q has_base (fun _ => (pss_one (ps_set (i := 2) sc_law_refused.nd rfl (Or.inl rfl) (pv 3)))))
      (pss_cons (ps_if (pt_cmpR op_eq (pv 1) pe_str (nomark _))
        (pss_one (ps_ret (pe_and (pe_callB (call_isx (K := K)) rfl T.b_isinstance bt_isinstance (pa_cons (pv 2) (pa_cons (pe_glob (v := .ref t.e_NoPattern) rfl T.k_NoPattern rfl) pa_nil))) (pe_and (pe_not (pe_callB (call_isx (K := K)) rfl T.b_isinstance bt_isinstance (pa_cons (pv 2) (pa_cons (pe_glob (v := .ref t.e_TooLarge) rfl T.k_TooLarge rfl) pa_nil)))) (pe_one (pe_cmpR op_eq (pe_methE (pv 2) T.x_NoPattern.c T.m_NoPattern.m (G_NoPattern_called.mono (by decide)) hr T.m_NoPattern.b pass0) (pv 1) (nomark _)))))))
        pss_nil)
      (pss_one (ps_ret (pe_and (pe_callB (call_isx (K := K)) rfl T.b_isinstance bt_isinstance (pa_cons (pv 2) (pa_cons (pe_glob (v := .ref t.e_TooLarge) rfl T.k_TooLarge rfl) pa_nil))) (pe_and (pe_not (pe_callB (call_isx (K := K)) rfl T.b_isinstance bt_isinstance (pa_cons (pv 2) (pa_cons (pe_glob (v := .ref t.e_NoPattern) rfl T.k_NoPattern rfl) pa_nil)))) (pe_one (pe_cmpR op_eq (pe_methE (pv 2) T.x_NoPattern.c T.m_NoPattern.m (G_NoPattern_called.mono (by decide)) hr T.m_NoPattern.b pass0) (pv 1) (nomark _)))))))))), ?_⟩
      refine ⟨_, rfl, (by decide), fun a0 ha0 => ?_⟩
      refine ⟨tw, m, n, g, 0, 0, u, _, rfl, hu, hul, hm, hn, fun gd => absurd gd ng, fun _ H1 s1 => ?_, fun gd => absurd gd ng⟩
      refine ⟨_, rfl, T.x_NoPattern.sub T.r_NoPattern_WeaveError, fun ea nea => ?_⟩
      have he : (upd H1 ea (exH t.e_NoPattern ea)) ea = some (exH t.e_NoPattern ea) := upd_same
      have s2 : Same H1 (upd H1 ea (exH t.e_NoPattern ea)) := .upd nea
      generalize upd H1 ea (exH t.e_NoPattern ea) = H2 at he s2 ⊢
      refine ⟨_, rfl, ?_⟩
      refine ⟨_, rfl, rfl, _, rfl, ?_⟩
      refine iteDp rfl ?_
      refine ⟨_, rfl, ea, t.e_NoPattern, true, he, T.x_NoPattern.c, .inr ⟨t.e_NoPattern, rfl, kit_ref T.r_NoPattern_NoPattern T.x_NoPattern T.r_NoPattern_NoPattern⟩, _, rfl, ?_⟩
      refine iteT ?_
      refine ⟨_, rfl, ea, t.e_NoPattern, false, he, T.x_NoPattern.c, .inr ⟨t.e_TooLarge, rfl, kit_ref T.r_NoPattern_NoPattern T.x_TooLarge T.r_NoPattern_TooLarge⟩, _, rfl, _, rfl, ?_⟩
      refine iteT ?_
      refine ⟨_, rfl, ea, rfl, he, _, rfl, _, rfl, rfl, ?_⟩
      rw [decide_eq_true rfl]
      exact k _ (((Same.upd ha0).trans s1).trans s2)
    · refine ⟨_, (pss_cons (ps_set (i := 2) sc_law_refused.nd rfl (Or.inl rfl) pe_non)
      (pss_cons (ps_try (j := 3) ⟨rfl, rfl, rfl⟩ rfl (psxs_one (psx_expr (pex_call (G_read_pattern.mono (by decide)) hr rfl T.read_pattern.m T.read_pattern.F.kp T.read_pattern.b .nil (pa_cons (pv 0) (pa_cons (pe_lst pa_nil) pa_nil))))) sc_law_refused.nd rfl rfl rfl T.k_WeaveError T.x_WeaveError.q has_base (fun _ => (pss_one (ps_set (i := 2) sc_law_refused.nd rfl (Or.inl rfl) (pv 3)))))
      (pss_cons (ps_if (pt_cmpR op_eq (pv 1) pe_str (nomark _))
        (pss_one (ps_ret (pe_and (pe_callB (call_isx (K := K)) rfl T.b_isinstance bt_isinstance (pa_cons (pv 2) (pa_cons (pe_glob (v := .ref t.e_NoPattern) rfl T.k_NoPattern rfl) pa_nil))) (pe_and (pe_not (pe_callB (call_isx (K := K)) rfl T.b_isinstance bt_isinstance (pa_cons (pv 2) (pa_cons (pe_glob (v := .ref t.e_TooLarge) rfl T.k_TooLarge rfl) pa_nil)))) (pe_one (pe_cmpR op_eq (pe_methE (pv 2) T.x_TooLarge.c T.m_TooLarge.m (G_TooLarge_called.mono (by decide)) hr T.m_TooLarge.b pass0) (pv 1) (nomark _)))))))
        pss_nil)
      (pss_one (ps_ret (pe_and (pe_callB (call_isx (K := K)) rfl T.b_isinstance bt_isinstance (pa_cons (pv 2) (pa_cons (pe_glob (v := .ref t.e_TooLarge) rfl T.k_TooLarge rfl) pa_nil))) (pe_and (pe_not (pe_callB (call_isx (K := K)) rfl T.b_isinstance bt_isinstance (pa_cons (pv 2) (pa_cons (pe_glob (v := .ref t.e_NoPattern) rfl T.k_NoPattern rfl) pa_nil)))) (pe_one (pe_cmpR op_eq (pe_methE (pv 2) T.x_TooLarge.c T.m_TooLarge.m (G_TooLarge_called.mono (by decide)) hr T.m_TooLarge.b pass0) (pv 1) (nomark _)))))))))), ?_⟩
      refine ⟨_, rfl, (by decide), fun a0 ha0 => ?_⟩
      refine ⟨tw, m, n, g, 0, 0, u, _, rfl, hu, hul, hm, hn, fun _ h9 => absurd h9 (by omega), fun h9 => absurd gd h9, fun _ _ H1 s1 => ?_⟩
      refine ⟨_, rfl, T.x_TooLarge.sub T.r_TooLarge_WeaveError, fun ea nea => ?_⟩
      have he : (upd H1 ea (exH t.e_TooLarge ea)) ea = some (exH t.e_TooLarge ea) := upd_same
      have s2 : Same H1 (upd H1 ea (exH t.e_TooLarge ea)) := .upd nea
      generalize upd H1 ea (exH t.e_TooLarge ea) = H2 at he s2 ⊢
      refine ⟨_, rfl, ?_⟩
      refine ⟨_, rfl, rfl, _, rfl, ?_⟩
      refine iteDn (by decide +kernel) ?_
      refine ⟨_, rfl, ea, t.e_TooLarge, true, he, T.x_TooLarge.c, .inr ⟨t.e_TooLarge, rfl, kit_ref T.r_TooLarge_TooLarge T.x_TooLarge T.r_TooLarge_TooLarge⟩, _, rfl, ?_⟩
      refine iteT ?_
      refine ⟨_, rfl, ea, t.e_TooLarge, false, he, T.x_TooLarge.c, .inr ⟨t.e_NoPattern, rfl, kit_ref T.r_TooLarge_TooLarge T.x_NoPattern T.r_TooLarge_NoPattern⟩, _, rfl, _, rfl, ?_⟩
      refine iteT ?_
      refine ⟨_, rfl, ea, rfl, he, _, rfl, _, rfl, rfl, ?_⟩
      rw [decide_eq_true rfl]
      exact k _ (((Same.upd ha0).trans s1).trans s2)
theorem two_app (ws : List Nat) (m n g : Nat) (b : List Nat) : two ws m n g [] ++ b = two ws m n g b := by
  unfold two
  simp
theorem join6 (ws : List Nat) (m n g : Nat) : Txt.join (tx (sps g)) [tx ws, tx [40], tx (dec m), tx [44], tx (dec n), tx [41]] = tx (two ws m n g []) := by
  have := tx_joinS (sps g) ws [[40], dec m, [44], dec n, [41]]
  rw [show [tx ws, tx [40], tx (dec m), tx [44], tx (dec n), tx [41]] = (ws :: [[40], dec m, [44], dec n, [41]]).map tx from rfl, this]
  unfold two
  simp
theorem two_len {ws : List Nat} {m n g : Nat} {b : List Nat} (hm : m < 100) (hn : n < 100) : (two ws m n g b).length ≤ ws.length + 5 * g + 7 + b.length := by
  have d1 := (dec_is hm).l2
  have d2 := (dec_is hn).l2
  unfold two
  simp only [List.length_append, List.length_cons, sps_len]
  omega
theorem wN_len (tw : Bool) : (wN tw).length = 5 := by cases tw <;> rfl
theorem wS_tx (tw : Bool) : wS tw = tx (wN tw) := (wd2 tw).2.1
def sp_lright : Sp := fun vs H Q _ => ∃ c : Int, vs = [.int c] ∧ ∀ H', Same H H' → Q (.bl true) H'
theorem ok_law_right (T : Txt K mg t) : FnOk P w K mg base CX0 10 t.f_law_right t.d_law_right ["cell"] sp_lright := by
  have G_law_numbers : FnOk P w K mg base CX0 1 t.f_law_numbers t.d_law_numbers _ _ := ok_law_numbers T
  have G_law_due : FnOk P w K mg base CX0 2 t.f_law_due t.d_law_due _ _ := ok_law_due T
  have G_law_refused : FnOk P w K mg base CX0 9 t.f_law_refused t.d_law_refused _ _ := ok_law_refused T
  have G_law_rows : FnOk P w K mg base CX0 2 t.f_law_rows t.d_law_rows _ _ := ok_law_rows T
  have G_law_whole : FnOk P w K mg base CX0 1 t.f_law_whole t.d_law_whole _ _ := ok_law_whole T
  have G_read_pattern : FnOk P w K mg base (CX1 P w) 8 t.f_read_pattern t.d_read_pattern _ _ := okx_read_pattern T
  have G_Piece_wide : FnOk P w K mg base CX0 1 t.f_Piece_wide t.d_Piece_wide _ _ := ok_Piece_wide T
  have G_Piece_high : FnOk P w K mg base CX0 1 t.f_Piece_high t.d_Piece_high _ _ := ok_Piece_high T
  have G_Piece_sign : FnOk P w K mg base CX0 1 t.f_Piece_sign t.d_Piece_sign _ _ := ok_Piece_sign T
  have G_Piece_cloth : FnOk P w K mg base CX0 1 t.f_Piece_cloth t.d_Piece_cloth _ _ := ok_Piece_cloth T
  have G_Piece_told : FnOk P w K mg base CX0 1 t.f_Piece_told t.d_Piece_told _ _ := ok_Piece_told T
  refine T.law_right.F.ok sc_law_right (fun vs H Q E h => ?_) (fun cdv A outer s H vs Q E hr h => ?_)
  · obtain ⟨c, rfl, _⟩ := h
    rfl
  · obtain ⟨c, rfl, k⟩ := h
    have hpar : c / 5 % 2 = 0 ∨ c / 5 % 2 = 1 := by omega
    rcases hpar with par | par
    · have hw0 : atI [V.str "twill", V.str "satin"] (c / 5 % 2) = some (.str (tx (wN true))) := by rw [par, ← wS_tx]; exact atI_of (by decide) rfl
      refine ⟨_, (pss_cons (ps_set (i := 1) sc_law_right.nd rfl (Or.inl rfl) (pe_ix (ix_listK (K := K)) (pe_lst (pa_cons pe_str (pa_cons pe_str pa_nil))) (pe_op op_mod (pe_op op_fdiv (pv 0) pe_int) pe_int) (fun _ _ => rfl)))
        (pss_cons (ps_asg (pe_call (G_law_numbers.mono (by decide)) hr rfl T.law_numbers.m T.law_numbers.F.kp T.law_numbers.b .nil pass0 (pa_cons (pv 0) pa_nil)) (pg_lst (K := K) rfl (pgs_cons (pg_name (i := 2) sc_law_right.nd rfl (Or.inl rfl)) (pgs_cons (pg_name (i := 3) sc_law_right.nd rfl (Or.inl rfl)) pgs_nil))))
        (pss_cons (ps_set (i := 4) sc_law_right.nd rfl (Or.inl rfl) (pe_op op_repS pe_str (pe_op op_mod (pe_op op_fdiv (pv 0) pe_int) pe_int)))
        (pss_cons (ps_set (i := 5) sc_law_right.nd rfl (Or.inl rfl) (pe_bmK (K := K) PySem.F.plainAttrs_str PySem.F.slot_str_join PySem.F.type_str_join (mt_joinK (K := K)) (pv 4) (pa_cons (pe_lst (pa_cons (pv 1) (pa_cons pe_str (pa_cons (pe_callTy call_str_int rfl T.b_str bt_str (pa_cons (pv 2) pa_nil)) (pa_cons pe_str (pa_cons (pe_callTy call_str_int rfl T.b_str bt_str (pa_cons (pv 3) pa_nil)) (pa_cons pe_str pa_nil))))))) pa_nil)))
        (pss_cons (ps_set (i := 6) sc_law_right.nd rfl (Or.inl rfl) (pe_call (G_law_due.mono (by decide)) hr rfl T.law_due.m T.law_due.F.kp T.law_due.b .nil pass0 (pa_cons (pv 1) (pa_cons (pv 2) (pa_cons (pv 3) pa_nil)))))
        (pss_cons (ps_if (pt_cmpR op_ne (pv 6) pe_str (nomark _))
          (pss_one (ps_ret (pe_call (G_law_refused.mono (by decide)) hr rfl T.law_refused.m T.law_refused.F.kp T.law_refused.b .nil pass0 (pa_cons (pv 5) (pa_cons (pv 6) pa_nil)))))
          pss_nil)
        (pss_cons (ps_set (i := 7) sc_law_right.nd rfl (Or.inl rfl) (pe_call (G_law_rows.mono (by decide)) hr rfl T.law_rows.m T.law_rows.F.kp T.law_rows.b .nil pass0 (pa_cons (pv 1) (pa_cons (pv 2) (pa_cons (pv 3) pa_nil)))))
        (pss_cons (ps_set (i := 8) sc_law_right.nd rfl (Or.inl rfl) (pe_call (G_read_pattern.mono (by decide)) hr rfl T.read_pattern.m T.read_pattern.F.kp T.read_pattern.b .nil passF (pa_cons (pe_op op_add_str (pe_op op_add_str (pv 4) (pv 5)) (pv 4)) (pa_cons (pe_lst pa_nil) pa_nil))))
        (pss_cons (ps_if (PW.pt (pw_or (pt_not (pt_val (pe_callB (call_isiK (K := K)) rfl T.b_isinstance bt_isinstance (pa_cons (pv 8) (pa_cons (pe_glob (v := .ref t.e_Piece) rfl T.k_Piece rfl) pa_nil))))) (pw_or (pt_not (pt_val (pe_call (G_law_whole.mono (by decide)) hr rfl T.law_whole.m T.law_whole.F.kp T.law_whole.b .nil pass0 (pa_cons (pe_meth0 (pv 8) T.o_Twill.c T.im_Twill_wide (G_Piece_wide.mono (by decide)) hr T.m_Piece_wide.b .nil pass0) pa_nil)))) (pw_or1 (pt_not (pt_val (pe_call (G_law_whole.mono (by decide)) hr rfl T.law_whole.m T.law_whole.F.kp T.law_whole.b .nil pass0 (pa_cons (pe_meth0 (pv 8) T.o_Twill.c T.im_Twill_high (G_Piece_high.mono (by decide)) hr T.m_Piece_high.b .nil pass0) pa_nil))))))))
          (pss_one (ps_ret pe_bl))
          pss_nil)
        (pss_cons (ps_set (i := 9) sc_law_right.nd rfl (Or.inl rfl) (pe_op op_mod (pe_op op_fdiv (pv 0) pe_int) (pe_callB (call_len_seqK (K := K)) rfl T.b_len bt_len (pa_cons (pv 7) pa_nil))))
        (pss_cons (ps_set (i := 10) sc_law_right.nd rfl (Or.inl rfl) (pe_op op_mod (pe_op op_fdiv (pv 0) pe_int) (pe_callB (call_len_seqK (K := K)) rfl T.b_len bt_len (pa_cons (pv 7) pa_nil))))
        (pss_cons (ps_if (PW.pt (pw_or (pt_cmpR op_ne (pe_meth0 (pv 8) T.o_Twill.c T.im_Twill_wide (G_Piece_wide.mono (by decide)) hr T.m_Piece_wide.b .nil pass0) (pe_callB (call_len_seqK (K := K)) rfl T.b_len bt_len (pa_cons (pv 7) pa_nil)) (nomark _)) (pw_or (pt_cmpR op_ne (pe_meth0 (pv 8) T.o_Twill.c T.im_Twill_high (G_Piece_high.mono (by decide)) hr T.m_Piece_high.b .nil pass0) (pe_callB (call_len_seqK (K := K)) rfl T.b_len bt_len (pa_cons (pv 7) pa_nil)) (nomark _)) (pw_or1 (pt_cmpR op_ne (pe_meth (pv 8) T.o_Twill.c T.im_Twill_sign (G_Piece_sign.mono (by decide)) hr T.m_Piece_sign.b .nil pass0 (pa_cons (pv 9) (pa_cons (pv 10) pa_nil))) (pe_ix ix_str (pe_ix (ix_listK (K := K)) (pv 7) (pv 10) (fun _ _ => rfl)) (pv 9) (fun _ _ => rfl)) (nomark _))))))
          (pss_one (ps_ret pe_bl))
          pss_nil)
        (pss_cons (ps_set (i := 11) sc_law_right.nd rfl (Or.inl rfl) (pe_meth0 (pv 8) T.o_Twill.c T.im_Twill_cloth (G_Piece_cloth.mono (by decide)) hr T.m_Piece_cloth.b .nil pass0))
        (pss_cons (ps_set (i := 12) sc_law_right.nd rfl (Or.inl rfl) (pe_meth0 (pv 8) T.o_Twill.c T.im_Twill_told (G_Piece_told.mono (by decide)) hr T.m_Piece_told.b .nil pass0))
        (pss_cons (ps_if (PW.pt (pw_or (pt_not (pt_val (pe_callB (call_isiK (K := K)) rfl T.b_isinstance bt_isinstance (pa_cons (pv 11) (pa_cons (pe_bltn (v := .ty "list") rfl T.b_list bt_list rfl) pa_nil))))) (pw_or1 (pt_not (pt_val (pe_callB (call_isiK (K := K)) rfl T.b_isinstance bt_isinstance (pa_cons (pv 12) (pa_cons (pe_bltn (v := .ty "str") rfl T.b_str bt_str rfl) pa_nil))))))))
          (pss_one (ps_ret pe_bl))
          pss_nil)
        (pss_one (ps_ret (pe_and (pe_cmpR (op_eqLK (K := K) (hr.units0)) (pv 11) (pv 7) (nomark _)) (pe_one (pe_cmpR op_eq (pv 12) (pe_op op_add_str (pe_op op_add_str (pe_op op_add_str (pe_op op_add_str (pe_op op_add_str (pv 1) pe_str) (pe_callTy call_str_int rfl T.b_str bt_str (pa_cons (pv 2) pa_nil))) pe_str) (pe_callTy call_str_int rfl T.b_str bt_str (pa_cons (pv 3) pa_nil))) pe_str) (nomark _))))))))))))))))))))), ?_⟩
      refine ⟨(by decide), fun a1 ha1 => ?_⟩
      refine ⟨_, rfl, _, _, rfl, rfl, ⟨by decide, by decide⟩, _, _, rfl, rfl, (by show (0 : Int) < 2; decide), _, _, _, _, rfl, rfl, SqL.of upd_same, hw0, ?_⟩
      have s1 : Same H (upd H a1 (.lst [.str "twill", .str "satin"])) := .upd ha1
      generalize upd H a1 (.lst [.str "twill", .str "satin"]) = H1 at s1 ⊢
      refine ⟨_, rfl, c, rfl, fun a2 m n ha2 hm hn => ?_⟩
      have e2 : (upd H1 a2 (.lst [.int (m : Int), .int (n : Int)])) a2 = some (.lst [.int (m : Int), .int (n : Int)]) := upd_same
      have s2 := s1.trans (Same.upd (o := .lst [.int (m : Int), .int (n : Int)]) ha2)
      generalize upd H1 a2 (.lst [.int (m : Int), .int (n : Int)]) = H2 at s2 e2 ⊢
      refine ⟨_, _, rfl, SqL.of e2, rfl, ?_⟩
      refine ⟨_, _, rfl, _, _, rfl, rfl, ?_⟩
      refine ⟨_, rfl, _, _, rfl, rfl, ⟨by decide, by decide⟩, _, _, rfl, rfl, (by show (0 : Int) < 3; decide), [32], (c / 25000 % 3 : Int), (by rw [one_sp]), rfl, (by omega), (by omega), (big (by simp only [List.length_cons, List.length_nil]; omega)), ?_⟩
      obtain ⟨g, eg, hg⟩ : ∃ g : Nat, (c / 25000 % 3 : Int).toNat = g ∧ g < 3 := ⟨_, rfl, by omega⟩
      rw [eg, rep1, show List.replicate g 32 = sps g from rfl]
      have hm' : m < 100 := by omega
      have hn' : n < 100 := by omega
      have tl0 := two_len (ws := wN true) (g := g) (b := []) hm' hn'
      have tl1 := two_len (ws := wN true) (g := g) (b := sps g) hm' hn'
      rw [wN_len] at tl0 tl1
      rw [sps_len] at tl1
      simp only [List.length_nil] at tl0
      have d1 := (dec_is hm').l2
      have d2 := (dec_is hn').l2
      rw [one_open, one_comma, one_close]
      refine ⟨_, rfl, rfl, _, rfl, _, rfl, _, rfl, lg hm', _, rfl, _, rfl, lg hn', (by show 6 ≤ sizeLine; decide), fun a3 ha3 => ?_⟩
      rw [dec_tx m, dec_tx n]
      refine ⟨_, _, [tx (wN true), tx [40], tx (dec m), tx [44], tx (dec n), tx [41]], rfl, rfl, SqL.of upd_same, ?_, ?_⟩
      · simp only [List.map_cons, List.map_nil, List.sum_cons, List.sum_nil, List.length_cons, List.length_nil, tx_len, wN_len, sps_len]
        omega
      rw [join6]
      have s3 := s2.trans (Same.upd (o := .lst [.str (tx (wN true)), .str (tx [40]), .str (tx (dec m)), .str (tx [44]), .str (tx (dec n)), .str (tx [41])]) ha3)
      generalize upd H2 a3 (.lst [.str (tx (wN true)), .str (tx [40]), .str (tx (dec m)), .str (tx [44]), .str (tx (dec n)), .str (tx [41])]) = H3 at s3 ⊢
      refine ⟨_, rfl, _, rfl, _, rfl, true, m, n, (by rw [wS_tx]; rfl), hm', hn', fun ng H4 s4 => ?_, fun gd hs H4 s4 => ?_, fun gd hs H4 s4 => ?_⟩
      · refine ⟨_, rfl, rfl, _, rfl, ?_⟩
        refine iteNp (by decide +kernel) ?_
        exact ⟨_, rfl, _, rfl, true, m, n, g, _, _, rfl, rfl, by omega, hm', hn', .inl ⟨ng, rfl⟩, fun H5 s5 => k _ ((s3.trans s4).trans s5)⟩
      · refine ⟨_, rfl, rfl, _, rfl, ?_⟩
        refine iteNp (by decide +kernel) ?_
        exact ⟨_, rfl, _, rfl, true, m, n, g, _, _, rfl, rfl, by omega, hm', hn', .inr ⟨gd, hs, rfl⟩, fun H5 s5 => k _ ((s3.trans s4).trans s5)⟩
      · refine ⟨_, rfl, rfl, _, rfl, ?_⟩
        refine iteNS rfl ?_
        have h1 : 1 ≤ sz true m n := (by have h9 := gd.1; show 1 ≤ m + n; omega)
        refine ⟨_, rfl, _, rfl, _, rfl, true, m, n, (by rw [wS_tx]; rfl), h1, hs, fun a5 H5 s5 e5 => ?_⟩
        refine ⟨_, rfl, _, rfl, _, _, rfl, rfl, (by rw [tx_len, tx_len, sps_len]; exact big (by omega)), _, rfl, _, _, rfl, rfl, (by rw [tx_app, tx_len, tx_len, List.length_append, sps_len]; exact big (by omega)), ?_⟩
        refine And.intro (by decide) (fun a6 ha6 => ?_)
        have s6 := ((s3.trans s4).trans s5).trans (Same.upd (o := .lst []) ha6)
        have e6 : (upd H5 a6 (.lst [])) a5 = some (.lst (vS (rws true m n))) := (Same.upd ha6) _ _ e5
        generalize upd H5 a6 (.lst []) = H6 at s6 e6 ⊢
        refine ⟨true, m, n, g, g, g, sps g ++ two (wN true) m n g (sps g), _, (by rw [tx_app, tx_app, List.append_assoc, two_app]; rfl), rfl, (by rw [List.length_append, sps_len]; omega), hm', hn', fun _ _ p H7 s7 P7 => ?_, fun h9 => absurd gd h9, fun _ h9 => absurd h9 (by omega)⟩
        have e7 := s7 _ _ e6
        obtain ⟨dx, l, hp, hl⟩ := (id P7)
        have C := T.o_Twill.c
        refine ⟨_, rfl, _, _, true, T.is_Twill.ty C hp, .inr ⟨_, rfl, T.kb_Twill⟩, _, rfl, ?_⟩
        refine iteF ?_
        refine ⟨_, rfl, p, dx, _, rfl, hp, (pf_meth _ _).1, p, true, m, n, rfl, P7, h1, hs, ?_⟩
        refine ⟨_, rfl, _, rfl, ?_⟩
        refine iteF ?_
        refine ⟨_, rfl, p, dx, _, rfl, hp, (pf_meth _ _).2.1, p, true, m, n, rfl, P7, h1, hs, _, rfl, _, rfl, ?_⟩
        refine iteF ?_
        have lw : (vS (rws true m n)).length = sz true m n := by rw [vS_len, rws_len]
        obtain ⟨x, ex, hx⟩ : ∃ x : Nat, c / 7 % ((sz true m n : Nat) : Int) = (x : Int) ∧ x < sz true m n := ⟨(c / 7 % ((sz true m n : Nat) : Int)).toNat, by have := Int.emod_nonneg (c / 7) (show ((sz true m n : Nat) : Int) ≠ 0 by omega); omega, by have := Int.emod_nonneg (c / 7) (show ((sz true m n : Nat) : Int) ≠ 0 by omega); have := Int.emod_lt_of_pos (c / 7) (show 0 < ((sz true m n : Nat) : Int) by omega); omega⟩
        obtain ⟨y, ey, hy⟩ : ∃ y : Nat, c / 700 % ((sz true m n : Nat) : Int) = (y : Int) ∧ y < sz true m n := ⟨(c / 700 % ((sz true m n : Nat) : Int)).toNat, by have := Int.emod_nonneg (c / 700) (show ((sz true m n : Nat) : Int) ≠ 0 by omega); omega, by have := Int.emod_nonneg (c / 700) (show ((sz true m n : Nat) : Int) ≠ 0 by omega); have := Int.emod_lt_of_pos (c / 700) (show 0 < ((sz true m n : Nat) : Int) by omega); omega⟩
        refine ⟨_, rfl, _, _, rfl, rfl, ⟨by decide, by decide⟩, _, rfl, _, _, rfl, .inl (SqL.of e7), _, _, rfl, rfl, (by rw [lw]; show (0 : Int) < ((sz true m n : Nat) : Int); omega), ?_⟩
        rw [lw]
        change gName 9 (V.int (c / 7 % ((sz true m n : Nat) : Int))) _ _ _
        rw [ex]
        refine ⟨_, rfl, _, _, rfl, rfl, ⟨by decide, by decide⟩, _, rfl, _, _, rfl, .inl (SqL.of e7), _, _, rfl, rfl, (by rw [lw]; show (0 : Int) < ((sz true m n : Nat) : Int); omega), ?_⟩
        rw [lw]
        change gName 10 (V.int (c / 700 % ((sz true m n : Nat) : Int))) _ _ _
        rw [ey]
        refine ⟨_, rfl, p, dx, _, rfl, hp, (pf_meth _ _).1, p, true, m, n, rfl, P7, h1, hs, _, rfl, _, _, rfl, .inl (SqL.of e7), rfl, _, rfl, ?_⟩
        refine iteNS (by rw [lw]) ?_
        refine ⟨_, rfl, p, dx, _, rfl, hp, (pf_meth _ _).2.1, p, true, m, n, rfl, P7, h1, hs, _, rfl, _, _, rfl, .inl (SqL.of e7), rfl, _, rfl, ?_⟩
        refine iteNS (by rw [lw]) ?_
        have lx : x < (rw1 true m n y).length := by rw [rw1_len]; exact hx
        have hc9 : (rw1 true m n y)[x]? = some (rw1 true m n y)[x] := List.getElem?_eq_getElem lx
        refine ⟨_, rfl, p, dx, _, rfl, hp, (pf_meth _ _).2.2.1, _, rfl, _, rfl, p, true, m, n, _, x, y, rfl, P7, hy, hs, hc9, ?_⟩
        refine ⟨_, rfl, _, rfl, _, _, _, _, rfl, rfl, SqL.of e7, vS_at (rws_at hy), _, rfl, _, _, (rw1 true m n y)[x], rfl, rfl, (by rw [tx_len, rw1_len]; exact big (by omega)), atI_of (by omega) (by rw [Int.toNat_natCast, tx_list]; exact hc9), rfl, _, rfl, ?_⟩
        refine iteNS rfl ?_
        refine ⟨_, rfl, p, dx, _, rfl, hp, (pf_meth _ _).2.2.2.1, p, true, m, n, rfl, P7, fun l2 hl2 => ?_⟩
        have s8 := Same.upd (o := .lst (vS (rws true m n))) hl2
        have e8 : (upd H7 l2 (.lst (vS (rws true m n)))) l2 = some (.lst (vS (rws true m n))) := upd_same
        generalize upd H7 l2 (.lst (vS (rws true m n))) = H8 at s8 e8 ⊢
        have P8 : Pce t H8 p true m n := ⟨dx, l, s8 _ _ hp, s8 _ _ hl⟩
        refine ⟨_, rfl, p, dx, _, rfl, s8 _ _ hp, (pf_meth _ _).2.2.2.2, p, true, m, n, rfl, P8, ?_⟩
        refine ⟨_, rfl, _, _, true, .lst e8, .inl ⟨_, rfl, kit_same _ _⟩, _, rfl, ?_⟩
        refine iteF ?_
        refine ⟨_, rfl, _, _, true, .str _, .inl ⟨_, rfl, kit_same _ _⟩, _, rfl, ?_⟩
        refine iteF ?_
        have eqv : eqL (vS (rws true m n)) (vS (rws true m n)) = true := eqL_refl (vS_flat _)
        refine ⟨_, rfl, _, rfl, _, _, _, _, rfl, rfl, SqL.of e8, SqL.of (s8 _ _ e7), vS_flat _, vS_flat _, _, rfl, ?_⟩
        rw [eqv]
        refine iteT ?_
        refine ⟨_, rfl, _, rfl, _, _, rfl, rfl, (by rw [tx_len, tx_len, wN_len]; exact big (by decide)), _, rfl, _, rfl, lg hm', ?_⟩
        rw [dec_tx m, tx_app]
        refine ⟨_, _, rfl, rfl, (by rw [tx_len, tx_len, List.length_append, wN_len]; exact big (by simp only [List.length_cons, List.length_nil]; omega)), ?_⟩
        rw [tx_app]
        refine ⟨_, _, rfl, rfl, (by rw [tx_len, tx_len, List.length_append, List.length_append, wN_len]; exact big (by simp only [List.length_cons, List.length_nil]; omega)), _, rfl, _, rfl, lg hn', ?_⟩
        rw [dec_tx n, tx_app]
        refine ⟨_, _, rfl, rfl, (by rw [tx_len, tx_len, List.length_append, List.length_append, List.length_append, wN_len]; exact big (by simp only [List.length_cons, List.length_nil]; omega)), ?_⟩
        rw [tx_app]
        refine ⟨_, _, rfl, rfl, (by rw [tx_len, tx_len, List.length_append, List.length_append, List.length_append, List.length_append, wN_len]; exact big (by simp only [List.length_cons, List.length_nil]; omega)), rfl, ?_⟩
        rw [tx_app, show wN true ++ [40] ++ dec m ++ [44] ++ dec n ++ [41] = wrT (wN true) (dec m) (dec n) by unfold wrT; simp, decide_eq_true rfl]
        exact k _ ((s6.trans s7).trans s8)
    · have hw0 : atI [V.str "twill", V.str "satin"] (c / 5 % 2) = some (.str (tx (wN false))) := by rw [par, ← wS_tx]; exact atI_of (by decide) rfl
      refine ⟨_, (pss_cons (ps_set (i := 1) sc_law_right.nd rfl (Or.inl rfl) (pe_ix (ix_listK (K := K)) (pe_lst (pa_cons pe_str (pa_cons pe_str pa_nil))) (pe_op op_mod (pe_op op_fdiv (pv 0) pe_int) pe_int) (fun _ _ => rfl)))
        (pss_cons (ps_asg (pe_call (G_law_numbers.mono (by decide)) hr rfl T.law_numbers.m T.law_numbers.F.kp T.law_numbers.b .nil pass0 (pa_cons (pv 0) pa_nil)) (pg_lst (K := K) rfl (pgs_cons (pg_name (i := 2) sc_law_right.nd rfl (Or.inl rfl)) (pgs_cons (pg_name (i := 3) sc_law_right.nd rfl (Or.inl rfl)) pgs_nil))))
        (pss_cons (ps_set (i := 4) sc_law_right.nd rfl (Or.inl rfl) (pe_op op_repS pe_str (pe_op op_mod (pe_op op_fdiv (pv 0) pe_int) pe_int)))
        (pss_cons (ps_set (i := 5) sc_law_right.nd rfl (Or.inl rfl) (pe_bmK (K := K) PySem.F.plainAttrs_str PySem.F.slot_str_join PySem.F.type_str_join (mt_joinK (K := K)) (pv 4) (pa_cons (pe_lst (pa_cons (pv 1) (pa_cons pe_str (pa_cons (pe_callTy call_str_int rfl T.b_str bt_str (pa_cons (pv 2) pa_nil)) (pa_cons pe_str (pa_cons (pe_callTy call_str_int rfl T.b_str bt_str (pa_cons (pv 3) pa_nil)) (pa_cons pe_str pa_nil))))))) pa_nil)))
        (pss_cons (ps_set (i := 6) sc_law_right.nd rfl (Or.inl rfl) (pe_call (G_law_due.mono (by decide)) hr rfl T.law_due.m T.law_due.F.kp T.law_due.b .nil pass0 (pa_cons (pv 1) (pa_cons (pv 2) (pa_cons (pv 3) pa_nil)))))
        (pss_cons (ps_if (pt_cmpR op_ne (pv 6) pe_str (nomark _))
          (pss_one (ps_ret (pe_call (G_law_refused.mono (by decide)) hr rfl T.law_refused.m T.law_refused.F.kp T.law_refused.b .nil pass0 (pa_cons (pv 5) (pa_cons (pv 6) pa_nil)))))
          pss_nil)
        (pss_cons (ps_set (i := 7) sc_law_right.nd rfl (Or.inl rfl) (pe_call (G_law_rows.mono (by decide)) hr rfl T.law_rows.m T.law_rows.F.kp T.law_rows.b .nil pass0 (pa_cons (pv 1) (pa_cons (pv 2) (pa_cons (pv 3) pa_nil)))))
        (pss_cons (ps_set (i := 8) sc_law_right.nd rfl (Or.inl rfl) (pe_call (G_read_pattern.mono (by decide)) hr rfl T.read_pattern.m T.read_pattern.F.kp T.read_pattern.b .nil passF (pa_cons (pe_op op_add_str (pe_op op_add_str (pv 4) (pv 5)) (pv 4)) (pa_cons (pe_lst pa_nil) pa_nil))))
        (pss_cons (ps_if (PW.pt (pw_or (pt_not (pt_val (pe_callB (call_isiK (K := K)) rfl T.b_isinstance bt_isinstance (pa_cons (pv 8) (pa_cons (pe_glob (v := .ref t.e_Piece) rfl T.k_Piece rfl) pa_nil))))) (pw_or (pt_not (pt_val (pe_call (G_law_whole.mono (by decide)) hr rfl T.law_whole.m T.law_whole.F.kp T.law_whole.b .nil pass0 (pa_cons (pe_meth0 (pv 8) T.o_Satin.c T.im_Satin_wide (G_Piece_wide.mono (by decide)) hr T.m_Piece_wide.b .nil pass0) pa_nil)))) (pw_or1 (pt_not (pt_val (pe_call (G_law_whole.mono (by decide)) hr rfl T.law_whole.m T.law_whole.F.kp T.law_whole.b .nil pass0 (pa_cons (pe_meth0 (pv 8) T.o_Satin.c T.im_Satin_high (G_Piece_high.mono (by decide)) hr T.m_Piece_high.b .nil pass0) pa_nil))))))))
          (pss_one (ps_ret pe_bl))
          pss_nil)
        (pss_cons (ps_set (i := 9) sc_law_right.nd rfl (Or.inl rfl) (pe_op op_mod (pe_op op_fdiv (pv 0) pe_int) (pe_callB (call_len_seqK (K := K)) rfl T.b_len bt_len (pa_cons (pv 7) pa_nil))))
        (pss_cons (ps_set (i := 10) sc_law_right.nd rfl (Or.inl rfl) (pe_op op_mod (pe_op op_fdiv (pv 0) pe_int) (pe_callB (call_len_seqK (K := K)) rfl T.b_len bt_len (pa_cons (pv 7) pa_nil))))
        (pss_cons (ps_if (PW.pt (pw_or (pt_cmpR op_ne (pe_meth0 (pv 8) T.o_Satin.c T.im_Satin_wide (G_Piece_wide.mono (by decide)) hr T.m_Piece_wide.b .nil pass0) (pe_callB (call_len_seqK (K := K)) rfl T.b_len bt_len (pa_cons (pv 7) pa_nil)) (nomark _)) (pw_or (pt_cmpR op_ne (pe_meth0 (pv 8) T.o_Satin.c T.im_Satin_high (G_Piece_high.mono (by decide)) hr T.m_Piece_high.b .nil pass0) (pe_callB (call_len_seqK (K := K)) rfl T.b_len bt_len (pa_cons (pv 7) pa_nil)) (nomark _)) (pw_or1 (pt_cmpR op_ne (pe_meth (pv 8) T.o_Satin.c T.im_Satin_sign (G_Piece_sign.mono (by decide)) hr T.m_Piece_sign.b .nil pass0 (pa_cons (pv 9) (pa_cons (pv 10) pa_nil))) (pe_ix ix_str (pe_ix (ix_listK (K := K)) (pv 7) (pv 10) (fun _ _ => rfl)) (pv 9) (fun _ _ => rfl)) (nomark _))))))
          (pss_one (ps_ret pe_bl))
          pss_nil)
        (pss_cons (ps_set (i := 11) sc_law_right.nd rfl (Or.inl rfl) (pe_meth0 (pv 8) T.o_Satin.c T.im_Satin_cloth (G_Piece_cloth.mono (by decide)) hr T.m_Piece_cloth.b .nil pass0))
        (pss_cons (ps_set (i := 12) sc_law_right.nd rfl (Or.inl rfl) (pe_meth0 (pv 8) T.o_Satin.c T.im_Satin_told (G_Piece_told.mono (by decide)) hr T.m_Piece_told.b .nil pass0))
        (pss_cons (ps_if (PW.pt (pw_or (pt_not (pt_val (pe_callB (call_isiK (K := K)) rfl T.b_isinstance bt_isinstance (pa_cons (pv 11) (pa_cons (pe_bltn (v := .ty "list") rfl T.b_list bt_list rfl) pa_nil))))) (pw_or1 (pt_not (pt_val (pe_callB (call_isiK (K := K)) rfl T.b_isinstance bt_isinstance (pa_cons (pv 12) (pa_cons (pe_bltn (v := .ty "str") rfl T.b_str bt_str rfl) pa_nil))))))))
          (pss_one (ps_ret pe_bl))
          pss_nil)
        (pss_one (ps_ret (pe_and (pe_cmpR (op_eqLK (K := K) (hr.units0)) (pv 11) (pv 7) (nomark _)) (pe_one (pe_cmpR op_eq (pv 12) (pe_op op_add_str (pe_op op_add_str (pe_op op_add_str (pe_op op_add_str (pe_op op_add_str (pv 1) pe_str) (pe_callTy call_str_int rfl T.b_str bt_str (pa_cons (pv 2) pa_nil))) pe_str) (pe_callTy call_str_int rfl T.b_str bt_str (pa_cons (pv 3) pa_nil))) pe_str) (nomark _))))))))))))))))))))), ?_⟩
      refine ⟨(by decide), fun a1 ha1 => ?_⟩
      refine ⟨_, rfl, _, _, rfl, rfl, ⟨by decide, by decide⟩, _, _, rfl, rfl, (by show (0 : Int) < 2; decide), _, _, _, _, rfl, rfl, SqL.of upd_same, hw0, ?_⟩
      have s1 : Same H (upd H a1 (.lst [.str "twill", .str "satin"])) := .upd ha1
      generalize upd H a1 (.lst [.str "twill", .str "satin"]) = H1 at s1 ⊢
      refine ⟨_, rfl, c, rfl, fun a2 m n ha2 hm hn => ?_⟩
      have e2 : (upd H1 a2 (.lst [.int (m : Int), .int (n : Int)])) a2 = some (.lst [.int (m : Int), .int (n : Int)]) := upd_same
      have s2 := s1.trans (Same.upd (o := .lst [.int (m : Int), .int (n : Int)]) ha2)
      generalize upd H1 a2 (.lst [.int (m : Int), .int (n : Int)]) = H2 at s2 e2 ⊢
      refine ⟨_, _, rfl, SqL.of e2, rfl, ?_⟩
      refine ⟨_, _, rfl, _, _, rfl, rfl, ?_⟩
      refine ⟨_, rfl, _, _, rfl, rfl, ⟨by decide, by decide⟩, _, _, rfl, rfl, (by show (0 : Int) < 3; decide), [32], (c / 25000 % 3 : Int), (by rw [one_sp]), rfl, (by omega), (by omega), (big (by simp only [List.length_cons, List.length_nil]; omega)), ?_⟩
      obtain ⟨g, eg, hg⟩ : ∃ g : Nat, (c / 25000 % 3 : Int).toNat = g ∧ g < 3 := ⟨_, rfl, by omega⟩
      rw [eg, rep1, show List.replicate g 32 = sps g from rfl]
      have hm' : m < 100 := by omega
      have hn' : n < 100 := by omega
      have tl0 := two_len (ws := wN false) (g := g) (b := []) hm' hn'
      have tl1 := two_len (ws := wN false) (g := g) (b := sps g) hm' hn'
      rw [wN_len] at tl0 tl1
      rw [sps_len] at tl1
      simp only [List.length_nil] at tl0
      have d1 := (dec_is hm').l2
      have d2 := (dec_is hn').l2
      rw [one_open, one_comma, one_close]
      refine ⟨_, rfl, rfl, _, rfl, _, rfl, _, rfl, lg hm', _, rfl, _, rfl, lg hn', (by show 6 ≤ sizeLine; decide), fun a3 ha3 => ?_⟩
      rw [dec_tx m, dec_tx n]
      refine ⟨_, _, [tx (wN false), tx [40], tx (dec m), tx [44], tx (dec n), tx [41]], rfl, rfl, SqL.of upd_same, ?_, ?_⟩
      · simp only [List.map_cons, List.map_nil, List.sum_cons, List.sum_nil, List.length_cons, List.length_nil, tx_len, wN_len, sps_len]
        omega
      rw [join6]
      have s3 := s2.trans (Same.upd (o := .lst [.str (tx (wN false)), .str (tx [40]), .str (tx (dec m)), .str (tx [44]), .str (tx (dec n)), .str (tx [41])]) ha3)
      generalize upd H2 a3 (.lst [.str (tx (wN false)), .str (tx [40]), .str (tx (dec m)), .str (tx [44]), .str (tx (dec n)), .str (tx [41])]) = H3 at s3 ⊢
      refine ⟨_, rfl, _, rfl, _, rfl, false, m, n, (by rw [wS_tx]; rfl), hm', hn', fun ng H4 s4 => ?_, fun gd hs H4 s4 => ?_, fun gd hs H4 s4 => ?_⟩
      · refine ⟨_, rfl, rfl, _, rfl, ?_⟩
        refine iteNp (by decide +kernel) ?_
        exact ⟨_, rfl, _, rfl, false, m, n, g, _, _, rfl, rfl, by omega, hm', hn', .inl ⟨ng, rfl⟩, fun H5 s5 => k _ ((s3.trans s4).trans s5)⟩
      · refine ⟨_, rfl, rfl, _, rfl, ?_⟩
        refine iteNp (by decide +kernel) ?_
        exact ⟨_, rfl, _, rfl, false, m, n, g, _, _, rfl, rfl, by omega, hm', hn', .inr ⟨gd, hs, rfl⟩, fun H5 s5 => k _ ((s3.trans s4).trans s5)⟩
      · refine ⟨_, rfl, rfl, _, rfl, ?_⟩
        refine iteNS rfl ?_
        have h1 : 1 ≤ sz false m n := (by have h9 := gd.1; have h8 := gd.2.1; show 1 ≤ m; omega)
        refine ⟨_, rfl, _, rfl, _, rfl, false, m, n, (by rw [wS_tx]; rfl), h1, hs, fun a5 H5 s5 e5 => ?_⟩
        refine ⟨_, rfl, _, rfl, _, _, rfl, rfl, (by rw [tx_len, tx_len, sps_len]; exact big (by omega)), _, rfl, _, _, rfl, rfl, (by rw [tx_app, tx_len, tx_len, List.length_append, sps_len]; exact big (by omega)), ?_⟩
        refine And.intro (by decide) (fun a6 ha6 => ?_)
        have s6 := ((s3.trans s4).trans s5).trans (Same.upd (o := .lst []) ha6)
        have e6 : (upd H5 a6 (.lst [])) a5 = some (.lst (vS (rws false m n))) := (Same.upd ha6) _ _ e5
        generalize upd H5 a6 (.lst []) = H6 at s6 e6 ⊢
        refine ⟨false, m, n, g, g, g, sps g ++ two (wN false) m n g (sps g), _, (by rw [tx_app, tx_app, List.append_assoc, two_app]; rfl), rfl, (by rw [List.length_append, sps_len]; omega), hm', hn', fun _ _ p H7 s7 P7 => ?_, fun h9 => absurd gd h9, fun _ h9 => absurd h9 (by omega)⟩
        have e7 := s7 _ _ e6
        obtain ⟨dx, l, hp, hl⟩ := (id P7)
        have C := T.o_Satin.c
        refine ⟨_, rfl, _, _, true, T.is_Satin.ty C hp, .inr ⟨_, rfl, T.kb_Satin⟩, _, rfl, ?_⟩
        refine iteF ?_
        refine ⟨_, rfl, p, dx, _, rfl, hp, (pf_meth _ _).1, p, false, m, n, rfl, P7, h1, hs, ?_⟩
        refine ⟨_, rfl, _, rfl, ?_⟩
        refine iteF ?_
        refine ⟨_, rfl, p, dx, _, rfl, hp, (pf_meth _ _).2.1, p, false, m, n, rfl, P7, h1, hs, _, rfl, _, rfl, ?_⟩
        refine iteF ?_
        have lw : (vS (rws false m n)).length = sz false m n := by rw [vS_len, rws_len]
        obtain ⟨x, ex, hx⟩ : ∃ x : Nat, c / 7 % ((sz false m n : Nat) : Int) = (x : Int) ∧ x < sz false m n := ⟨(c / 7 % ((sz false m n : Nat) : Int)).toNat, by have := Int.emod_nonneg (c / 7) (show ((sz false m n : Nat) : Int) ≠ 0 by omega); omega, by have := Int.emod_nonneg (c / 7) (show ((sz false m n : Nat) : Int) ≠ 0 by omega); have := Int.emod_lt_of_pos (c / 7) (show 0 < ((sz false m n : Nat) : Int) by omega); omega⟩
        obtain ⟨y, ey, hy⟩ : ∃ y : Nat, c / 700 % ((sz false m n : Nat) : Int) = (y : Int) ∧ y < sz false m n := ⟨(c / 700 % ((sz false m n : Nat) : Int)).toNat, by have := Int.emod_nonneg (c / 700) (show ((sz false m n : Nat) : Int) ≠ 0 by omega); omega, by have := Int.emod_nonneg (c / 700) (show ((sz false m n : Nat) : Int) ≠ 0 by omega); have := Int.emod_lt_of_pos (c / 700) (show 0 < ((sz false m n : Nat) : Int) by omega); omega⟩
        refine ⟨_, rfl, _, _, rfl, rfl, ⟨by decide, by decide⟩, _, rfl, _, _, rfl, .inl (SqL.of e7), _, _, rfl, rfl, (by rw [lw]; show (0 : Int) < ((sz false m n : Nat) : Int); omega), ?_⟩
        rw [lw]
        change gName 9 (V.int (c / 7 % ((sz false m n : Nat) : Int))) _ _ _
        rw [ex]
        refine ⟨_, rfl, _, _, rfl, rfl, ⟨by decide, by decide⟩, _, rfl, _, _, rfl, .inl (SqL.of e7), _, _, rfl, rfl, (by rw [lw]; show (0 : Int) < ((sz false m n : Nat) : Int); omega), ?_⟩
        rw [lw]
        change gName 10 (V.int (c / 700 % ((sz false m n : Nat) : Int))) _ _ _
        rw [ey]
        refine ⟨_, rfl, p, dx, _, rfl, hp, (pf_meth _ _).1, p, false, m, n, rfl, P7, h1, hs, _, rfl, _, _, rfl, .inl (SqL.of e7), rfl, _, rfl, ?_⟩
        refine iteNS (by rw [lw]) ?_
        refine ⟨_, rfl, p, dx, _, rfl, hp, (pf_meth _ _).2.1, p, false, m, n, rfl, P7, h1, hs, _, rfl, _, _, rfl, .inl (SqL.of e7), rfl, _, rfl, ?_⟩
        refine iteNS (by rw [lw]) ?_
        have lx : x < (rw1 false m n y).length := by rw [rw1_len]; exact hx
        have hc9 : (rw1 false m n y)[x]? = some (rw1 false m n y)[x] := List.getElem?_eq_getElem lx
        refine ⟨_, rfl, p, dx, _, rfl, hp, (pf_meth _ _).2.2.1, _, rfl, _, rfl, p, false, m, n, _, x, y, rfl, P7, hy, hs, hc9, ?_⟩
        refine ⟨_, rfl, _, rfl, _, _, _, _, rfl, rfl, SqL.of e7, vS_at (rws_at hy), _, rfl, _, _, (rw1 false m n y)[x], rfl, rfl, (by rw [tx_len, rw1_len]; exact big (by omega)), atI_of (by omega) (by rw [Int.toNat_natCast, tx_list]; exact hc9), rfl, _, rfl, ?_⟩
        refine iteNS rfl ?_
        refine ⟨_, rfl, p, dx, _, rfl, hp, (pf_meth _ _).2.2.2.1, p, false, m, n, rfl, P7, fun l2 hl2 => ?_⟩
        have s8 := Same.upd (o := .lst (vS (rws false m n))) hl2
        have e8 : (upd H7 l2 (.lst (vS (rws false m n)))) l2 = some (.lst (vS (rws false m n))) := upd_same
        generalize upd H7 l2 (.lst (vS (rws false m n))) = H8 at s8 e8 ⊢
        have P8 : Pce t H8 p false m n := ⟨dx, l, s8 _ _ hp, s8 _ _ hl⟩
        refine ⟨_, rfl, p, dx, _, rfl, s8 _ _ hp, (pf_meth _ _).2.2.2.2, p, false, m, n, rfl, P8, ?_⟩
        refine ⟨_, rfl, _, _, true, .lst e8, .inl ⟨_, rfl, kit_same _ _⟩, _, rfl, ?_⟩
        refine iteF ?_
        refine ⟨_, rfl, _, _, true, .str _, .inl ⟨_, rfl, kit_same _ _⟩, _, rfl, ?_⟩
        refine iteF ?_
        have eqv : eqL (vS (rws false m n)) (vS (rws false m n)) = true := eqL_refl (vS_flat _)
        refine ⟨_, rfl, _, rfl, _, _, _, _, rfl, rfl, SqL.of e8, SqL.of (s8 _ _ e7), vS_flat _, vS_flat _, _, rfl, ?_⟩
        rw [eqv]
        refine iteT ?_
        refine ⟨_, rfl, _, rfl, _, _, rfl, rfl, (by rw [tx_len, tx_len, wN_len]; exact big (by decide)), _, rfl, _, rfl, lg hm', ?_⟩
        rw [dec_tx m, tx_app]
        refine ⟨_, _, rfl, rfl, (by rw [tx_len, tx_len, List.length_append, wN_len]; exact big (by simp only [List.length_cons, List.length_nil]; omega)), ?_⟩
        rw [tx_app]
        refine ⟨_, _, rfl, rfl, (by rw [tx_len, tx_len, List.length_append, List.length_append, wN_len]; exact big (by simp only [List.length_cons, List.length_nil]; omega)), _, rfl, _, rfl, lg hn', ?_⟩
        rw [dec_tx n, tx_app]
        refine ⟨_, _, rfl, rfl, (by rw [tx_len, tx_len, List.length_append, List.length_append, List.length_append, wN_len]; exact big (by simp only [List.length_cons, List.length_nil]; omega)), ?_⟩
        rw [tx_app]
        refine ⟨_, _, rfl, rfl, (by rw [tx_len, tx_len, List.length_append, List.length_append, List.length_append, List.length_append, wN_len]; exact big (by simp only [List.length_cons, List.length_nil]; omega)), rfl, ?_⟩
        rw [tx_app, show wN false ++ [40] ++ dec m ++ [44] ++ dec n ++ [41] = wrT (wN false) (dec m) (dec n) by unfold wrT; simp, decide_eq_true rfl]
        exact k _ ((s6.trans s7).trans s8)
def sp_law (K : PySem.W.Frag) : Sp := fun vs H Q _ => ∃ (a : Addr) (ns : List Int), vs = [.ref a] ∧ SqL K H a (vI ns) ∧ ns.length ≤ 63 ∧ ∀ H', Q (.bl true) H'
theorem sp_law_holds {K : PySem.W.Frag} {H : Hp} {a : Addr} {ns : List Int} (hl : ns.length ≤ 63) (hS : SqL K H a (ns.map V.int)) : sp_law K [.ref a] H (fun v _ => v = .bl true) fun _ _ _ => False := ⟨a, ns, rfl, hS, hl, fun _ => rfl⟩
theorem ok_law (T : Txt K mg t) : FnOk P w K mg base CX0 12 t.f_law t.d_law ["script"] (sp_law K) := by
  have G_law_right : FnOk P w K mg base CX0 10 t.f_law_right t.d_law_right _ _ := ok_law_right T
  refine T.law.F.ok sc_law (fun vs H Q E h => ?_) (fun cdv A outer s H vs Q E hr h => ?_)
  · obtain ⟨a, ns, rfl, _⟩ := h
    rfl
  · obtain ⟨a, sc, rfl, hS, hl, k⟩ := h
    refine ⟨_, (pss_cons (ps_for PassesOwn.never rfl (pi_listK (K := K) (pe_slice (sl_listK (K := K)) (pv 0) po_none (po_some pe_int))) (pg_name (i := 1) sc_law.nd rfl (Or.inl rfl))
        (pss_one (ps_if (pt_not (pt_val (pe_call (G_law_right.mono (by decide)) hr rfl T.law_right.m T.law_right.F.kp T.law_right.b .nil pass0 (pa_cons (pv 1) pa_nil))))
          (pss_one (ps_ret pe_bl))
          pss_nil)))
      (pss_one (ps_ret (pe_call (G_law_right.mono (by decide)) hr rfl T.law_right.m T.law_right.F.kp T.law_right.b .nil pass0 (pa_cons pe_int pa_nil))))), ?_⟩
    refine ⟨_, rfl, _, rfl, _, _, rfl, hS, fun q hq => ?_⟩
    obtain ⟨zs, ez⟩ : ∃ zs : List Int, cutV (vI sc) none (some 16) = vI zs := by
      unfold cutV vI
      exact ⟨_, by rw [← List.map_drop, ← List.map_take]⟩
    rw [ez]
    have e1 : (upd H q (.lst (vI zs))) q = some (.lst (vI zs)) := upd_same
    generalize upd H q (.lst (vI zs)) = H1 at e1 ⊢
    refine ⟨_, rfl, ⟨_, SqL.of e1⟩, for_list (K := K) (a := q) (xs := vI zs) (fun i σ H2 => ∃ v, σ = [some (.ref a), v] ∧ Same H1 H2) ⟨none, rfl, .refl _⟩ ?_ ?_ ?_⟩
    · rintro i σ H2 hi ⟨v, rfl, s2⟩
      exact SqL.of (s2 _ _ e1)
    · rintro i x σ H2 hx ⟨v, rfl, s2⟩
      obtain ⟨z, rfl⟩ : ∃ z, x = .int z := by
        unfold vI at hx
        rw [List.getElem?_map] at hx
        obtain ⟨z, _, rfl⟩ := Option.map_eq_some_iff.mp hx
        exact ⟨z, rfl⟩
      refine ⟨_, rfl, z, rfl, fun H3 s3 => ?_⟩
      refine ⟨_, rfl, ?_⟩
      refine iteF ?_
      exact ⟨_, rfl, s2.trans s3⟩
    · rintro σ H2 ⟨v, rfl, s2⟩
      exact ⟨0, rfl, fun H3 s3 => k _⟩
end
theorem law_mk {P : Program} {w : World} {K : PySem.W.Frag} {h : Heap} {mg : Str → Option Value} {fa : Addr} {f_check_size : Addr} {od_check_size an_check_size : Option Addr} {sl_check_size : Array (Option Value)} {oc_check_size kV_check_size dc_check_size pm_check_size cd_check_size ct_check_size : Value}
    {f_prime_to : Addr} {od_prime_to an_prime_to : Option Addr} {sl_prime_to : Array (Option Value)} {oc_prime_to kV_prime_to dc_prime_to pm_prime_to cd_prime_to ct_prime_to : Value}
    {f_written : Addr} {od_written an_written : Option Addr} {sl_written : Array (Option Value)} {oc_written kV_written dc_written pm_written cd_written ct_written : Value}
    {f_number_of : Addr} {od_number_of an_number_of : Option Addr} {sl_number_of : Array (Option Value)} {oc_number_of kV_number_of dc_number_of pm_number_of cd_number_of ct_number_of : Value}
    {f_read_pattern : Addr} {od_read_pattern an_read_pattern : Option Addr} {sl_read_pattern : Array (Option Value)} {oc_read_pattern kV_read_pattern dc_read_pattern pm_read_pattern cd_read_pattern ct_read_pattern : Value}
    {f_read_whole : Addr} {od_read_whole an_read_whole : Option Addr} {sl_read_whole : Array (Option Value)} {oc_read_whole kV_read_whole dc_read_whole pm_read_whole cd_read_whole ct_read_whole : Value}
    {f_read_node : Addr} {od_read_node an_read_node : Option Addr} {sl_read_node : Array (Option Value)} {oc_read_node kV_read_node dc_read_node pm_read_node cd_read_node ct_read_node : Value}
    {f_read_things : Addr} {od_read_things an_read_things : Option Addr} {sl_read_things : Array (Option Value)} {oc_read_things kV_read_things dc_read_things pm_read_things cd_read_things ct_read_things : Value}
    {f_read_number : Addr} {od_read_number an_read_number : Option Addr} {sl_read_number : Array (Option Value)} {oc_read_number kV_read_number dc_read_number pm_read_number cd_read_number ct_read_number : Value}
    {f_read_comma : Addr} {od_read_comma an_read_comma : Option Addr} {sl_read_comma : Array (Option Value)} {oc_read_comma kV_read_comma dc_read_comma pm_read_comma cd_read_comma ct_read_comma : Value}
    {f_worked_out : Addr} {od_worked_out an_worked_out : Option Addr} {sl_worked_out : Array (Option Value)} {oc_worked_out kV_worked_out dc_worked_out pm_worked_out cd_worked_out ct_worked_out : Value}
    {f_made_of_two : Addr} {od_made_of_two an_made_of_two : Option Addr} {sl_made_of_two : Array (Option Value)} {oc_made_of_two kV_made_of_two dc_made_of_two pm_made_of_two cd_made_of_two ct_made_of_two : Value}
    {f_law_whole : Addr} {od_law_whole an_law_whole : Option Addr} {sl_law_whole : Array (Option Value)} {oc_law_whole kV_law_whole dc_law_whole pm_law_whole cd_law_whole ct_law_whole : Value}
    {f_law_numbers : Addr} {od_law_numbers an_law_numbers : Option Addr} {sl_law_numbers : Array (Option Value)} {oc_law_numbers kV_law_numbers dc_law_numbers pm_law_numbers cd_law_numbers ct_law_numbers : Value}
    {f_law_common : Addr} {od_law_common an_law_common : Option Addr} {sl_law_common : Array (Option Value)} {oc_law_common kV_law_common dc_law_common pm_law_common cd_law_common ct_law_common : Value}
    {f_law_due : Addr} {od_law_due an_law_due : Option Addr} {sl_law_due : Array (Option Value)} {oc_law_due kV_law_due dc_law_due pm_law_due cd_law_due ct_law_due : Value}
    {f_law_up : Addr} {od_law_up an_law_up : Option Addr} {sl_law_up : Array (Option Value)} {oc_law_up kV_law_up dc_law_up pm_law_up cd_law_up ct_law_up : Value}
    {f_law_rows : Addr} {od_law_rows an_law_rows : Option Addr} {sl_law_rows : Array (Option Value)} {oc_law_rows kV_law_rows dc_law_rows pm_law_rows cd_law_rows ct_law_rows : Value}
    {f_law_refused : Addr} {od_law_refused an_law_refused : Option Addr} {sl_law_refused : Array (Option Value)} {oc_law_refused kV_law_refused dc_law_refused pm_law_refused cd_law_refused ct_law_refused : Value}
    {f_law_right : Addr} {od_law_right an_law_right : Option Addr} {sl_law_right : Array (Option Value)} {oc_law_right kV_law_right dc_law_right pm_law_right cd_law_right ct_law_right : Value}
    {f_law : Addr} {od_law an_law : Option Addr} {sl_law : Array (Option Value)} {oc_law kV_law dc_law pm_law cd_law ct_law : Value}
    {q_LETTERS : Tok}
    {q_MOST_LETTERS : Tok}
    {q_MOST_STRANDS : Tok}
    {q_FIGURES : Tok}
    {q_MOST_DEEP : Tok}
    {q_MOST_RUNS : Tok}
    {e_WeaveError : Addr}
    {e_TooLarge : Addr}
    {e_NoCloth : Addr}
    {e_NoLaying : Addr}
    {e_NoBlock : Addr}
    {e_NoPattern : Addr}
    {e_Unknown : Addr}
    {f_TooLarge_called : Addr} {od_TooLarge_called an_TooLarge_called : Option Addr} {sl_TooLarge_called : Array (Option Value)} {oc_TooLarge_called kV_TooLarge_called dc_TooLarge_called pm_TooLarge_called cd_TooLarge_called ct_TooLarge_called : Value}
    {f_NoPattern_called : Addr} {od_NoPattern_called an_NoPattern_called : Option Addr} {sl_NoPattern_called : Array (Option Value)} {oc_NoPattern_called kV_NoPattern_called dc_NoPattern_called pm_NoPattern_called cd_NoPattern_called ct_NoPattern_called : Value}
    {e_Piece : Addr}
    {e_Twill : Addr}
    {e_Satin : Addr}
    {e_Reader : Addr}
    {f_Piece___init__ : Addr} {od_Piece___init__ an_Piece___init__ : Option Addr} {sl_Piece___init__ : Array (Option Value)} {oc_Piece___init__ kV_Piece___init__ dc_Piece___init__ pm_Piece___init__ cd_Piece___init__ ct_Piece___init__ : Value}
    {f_Piece_wide : Addr} {od_Piece_wide an_Piece_wide : Option Addr} {sl_Piece_wide : Array (Option Value)} {oc_Piece_wide kV_Piece_wide dc_Piece_wide pm_Piece_wide cd_Piece_wide ct_Piece_wide : Value}
    {f_Piece_high : Addr} {od_Piece_high an_Piece_high : Option Addr} {sl_Piece_high : Array (Option Value)} {oc_Piece_high kV_Piece_high dc_Piece_high pm_Piece_high cd_Piece_high ct_Piece_high : Value}
    {f_Piece_sign : Addr} {od_Piece_sign an_Piece_sign : Option Addr} {sl_Piece_sign : Array (Option Value)} {oc_Piece_sign kV_Piece_sign dc_Piece_sign pm_Piece_sign cd_Piece_sign ct_Piece_sign : Value}
    {f_Piece_cloth : Addr} {od_Piece_cloth an_Piece_cloth : Option Addr} {sl_Piece_cloth : Array (Option Value)} {oc_Piece_cloth kV_Piece_cloth dc_Piece_cloth pm_Piece_cloth cd_Piece_cloth ct_Piece_cloth : Value}
    {f_Piece_told : Addr} {od_Piece_told an_Piece_told : Option Addr} {sl_Piece_told : Array (Option Value)} {oc_Piece_told kV_Piece_told dc_Piece_told pm_Piece_told cd_Piece_told ct_Piece_told : Value}
    {f_Twill___init__ : Addr} {od_Twill___init__ an_Twill___init__ : Option Addr} {sl_Twill___init__ : Array (Option Value)} {oc_Twill___init__ kV_Twill___init__ dc_Twill___init__ pm_Twill___init__ cd_Twill___init__ ct_Twill___init__ : Value}
    {f_Satin___init__ : Addr} {od_Satin___init__ an_Satin___init__ : Option Addr} {sl_Satin___init__ : Array (Option Value)} {oc_Satin___init__ kV_Satin___init__ dc_Satin___init__ pm_Satin___init__ cd_Satin___init__ ct_Satin___init__ : Value}
    {f_Reader___init__ : Addr} {od_Reader___init__ an_Reader___init__ : Option Addr} {sl_Reader___init__ : Array (Option Value)} {oc_Reader___init__ kV_Reader___init__ dc_Reader___init__ pm_Reader___init__ cd_Reader___init__ ct_Reader___init__ : Value}
    {f_Reader_ended : Addr} {od_Reader_ended an_Reader_ended : Option Addr} {sl_Reader_ended : Array (Option Value)} {oc_Reader_ended kV_Reader_ended dc_Reader_ended pm_Reader_ended cd_Reader_ended ct_Reader_ended : Value}
    {f_Reader_took : Addr} {od_Reader_took an_Reader_took : Option Addr} {sl_Reader_took : Array (Option Value)} {oc_Reader_took kV_Reader_took dc_Reader_took pm_Reader_took cd_Reader_took ct_Reader_took : Value}
    {f_Reader_stretch : Addr} {od_Reader_stretch an_Reader_stretch : Option Addr} {sl_Reader_stretch : Array (Option Value)} {oc_Reader_stretch kV_Reader_stretch dc_Reader_stretch pm_Reader_stretch cd_Reader_stretch ct_Reader_stretch : Value}
    {f_Reader_number : Addr} {od_Reader_number an_Reader_number : Option Addr} {sl_Reader_number : Array (Option Value)} {oc_Reader_number kV_Reader_number dc_Reader_number pm_Reader_number cd_Reader_number ct_Reader_number : Value}
    {q_THINGS : Addr}
    (X : K.In h) (G : h.Ns mainGlobals mg) (hfa : mg "law" = some (.ref fa))
    (a_check_size : PySem.W.nsIn K mainGlobals "check_size" = some (some (.ref f_check_size)))
    (l_check_size : K.lookup f_check_size = some ⟨oc_check_size, od_check_size, .func (PySem.W.fnOf "check_size" "check_size" (defArgs s_check_size) (defBody s_check_size) (defScope s_check_size) .none kV_check_size dc_check_size pm_check_size an_check_size cd_check_size ct_check_size), sl_check_size⟩)
    (c_check_size : PySem.W.codeIn K cd_check_size "check_size" = true)
    (k_check_size : PySem.W.keepIn K (.ref f_check_size) = true)
    (a_prime_to : PySem.W.nsIn K mainGlobals "prime_to" = some (some (.ref f_prime_to)))
    (l_prime_to : K.lookup f_prime_to = some ⟨oc_prime_to, od_prime_to, .func (PySem.W.fnOf "prime_to" "prime_to" (defArgs s_prime_to) (defBody s_prime_to) (defScope s_prime_to) .none kV_prime_to dc_prime_to pm_prime_to an_prime_to cd_prime_to ct_prime_to), sl_prime_to⟩)
    (c_prime_to : PySem.W.codeIn K cd_prime_to "prime_to" = true)
    (k_prime_to : PySem.W.keepIn K (.ref f_prime_to) = true)
    (a_written : PySem.W.nsIn K mainGlobals "written" = some (some (.ref f_written)))
    (l_written : K.lookup f_written = some ⟨oc_written, od_written, .func (PySem.W.fnOf "written" "written" (defArgs s_written) (defBody s_written) (defScope s_written) .none kV_written dc_written pm_written an_written cd_written ct_written), sl_written⟩)
    (c_written : PySem.W.codeIn K cd_written "written" = true)
    (k_written : PySem.W.keepIn K (.ref f_written) = true)
    (a_number_of : PySem.W.nsIn K mainGlobals "number_of" = some (some (.ref f_number_of)))
    (l_number_of : K.lookup f_number_of = some ⟨oc_number_of, od_number_of, .func (PySem.W.fnOf "number_of" "number_of" (defArgs s_number_of) (defBody s_number_of) (defScope s_number_of) .none kV_number_of dc_number_of pm_number_of an_number_of cd_number_of ct_number_of), sl_number_of⟩)
    (c_number_of : PySem.W.codeIn K cd_number_of "number_of" = true)
    (k_number_of : PySem.W.keepIn K (.ref f_number_of) = true)
    (a_read_pattern : PySem.W.nsIn K mainGlobals "read_pattern" = some (some (.ref f_read_pattern)))
    (l_read_pattern : K.lookup f_read_pattern = some ⟨oc_read_pattern, od_read_pattern, .func (PySem.W.fnOf "read_pattern" "read_pattern" (defArgs s_read_pattern) (defBody s_read_pattern) (defScope s_read_pattern) .none kV_read_pattern dc_read_pattern pm_read_pattern an_read_pattern cd_read_pattern ct_read_pattern), sl_read_pattern⟩)
    (c_read_pattern : PySem.W.codeIn K cd_read_pattern "read_pattern" = true)
    (k_read_pattern : PySem.W.keepIn K (.ref f_read_pattern) = true)
    (a_read_whole : PySem.W.nsIn K mainGlobals "read_whole" = some (some (.ref f_read_whole)))
    (l_read_whole : K.lookup f_read_whole = some ⟨oc_read_whole, od_read_whole, .func (PySem.W.fnOf "read_whole" "read_whole" (defArgs s_read_whole) (defBody s_read_whole) (defScope s_read_whole) .none kV_read_whole dc_read_whole pm_read_whole an_read_whole cd_read_whole ct_read_whole), sl_read_whole⟩)
    (c_read_whole : PySem.W.codeIn K cd_read_whole "read_whole" = true)
    (k_read_whole : PySem.W.keepIn K (.ref f_read_whole) = true)
    (a_read_node : PySem.W.nsIn K mainGlobals "read_node" = some (some (.ref f_read_node)))
    (l_read_node : K.lookup f_read_node = some ⟨oc_read_node, od_read_node, .func (PySem.W.fnOf "read_node" "read_node" (defArgs s_read_node) (defBody s_read_node) (defScope s_read_node) .none kV_read_node dc_read_node pm_read_node an_read_node cd_read_node ct_read_node), sl_read_node⟩)
    (c_read_node : PySem.W.codeIn K cd_read_node "read_node" = true)
    (k_read_node : PySem.W.keepIn K (.ref f_read_node) = true)
    (a_read_things : PySem.W.nsIn K mainGlobals "read_things" = some (some (.ref f_read_things)))
    (l_read_things : K.lookup f_read_things = some ⟨oc_read_things, od_read_things, .func (PySem.W.fnOf "read_things" "read_things" (defArgs s_read_things) (defBody s_read_things) (defScope s_read_things) .none kV_read_things dc_read_things pm_read_things an_read_things cd_read_things ct_read_things), sl_read_things⟩)
    (c_read_things : PySem.W.codeIn K cd_read_things "read_things" = true)
    (k_read_things : PySem.W.keepIn K (.ref f_read_things) = true)
    (a_read_number : PySem.W.nsIn K mainGlobals "read_number" = some (some (.ref f_read_number)))
    (l_read_number : K.lookup f_read_number = some ⟨oc_read_number, od_read_number, .func (PySem.W.fnOf "read_number" "read_number" (defArgs s_read_number) (defBody s_read_number) (defScope s_read_number) .none kV_read_number dc_read_number pm_read_number an_read_number cd_read_number ct_read_number), sl_read_number⟩)
    (c_read_number : PySem.W.codeIn K cd_read_number "read_number" = true)
    (k_read_number : PySem.W.keepIn K (.ref f_read_number) = true)
    (a_read_comma : PySem.W.nsIn K mainGlobals "read_comma" = some (some (.ref f_read_comma)))
    (l_read_comma : K.lookup f_read_comma = some ⟨oc_read_comma, od_read_comma, .func (PySem.W.fnOf "read_comma" "read_comma" (defArgs s_read_comma) (defBody s_read_comma) (defScope s_read_comma) .none kV_read_comma dc_read_comma pm_read_comma an_read_comma cd_read_comma ct_read_comma), sl_read_comma⟩)
    (c_read_comma : PySem.W.codeIn K cd_read_comma "read_comma" = true)
    (k_read_comma : PySem.W.keepIn K (.ref f_read_comma) = true)
    (a_worked_out : PySem.W.nsIn K mainGlobals "worked_out" = some (some (.ref f_worked_out)))
    (l_worked_out : K.lookup f_worked_out = some ⟨oc_worked_out, od_worked_out, .func (PySem.W.fnOf "worked_out" "worked_out" (defArgs s_worked_out) (defBody s_worked_out) (defScope s_worked_out) .none kV_worked_out dc_worked_out pm_worked_out an_worked_out cd_worked_out ct_worked_out), sl_worked_out⟩)
    (c_worked_out : PySem.W.codeIn K cd_worked_out "worked_out" = true)
    (k_worked_out : PySem.W.keepIn K (.ref f_worked_out) = true)
    (a_made_of_two : PySem.W.nsIn K mainGlobals "made_of_two" = some (some (.ref f_made_of_two)))
    (l_made_of_two : K.lookup f_made_of_two = some ⟨oc_made_of_two, od_made_of_two, .func (PySem.W.fnOf "made_of_two" "made_of_two" (defArgs s_made_of_two) (defBody s_made_of_two) (defScope s_made_of_two) .none kV_made_of_two dc_made_of_two pm_made_of_two an_made_of_two cd_made_of_two ct_made_of_two), sl_made_of_two⟩)
    (c_made_of_two : PySem.W.codeIn K cd_made_of_two "made_of_two" = true)
    (k_made_of_two : PySem.W.keepIn K (.ref f_made_of_two) = true)
    (a_law_whole : PySem.W.nsIn K mainGlobals "_law_whole" = some (some (.ref f_law_whole)))
    (l_law_whole : K.lookup f_law_whole = some ⟨oc_law_whole, od_law_whole, .func (PySem.W.fnOf "_law_whole" "_law_whole" (defArgs s_law_whole) (defBody s_law_whole) (defScope s_law_whole) .none kV_law_whole dc_law_whole pm_law_whole an_law_whole cd_law_whole ct_law_whole), sl_law_whole⟩)
    (c_law_whole : PySem.W.codeIn K cd_law_whole "_law_whole" = true)
    (k_law_whole : PySem.W.keepIn K (.ref f_law_whole) = true)
    (a_law_numbers : PySem.W.nsIn K mainGlobals "_law_numbers" = some (some (.ref f_law_numbers)))
    (l_law_numbers : K.lookup f_law_numbers = some ⟨oc_law_numbers, od_law_numbers, .func (PySem.W.fnOf "_law_numbers" "_law_numbers" (defArgs s_law_numbers) (defBody s_law_numbers) (defScope s_law_numbers) .none kV_law_numbers dc_law_numbers pm_law_numbers an_law_numbers cd_law_numbers ct_law_numbers), sl_law_numbers⟩)
    (c_law_numbers : PySem.W.codeIn K cd_law_numbers "_law_numbers" = true)
    (k_law_numbers : PySem.W.keepIn K (.ref f_law_numbers) = true)
    (a_law_common : PySem.W.nsIn K mainGlobals "_law_common" = some (some (.ref f_law_common)))
    (l_law_common : K.lookup f_law_common = some ⟨oc_law_common, od_law_common, .func (PySem.W.fnOf "_law_common" "_law_common" (defArgs s_law_common) (defBody s_law_common) (defScope s_law_common) .none kV_law_common dc_law_common pm_law_common an_law_common cd_law_common ct_law_common), sl_law_common⟩)
    (c_law_common : PySem.W.codeIn K cd_law_common "_law_common" = true)
    (k_law_common : PySem.W.keepIn K (.ref f_law_common) = true)
    (a_law_due : PySem.W.nsIn K mainGlobals "_law_due" = some (some (.ref f_law_due)))
    (l_law_due : K.lookup f_law_due = some ⟨oc_law_due, od_law_due, .func (PySem.W.fnOf "_law_due" "_law_due" (defArgs s_law_due) (defBody s_law_due) (defScope s_law_due) .none kV_law_due dc_law_due pm_law_due an_law_due cd_law_due ct_law_due), sl_law_due⟩)
    (c_law_due : PySem.W.codeIn K cd_law_due "_law_due" = true)
    (k_law_due : PySem.W.keepIn K (.ref f_law_due) = true)
    (a_law_up : PySem.W.nsIn K mainGlobals "_law_up" = some (some (.ref f_law_up)))
    (l_law_up : K.lookup f_law_up = some ⟨oc_law_up, od_law_up, .func (PySem.W.fnOf "_law_up" "_law_up" (defArgs s_law_up) (defBody s_law_up) (defScope s_law_up) .none kV_law_up dc_law_up pm_law_up an_law_up cd_law_up ct_law_up), sl_law_up⟩)
    (c_law_up : PySem.W.codeIn K cd_law_up "_law_up" = true)
    (k_law_up : PySem.W.keepIn K (.ref f_law_up) = true)
    (a_law_rows : PySem.W.nsIn K mainGlobals "_law_rows" = some (some (.ref f_law_rows)))
    (l_law_rows : K.lookup f_law_rows = some ⟨oc_law_rows, od_law_rows, .func (PySem.W.fnOf "_law_rows" "_law_rows" (defArgs s_law_rows) (defBody s_law_rows) (defScope s_law_rows) .none kV_law_rows dc_law_rows pm_law_rows an_law_rows cd_law_rows ct_law_rows), sl_law_rows⟩)
    (c_law_rows : PySem.W.codeIn K cd_law_rows "_law_rows" = true)
    (k_law_rows : PySem.W.keepIn K (.ref f_law_rows) = true)
    (a_law_refused : PySem.W.nsIn K mainGlobals "_law_refused" = some (some (.ref f_law_refused)))
    (l_law_refused : K.lookup f_law_refused = some ⟨oc_law_refused, od_law_refused, .func (PySem.W.fnOf "_law_refused" "_law_refused" (defArgs s_law_refused) (defBody s_law_refused) (defScope s_law_refused) .none kV_law_refused dc_law_refused pm_law_refused an_law_refused cd_law_refused ct_law_refused), sl_law_refused⟩)
    (c_law_refused : PySem.W.codeIn K cd_law_refused "_law_refused" = true)
    (k_law_refused : PySem.W.keepIn K (.ref f_law_refused) = true)
    (a_law_right : PySem.W.nsIn K mainGlobals "_law_right" = some (some (.ref f_law_right)))
    (l_law_right : K.lookup f_law_right = some ⟨oc_law_right, od_law_right, .func (PySem.W.fnOf "_law_right" "_law_right" (defArgs s_law_right) (defBody s_law_right) (defScope s_law_right) .none kV_law_right dc_law_right pm_law_right an_law_right cd_law_right ct_law_right), sl_law_right⟩)
    (c_law_right : PySem.W.codeIn K cd_law_right "_law_right" = true)
    (k_law_right : PySem.W.keepIn K (.ref f_law_right) = true)
    (a_law : PySem.W.nsIn K mainGlobals "law" = some (some (.ref f_law)))
    (l_law : K.lookup f_law = some ⟨oc_law, od_law, .func (PySem.W.fnOf "law" "law" (defArgs s_law) (defBody s_law) (defScope s_law) .none kV_law dc_law pm_law an_law cd_law ct_law), sl_law⟩)
    (c_law : PySem.W.codeIn K cd_law "law" = true)
    (k_law : PySem.W.keepIn K (.ref f_law) = true)
    (z_ValueError : PySem.W.nsIn K mainGlobals "ValueError" = some none)
    (z_all : PySem.W.nsIn K mainGlobals "all" = some none)
    (z_any : PySem.W.nsIn K mainGlobals "any" = some none)
    (z_bool : PySem.W.nsIn K mainGlobals "bool" = some none)
    (z_enumerate : PySem.W.nsIn K mainGlobals "enumerate" = some none)
    (z_int : PySem.W.nsIn K mainGlobals "int" = some none)
    (z_isinstance : PySem.W.nsIn K mainGlobals "isinstance" = some none)
    (z_len : PySem.W.nsIn K mainGlobals "len" = some none)
    (z_list : PySem.W.nsIn K mainGlobals "list" = some none)
    (z_range : PySem.W.nsIn K mainGlobals "range" = some none)
    (z_reversed : PySem.W.nsIn K mainGlobals "reversed" = some none)
    (z_str : PySem.W.nsIn K mainGlobals "str" = some none)
    (z_tuple : PySem.W.nsIn K mainGlobals "tuple" = some none)
    (z_zip : PySem.W.nsIn K mainGlobals "zip" = some none)
    (x_LETTERS : PySem.W.nsIn K mainGlobals "LETTERS" = some (some (.str "abcdefghijklmnopqrstuvwxyz" q_LETTERS)))
    (x_MOST_LETTERS : PySem.W.nsIn K mainGlobals "MOST_LETTERS" = some (some (.int 20 q_MOST_LETTERS)))
    (x_MOST_STRANDS : PySem.W.nsIn K mainGlobals "MOST_STRANDS" = some (some (.int 40 q_MOST_STRANDS)))
    (x_FIGURES : PySem.W.nsIn K mainGlobals "FIGURES" = some (some (.str "0123456789" q_FIGURES)))
    (x_MOST_DEEP : PySem.W.nsIn K mainGlobals "MOST_DEEP" = some (some (.int 12 q_MOST_DEEP)))
    (x_MOST_RUNS : PySem.W.nsIn K mainGlobals "MOST_RUNS" = some (some (.int 40 q_MOST_RUNS)))
    (n_WeaveError : PySem.W.nsIn K mainGlobals "WeaveError" = some (some (.ref e_WeaveError)))
    (n_TooLarge : PySem.W.nsIn K mainGlobals "TooLarge" = some (some (.ref e_TooLarge)))
    (n_NoCloth : PySem.W.nsIn K mainGlobals "NoCloth" = some (some (.ref e_NoCloth)))
    (n_NoLaying : PySem.W.nsIn K mainGlobals "NoLaying" = some (some (.ref e_NoLaying)))
    (n_NoBlock : PySem.W.nsIn K mainGlobals "NoBlock" = some (some (.ref e_NoBlock)))
    (n_NoPattern : PySem.W.nsIn K mainGlobals "NoPattern" = some (some (.ref e_NoPattern)))
    (n_Unknown : PySem.W.nsIn K mainGlobals "Unknown" = some (some (.ref e_Unknown)))
    (y1_WeaveError : PySem.W.excIn K e_WeaveError vE vN = true)
    (y2_WeaveError : PySem.W.findIn K (.ref e_WeaveError) "__getattribute__" = some (some (.builtin "BaseException.__getattribute__")))
    (y3_WeaveError : PySem.W.findIn K (.ref e_WeaveError) "__getattr__" = some none)
    (y4_WeaveError : PySem.W.findIn K (.ref e_WeaveError) "__class__" = some (some (.builtin "object.__class__")))
    (y5_WeaveError : PySem.W.specialIn K (.builtin "object.__class__") "__get__" = some (some (.builtin "getset_descriptor.__get__")))
    (y6_WeaveError : PySem.W.takesIn K (.builtin "object.__class__") = some true)
    (y7_WeaveError : PySem.W.mroIn K e_WeaveError (.type "object") = some true)
    (y8_WeaveError : PySem.W.mroIn K e_WeaveError (.type "BaseException") = some true)
    (y9_WeaveError : PySem.W.isClsIn K e_WeaveError = true)
    (y10_WeaveError : PySem.W.typeIn K (.ref e_WeaveError) = some (.type "type"))
    (y11_WeaveError : PySem.W.mroIn K e_WeaveError (.type "ValueError") = some true)
    (y1_TooLarge : PySem.W.excIn K e_TooLarge vE vN = true)
    (y2_TooLarge : PySem.W.findIn K (.ref e_TooLarge) "__getattribute__" = some (some (.builtin "BaseException.__getattribute__")))
    (y3_TooLarge : PySem.W.findIn K (.ref e_TooLarge) "__getattr__" = some none)
    (y4_TooLarge : PySem.W.findIn K (.ref e_TooLarge) "__class__" = some (some (.builtin "object.__class__")))
    (y7_TooLarge : PySem.W.mroIn K e_TooLarge (.type "object") = some true)
    (y8_TooLarge : PySem.W.mroIn K e_TooLarge (.type "BaseException") = some true)
    (y9_TooLarge : PySem.W.isClsIn K e_TooLarge = true)
    (y10_TooLarge : PySem.W.typeIn K (.ref e_TooLarge) = some (.type "type"))
    (y11_TooLarge : PySem.W.mroIn K e_TooLarge (.type "ValueError") = some true)
    (r_TooLarge_WeaveError : PySem.W.mroIn K e_TooLarge (.ref e_WeaveError) = some true)
    (r_TooLarge_TooLarge : PySem.W.mroIn K e_TooLarge (.ref e_TooLarge) = some true)
    (r_TooLarge_NoCloth : PySem.W.mroIn K e_TooLarge (.ref e_NoCloth) = some false)
    (r_TooLarge_NoLaying : PySem.W.mroIn K e_TooLarge (.ref e_NoLaying) = some false)
    (r_TooLarge_NoBlock : PySem.W.mroIn K e_TooLarge (.ref e_NoBlock) = some false)
    (r_TooLarge_NoPattern : PySem.W.mroIn K e_TooLarge (.ref e_NoPattern) = some false)
    (r_TooLarge_Unknown : PySem.W.mroIn K e_TooLarge (.ref e_Unknown) = some false)
    (y1_NoCloth : PySem.W.excIn K e_NoCloth vE vN = true)
    (y2_NoCloth : PySem.W.findIn K (.ref e_NoCloth) "__getattribute__" = some (some (.builtin "BaseException.__getattribute__")))
    (y3_NoCloth : PySem.W.findIn K (.ref e_NoCloth) "__getattr__" = some none)
    (y4_NoCloth : PySem.W.findIn K (.ref e_NoCloth) "__class__" = some (some (.builtin "object.__class__")))
    (y7_NoCloth : PySem.W.mroIn K e_NoCloth (.type "object") = some true)
    (y8_NoCloth : PySem.W.mroIn K e_NoCloth (.type "BaseException") = some true)
    (y9_NoCloth : PySem.W.isClsIn K e_NoCloth = true)
    (y10_NoCloth : PySem.W.typeIn K (.ref e_NoCloth) = some (.type "type"))
    (y11_NoCloth : PySem.W.mroIn K e_NoCloth (.type "ValueError") = some true)
    (y1_NoLaying : PySem.W.excIn K e_NoLaying vE vN = true)
    (y2_NoLaying : PySem.W.findIn K (.ref e_NoLaying) "__getattribute__" = some (some (.builtin "BaseException.__getattribute__")))
    (y3_NoLaying : PySem.W.findIn K (.ref e_NoLaying) "__getattr__" = some none)
    (y4_NoLaying : PySem.W.findIn K (.ref e_NoLaying) "__class__" = some (some (.builtin "object.__class__")))
    (y7_NoLaying : PySem.W.mroIn K e_NoLaying (.type "object") = some true)
    (y8_NoLaying : PySem.W.mroIn K e_NoLaying (.type "BaseException") = some true)
    (y9_NoLaying : PySem.W.isClsIn K e_NoLaying = true)
    (y10_NoLaying : PySem.W.typeIn K (.ref e_NoLaying) = some (.type "type"))
    (y11_NoLaying : PySem.W.mroIn K e_NoLaying (.type "ValueError") = some true)
    (y1_NoBlock : PySem.W.excIn K e_NoBlock vE vN = true)
    (y2_NoBlock : PySem.W.findIn K (.ref e_NoBlock) "__getattribute__" = some (some (.builtin "BaseException.__getattribute__")))
    (y3_NoBlock : PySem.W.findIn K (.ref e_NoBlock) "__getattr__" = some none)
    (y4_NoBlock : PySem.W.findIn K (.ref e_NoBlock) "__class__" = some (some (.builtin "object.__class__")))
    (y7_NoBlock : PySem.W.mroIn K e_NoBlock (.type "object") = some true)
    (y8_NoBlock : PySem.W.mroIn K e_NoBlock (.type "BaseException") = some true)
    (y9_NoBlock : PySem.W.isClsIn K e_NoBlock = true)
    (y10_NoBlock : PySem.W.typeIn K (.ref e_NoBlock) = some (.type "type"))
    (y11_NoBlock : PySem.W.mroIn K e_NoBlock (.type "ValueError") = some true)
    (y1_NoPattern : PySem.W.excIn K e_NoPattern vE vN = true)
    (y2_NoPattern : PySem.W.findIn K (.ref e_NoPattern) "__getattribute__" = some (some (.builtin "BaseException.__getattribute__")))
    (y3_NoPattern : PySem.W.findIn K (.ref e_NoPattern) "__getattr__" = some none)
    (y4_NoPattern : PySem.W.findIn K (.ref e_NoPattern) "__class__" = some (some (.builtin "object.__class__")))
    (y7_NoPattern : PySem.W.mroIn K e_NoPattern (.type "object") = some true)
    (y8_NoPattern : PySem.W.mroIn K e_NoPattern (.type "BaseException") = some true)
    (y9_NoPattern : PySem.W.isClsIn K e_NoPattern = true)
    (y10_NoPattern : PySem.W.typeIn K (.ref e_NoPattern) = some (.type "type"))
    (y11_NoPattern : PySem.W.mroIn K e_NoPattern (.type "ValueError") = some true)
    (r_NoPattern_WeaveError : PySem.W.mroIn K e_NoPattern (.ref e_WeaveError) = some true)
    (r_NoPattern_TooLarge : PySem.W.mroIn K e_NoPattern (.ref e_TooLarge) = some false)
    (r_NoPattern_NoCloth : PySem.W.mroIn K e_NoPattern (.ref e_NoCloth) = some false)
    (r_NoPattern_NoLaying : PySem.W.mroIn K e_NoPattern (.ref e_NoLaying) = some false)
    (r_NoPattern_NoBlock : PySem.W.mroIn K e_NoPattern (.ref e_NoBlock) = some false)
    (r_NoPattern_NoPattern : PySem.W.mroIn K e_NoPattern (.ref e_NoPattern) = some true)
    (r_NoPattern_Unknown : PySem.W.mroIn K e_NoPattern (.ref e_Unknown) = some false)
    (y1_Unknown : PySem.W.excIn K e_Unknown vE vN = true)
    (y2_Unknown : PySem.W.findIn K (.ref e_Unknown) "__getattribute__" = some (some (.builtin "BaseException.__getattribute__")))
    (y3_Unknown : PySem.W.findIn K (.ref e_Unknown) "__getattr__" = some none)
    (y4_Unknown : PySem.W.findIn K (.ref e_Unknown) "__class__" = some (some (.builtin "object.__class__")))
    (y7_Unknown : PySem.W.mroIn K e_Unknown (.type "object") = some true)
    (y8_Unknown : PySem.W.mroIn K e_Unknown (.type "BaseException") = some true)
    (y9_Unknown : PySem.W.isClsIn K e_Unknown = true)
    (y10_Unknown : PySem.W.typeIn K (.ref e_Unknown) = some (.type "type"))
    (y11_Unknown : PySem.W.mroIn K e_Unknown (.type "ValueError") = some true)
    (fm_TooLarge : PySem.W.findIn K (.ref e_TooLarge) "called" = some (some (.ref f_TooLarge_called)))
    (gm_TooLarge : PySem.W.isFn K (.ref f_TooLarge_called) = true)
    (lm_TooLarge : K.lookup f_TooLarge_called = some ⟨oc_TooLarge_called, od_TooLarge_called, .func (PySem.W.fnOf "called" "TooLarge.called" (defArgs s_TooLarge_called) (defBody s_TooLarge_called) (defScope s_TooLarge_called) .none kV_TooLarge_called dc_TooLarge_called pm_TooLarge_called an_TooLarge_called cd_TooLarge_called ct_TooLarge_called), sl_TooLarge_called⟩)
    (cm_TooLarge : PySem.W.codeIn K cd_TooLarge_called "TooLarge.called" = true)
    (km_TooLarge : PySem.W.keepIn K (.ref f_TooLarge_called) = true)
    (fm_NoPattern : PySem.W.findIn K (.ref e_NoPattern) "called" = some (some (.ref f_NoPattern_called)))
    (gm_NoPattern : PySem.W.isFn K (.ref f_NoPattern_called) = true)
    (lm_NoPattern : K.lookup f_NoPattern_called = some ⟨oc_NoPattern_called, od_NoPattern_called, .func (PySem.W.fnOf "called" "NoPattern.called" (defArgs s_NoPattern_called) (defBody s_NoPattern_called) (defScope s_NoPattern_called) .none kV_NoPattern_called dc_NoPattern_called pm_NoPattern_called an_NoPattern_called cd_NoPattern_called ct_NoPattern_called), sl_NoPattern_called⟩)
    (cm_NoPattern : PySem.W.codeIn K cd_NoPattern_called "NoPattern.called" = true)
    (km_NoPattern : PySem.W.keepIn K (.ref f_NoPattern_called) = true)
    (n_Piece : PySem.W.nsIn K mainGlobals "Piece" = some (some (.ref e_Piece)))
    (n_Twill : PySem.W.nsIn K mainGlobals "Twill" = some (some (.ref e_Twill)))
    (n_Satin : PySem.W.nsIn K mainGlobals "Satin" = some (some (.ref e_Satin)))
    (n_Reader : PySem.W.nsIn K mainGlobals "Reader" = some (some (.ref e_Reader)))
    (fm_Piece___init__ : PySem.W.findIn K (.ref e_Piece) "__init__" = some (some (.ref f_Piece___init__)))
    (gm_Piece___init__ : PySem.W.isFn K (.ref f_Piece___init__) = true)
    (lm_Piece___init__ : K.lookup f_Piece___init__ = some ⟨oc_Piece___init__, od_Piece___init__, .func (PySem.W.fnOf "__init__" "Piece.__init__" (defArgs s_Piece___init__) (defBody s_Piece___init__) (defScope s_Piece___init__) .none kV_Piece___init__ dc_Piece___init__ pm_Piece___init__ an_Piece___init__ cd_Piece___init__ ct_Piece___init__), sl_Piece___init__⟩)
    (cm_Piece___init__ : PySem.W.codeIn K cd_Piece___init__ "Piece.__init__" = true)
    (km_Piece___init__ : PySem.W.keepIn K (.ref f_Piece___init__) = true)
    (fm_Piece_wide : PySem.W.findIn K (.ref e_Piece) "wide" = some (some (.ref f_Piece_wide)))
    (gm_Piece_wide : PySem.W.isFn K (.ref f_Piece_wide) = true)
    (lm_Piece_wide : K.lookup f_Piece_wide = some ⟨oc_Piece_wide, od_Piece_wide, .func (PySem.W.fnOf "wide" "Piece.wide" (defArgs s_Piece_wide) (defBody s_Piece_wide) (defScope s_Piece_wide) .none kV_Piece_wide dc_Piece_wide pm_Piece_wide an_Piece_wide cd_Piece_wide ct_Piece_wide), sl_Piece_wide⟩)
    (cm_Piece_wide : PySem.W.codeIn K cd_Piece_wide "Piece.wide" = true)
    (km_Piece_wide : PySem.W.keepIn K (.ref f_Piece_wide) = true)
    (fm_Piece_high : PySem.W.findIn K (.ref e_Piece) "high" = some (some (.ref f_Piece_high)))
    (gm_Piece_high : PySem.W.isFn K (.ref f_Piece_high) = true)
    (lm_Piece_high : K.lookup f_Piece_high = some ⟨oc_Piece_high, od_Piece_high, .func (PySem.W.fnOf "high" "Piece.high" (defArgs s_Piece_high) (defBody s_Piece_high) (defScope s_Piece_high) .none kV_Piece_high dc_Piece_high pm_Piece_high an_Piece_high cd_Piece_high ct_Piece_high), sl_Piece_high⟩)
    (cm_Piece_high : PySem.W.codeIn K cd_Piece_high "Piece.high" = true)
    (km_Piece_high : PySem.W.keepIn K (.ref f_Piece_high) = true)
    (fm_Piece_sign : PySem.W.findIn K (.ref e_Piece) "sign" = some (some (.ref f_Piece_sign)))
    (gm_Piece_sign : PySem.W.isFn K (.ref f_Piece_sign) = true)
    (lm_Piece_sign : K.lookup f_Piece_sign = some ⟨oc_Piece_sign, od_Piece_sign, .func (PySem.W.fnOf "sign" "Piece.sign" (defArgs s_Piece_sign) (defBody s_Piece_sign) (defScope s_Piece_sign) .none kV_Piece_sign dc_Piece_sign pm_Piece_sign an_Piece_sign cd_Piece_sign ct_Piece_sign), sl_Piece_sign⟩)
    (cm_Piece_sign : PySem.W.codeIn K cd_Piece_sign "Piece.sign" = true)
    (km_Piece_sign : PySem.W.keepIn K (.ref f_Piece_sign) = true)
    (fm_Piece_cloth : PySem.W.findIn K (.ref e_Piece) "cloth" = some (some (.ref f_Piece_cloth)))
    (gm_Piece_cloth : PySem.W.isFn K (.ref f_Piece_cloth) = true)
    (lm_Piece_cloth : K.lookup f_Piece_cloth = some ⟨oc_Piece_cloth, od_Piece_cloth, .func (PySem.W.fnOf "cloth" "Piece.cloth" (defArgs s_Piece_cloth) (defBody s_Piece_cloth) (defScope s_Piece_cloth) .none kV_Piece_cloth dc_Piece_cloth pm_Piece_cloth an_Piece_cloth cd_Piece_cloth ct_Piece_cloth), sl_Piece_cloth⟩)
    (cm_Piece_cloth : PySem.W.codeIn K cd_Piece_cloth "Piece.cloth" = true)
    (km_Piece_cloth : PySem.W.keepIn K (.ref f_Piece_cloth) = true)
    (fm_Piece_told : PySem.W.findIn K (.ref e_Piece) "told" = some (some (.ref f_Piece_told)))
    (gm_Piece_told : PySem.W.isFn K (.ref f_Piece_told) = true)
    (lm_Piece_told : K.lookup f_Piece_told = some ⟨oc_Piece_told, od_Piece_told, .func (PySem.W.fnOf "told" "Piece.told" (defArgs s_Piece_told) (defBody s_Piece_told) (defScope s_Piece_told) .none kV_Piece_told dc_Piece_told pm_Piece_told an_Piece_told cd_Piece_told ct_Piece_told), sl_Piece_told⟩)
    (cm_Piece_told : PySem.W.codeIn K cd_Piece_told "Piece.told" = true)
    (km_Piece_told : PySem.W.keepIn K (.ref f_Piece_told) = true)
    (fm_Twill___init__ : PySem.W.findIn K (.ref e_Twill) "__init__" = some (some (.ref f_Twill___init__)))
    (gm_Twill___init__ : PySem.W.isFn K (.ref f_Twill___init__) = true)
    (lm_Twill___init__ : K.lookup f_Twill___init__ = some ⟨oc_Twill___init__, od_Twill___init__, .func (PySem.W.fnOf "__init__" "Twill.__init__" (defArgs s_Twill___init__) (defBody s_Twill___init__) (defScope s_Twill___init__) .none kV_Twill___init__ dc_Twill___init__ pm_Twill___init__ an_Twill___init__ cd_Twill___init__ ct_Twill___init__), sl_Twill___init__⟩)
    (cm_Twill___init__ : PySem.W.codeIn K cd_Twill___init__ "Twill.__init__" = true)
    (km_Twill___init__ : PySem.W.keepIn K (.ref f_Twill___init__) = true)
    (fm_Satin___init__ : PySem.W.findIn K (.ref e_Satin) "__init__" = some (some (.ref f_Satin___init__)))
    (gm_Satin___init__ : PySem.W.isFn K (.ref f_Satin___init__) = true)
    (lm_Satin___init__ : K.lookup f_Satin___init__ = some ⟨oc_Satin___init__, od_Satin___init__, .func (PySem.W.fnOf "__init__" "Satin.__init__" (defArgs s_Satin___init__) (defBody s_Satin___init__) (defScope s_Satin___init__) .none kV_Satin___init__ dc_Satin___init__ pm_Satin___init__ an_Satin___init__ cd_Satin___init__ ct_Satin___init__), sl_Satin___init__⟩)
    (cm_Satin___init__ : PySem.W.codeIn K cd_Satin___init__ "Satin.__init__" = true)
    (km_Satin___init__ : PySem.W.keepIn K (.ref f_Satin___init__) = true)
    (fm_Reader___init__ : PySem.W.findIn K (.ref e_Reader) "__init__" = some (some (.ref f_Reader___init__)))
    (gm_Reader___init__ : PySem.W.isFn K (.ref f_Reader___init__) = true)
    (lm_Reader___init__ : K.lookup f_Reader___init__ = some ⟨oc_Reader___init__, od_Reader___init__, .func (PySem.W.fnOf "__init__" "Reader.__init__" (defArgs s_Reader___init__) (defBody s_Reader___init__) (defScope s_Reader___init__) .none kV_Reader___init__ dc_Reader___init__ pm_Reader___init__ an_Reader___init__ cd_Reader___init__ ct_Reader___init__), sl_Reader___init__⟩)
    (cm_Reader___init__ : PySem.W.codeIn K cd_Reader___init__ "Reader.__init__" = true)
    (km_Reader___init__ : PySem.W.keepIn K (.ref f_Reader___init__) = true)
    (fm_Reader_ended : PySem.W.findIn K (.ref e_Reader) "ended" = some (some (.ref f_Reader_ended)))
    (gm_Reader_ended : PySem.W.isFn K (.ref f_Reader_ended) = true)
    (lm_Reader_ended : K.lookup f_Reader_ended = some ⟨oc_Reader_ended, od_Reader_ended, .func (PySem.W.fnOf "ended" "Reader.ended" (defArgs s_Reader_ended) (defBody s_Reader_ended) (defScope s_Reader_ended) .none kV_Reader_ended dc_Reader_ended pm_Reader_ended an_Reader_ended cd_Reader_ended ct_Reader_ended), sl_Reader_ended⟩)
    (cm_Reader_ended : PySem.W.codeIn K cd_Reader_ended "Reader.ended" = true)
    (km_Reader_ended : PySem.W.keepIn K (.ref f_Reader_ended) = true)
    (fm_Reader_took : PySem.W.findIn K (.ref e_Reader) "took" = some (some (.ref f_Reader_took)))
    (gm_Reader_took : PySem.W.isFn K (.ref f_Reader_took) = true)
    (lm_Reader_took : K.lookup f_Reader_took = some ⟨oc_Reader_took, od_Reader_took, .func (PySem.W.fnOf "took" "Reader.took" (defArgs s_Reader_took) (defBody s_Reader_took) (defScope s_Reader_took) .none kV_Reader_took dc_Reader_took pm_Reader_took an_Reader_took cd_Reader_took ct_Reader_took), sl_Reader_took⟩)
    (cm_Reader_took : PySem.W.codeIn K cd_Reader_took "Reader.took" = true)
    (km_Reader_took : PySem.W.keepIn K (.ref f_Reader_took) = true)
    (fm_Reader_stretch : PySem.W.findIn K (.ref e_Reader) "stretch" = some (some (.ref f_Reader_stretch)))
    (gm_Reader_stretch : PySem.W.isFn K (.ref f_Reader_stretch) = true)
    (lm_Reader_stretch : K.lookup f_Reader_stretch = some ⟨oc_Reader_stretch, od_Reader_stretch, .func (PySem.W.fnOf "stretch" "Reader.stretch" (defArgs s_Reader_stretch) (defBody s_Reader_stretch) (defScope s_Reader_stretch) .none kV_Reader_stretch dc_Reader_stretch pm_Reader_stretch an_Reader_stretch cd_Reader_stretch ct_Reader_stretch), sl_Reader_stretch⟩)
    (cm_Reader_stretch : PySem.W.codeIn K cd_Reader_stretch "Reader.stretch" = true)
    (km_Reader_stretch : PySem.W.keepIn K (.ref f_Reader_stretch) = true)
    (fm_Reader_number : PySem.W.findIn K (.ref e_Reader) "number" = some (some (.ref f_Reader_number)))
    (gm_Reader_number : PySem.W.isFn K (.ref f_Reader_number) = true)
    (lm_Reader_number : K.lookup f_Reader_number = some ⟨oc_Reader_number, od_Reader_number, .func (PySem.W.fnOf "number" "Reader.number" (defArgs s_Reader_number) (defBody s_Reader_number) (defScope s_Reader_number) .none kV_Reader_number dc_Reader_number pm_Reader_number an_Reader_number cd_Reader_number ct_Reader_number), sl_Reader_number⟩)
    (cm_Reader_number : PySem.W.codeIn K cd_Reader_number "Reader.number" = true)
    (km_Reader_number : PySem.W.keepIn K (.ref f_Reader_number) = true)
    (im_Twill_wide : PySem.W.findIn K (.ref e_Twill) "wide" = some (some (.ref f_Piece_wide)))
    (im_Twill_high : PySem.W.findIn K (.ref e_Twill) "high" = some (some (.ref f_Piece_high)))
    (im_Twill_sign : PySem.W.findIn K (.ref e_Twill) "sign" = some (some (.ref f_Piece_sign)))
    (im_Twill_cloth : PySem.W.findIn K (.ref e_Twill) "cloth" = some (some (.ref f_Piece_cloth)))
    (im_Twill_told : PySem.W.findIn K (.ref e_Twill) "told" = some (some (.ref f_Piece_told)))
    (im_Satin_wide : PySem.W.findIn K (.ref e_Satin) "wide" = some (some (.ref f_Piece_wide)))
    (im_Satin_high : PySem.W.findIn K (.ref e_Satin) "high" = some (some (.ref f_Piece_high)))
    (im_Satin_sign : PySem.W.findIn K (.ref e_Satin) "sign" = some (some (.ref f_Piece_sign)))
    (im_Satin_cloth : PySem.W.findIn K (.ref e_Satin) "cloth" = some (some (.ref f_Piece_cloth)))
    (im_Satin_told : PySem.W.findIn K (.ref e_Satin) "told" = some (some (.ref f_Piece_told)))
    (cf1_Piece : PySem.W.readsIn K e_Piece (.type "type") = true)
    (cf2_Piece : PySem.W.findCls K (.ref e_Piece) (.type "type") "__init__" = some (.val (.ref f_Piece___init__)))
    (cf3_Piece : PySem.W.handedIn (.ref f_Piece___init__) = true)
    (cf4_Piece : PySem.W.specialIn K (.ref e_Piece) "__getattribute__" = some (some (.builtin "type.__getattribute__")))
    (tb0_THINGS : PySem.W.nsIn K mainGlobals "THINGS" = some (some (.ref q_THINGS)))
    (tb1_THINGS : PyProof.Rows.KTD.tabLook (PyProof.Rows.KTD.datLooks fun b => K.lookup b) (fun b => K.lookup b) q_THINGS (([("twill", "nn"), ("satin", "nn"), ("beside", "pp"), ("above", "pp"), ("mirror", "p"), ("upend", "p"), ("back", "p"), ("quarter", "p"), ("tile", "pnn"), ("blocks", "ppp"), ("lay", "pp")] : List (Str × Str)).map fun p => (p.1, PyProof.Rows.KTD.Dat.flat (.str p.2))) = true)
    (o1_Piece : PySem.W.plainGet K e_Piece Str.empty = true)
    (o2_Piece : PySem.W.hasDictIn K e_Piece = true)
    (o3_Piece : PySem.W.plainOver K e_Piece = true)
    (o4_Piece : PySem.W.findIn K (.ref e_Piece) "__setattr__" = some (some (.builtin "object.__setattr__")))
    (o5_Piece : PySem.W.makesIn K e_Piece = true)
    (o8_Piece : PySem.W.keepIn K (.ref e_Piece) = true)
    (na_Piece_texts : PySem.W.findIn K (.ref e_Piece) "texts" = some none)
    (na_Piece_writing : PySem.W.findIn K (.ref e_Piece) "writing" = some none)
    (o1_Twill : PySem.W.plainGet K e_Twill Str.empty = true)
    (o2_Twill : PySem.W.hasDictIn K e_Twill = true)
    (o3_Twill : PySem.W.plainOver K e_Twill = true)
    (o4_Twill : PySem.W.findIn K (.ref e_Twill) "__setattr__" = some (some (.builtin "object.__setattr__")))
    (o5_Twill : PySem.W.makesIn K e_Twill = true)
    (o8_Twill : PySem.W.keepIn K (.ref e_Twill) = true)
    (na_Twill_texts : PySem.W.findIn K (.ref e_Twill) "texts" = some none)
    (na_Twill_writing : PySem.W.findIn K (.ref e_Twill) "writing" = some none)
    (o1_Satin : PySem.W.plainGet K e_Satin Str.empty = true)
    (o2_Satin : PySem.W.hasDictIn K e_Satin = true)
    (o3_Satin : PySem.W.plainOver K e_Satin = true)
    (o4_Satin : PySem.W.findIn K (.ref e_Satin) "__setattr__" = some (some (.builtin "object.__setattr__")))
    (o5_Satin : PySem.W.makesIn K e_Satin = true)
    (o8_Satin : PySem.W.keepIn K (.ref e_Satin) = true)
    (na_Satin_texts : PySem.W.findIn K (.ref e_Satin) "texts" = some none)
    (na_Satin_writing : PySem.W.findIn K (.ref e_Satin) "writing" = some none)
    (o1_Reader : PySem.W.plainGet K e_Reader Str.empty = true)
    (o2_Reader : PySem.W.hasDictIn K e_Reader = true)
    (o3_Reader : PySem.W.plainOver K e_Reader = true)
    (o4_Reader : PySem.W.findIn K (.ref e_Reader) "__setattr__" = some (some (.builtin "object.__setattr__")))
    (o5_Reader : PySem.W.makesIn K e_Reader = true)
    (o8_Reader : PySem.W.keepIn K (.ref e_Reader) = true)
    (na_Reader_text : PySem.W.findIn K (.ref e_Reader) "text" = some none)
    (na_Reader_place : PySem.W.findIn K (.ref e_Reader) "place" = some none)
    (v1_Twill : PySem.W.findIn K (.ref e_Twill) "__class__" = some (some (.builtin "object.__class__")))
    (v2_Twill : PySem.W.specialIn K (.builtin "object.__class__") "__get__" = some (some (.builtin "getset_descriptor.__get__")))
    (v3_Twill : PySem.W.takesIn K (.builtin "object.__class__") = some true)
    (v4_Twill : PySem.W.mroIn K e_Twill (.type "object") = some true)
    (kb_Twill : PySem.W.kitOne K (.ref e_Twill) (.ref e_Piece) = some true)
    (v1_Satin : PySem.W.findIn K (.ref e_Satin) "__class__" = some (some (.builtin "object.__class__")))
    (v2_Satin : PySem.W.specialIn K (.builtin "object.__class__") "__get__" = some (some (.builtin "getset_descriptor.__get__")))
    (v3_Satin : PySem.W.takesIn K (.builtin "object.__class__") = some true)
    (v4_Satin : PySem.W.mroIn K e_Satin (.type "object") = some true)
    (kb_Satin : PySem.W.kitOne K (.ref e_Satin) (.ref e_Piece) = some true) :
    ∃ fd : FuncData, (∀ (s : Shared) (v : Value), BindsTo s fd ⟨[v], []⟩ [("script", v)]) ∧ ∀ base : Heap, K.In base → base.Ns mainGlobals mg → FnOk P w K mg base CX0 12 fa fd ["script"] (sp_law K) := by
  have T : Txt K mg ⟨e_Piece, e_Twill, e_Satin, e_Reader, q_THINGS, f_Piece___init__, PySem.W.fnOf "__init__" "Piece.__init__" (defArgs s_Piece___init__) (defBody s_Piece___init__) (defScope s_Piece___init__) .none kV_Piece___init__ dc_Piece___init__ pm_Piece___init__ an_Piece___init__ cd_Piece___init__ ct_Piece___init__, f_Piece_wide, PySem.W.fnOf "wide" "Piece.wide" (defArgs s_Piece_wide) (defBody s_Piece_wide) (defScope s_Piece_wide) .none kV_Piece_wide dc_Piece_wide pm_Piece_wide an_Piece_wide cd_Piece_wide ct_Piece_wide, f_Piece_high, PySem.W.fnOf "high" "Piece.high" (defArgs s_Piece_high) (defBody s_Piece_high) (defScope s_Piece_high) .none kV_Piece_high dc_Piece_high pm_Piece_high an_Piece_high cd_Piece_high ct_Piece_high, f_Piece_sign, PySem.W.fnOf "sign" "Piece.sign" (defArgs s_Piece_sign) (defBody s_Piece_sign) (defScope s_Piece_sign) .none kV_Piece_sign dc_Piece_sign pm_Piece_sign an_Piece_sign cd_Piece_sign ct_Piece_sign, f_Piece_cloth, PySem.W.fnOf "cloth" "Piece.cloth" (defArgs s_Piece_cloth) (defBody s_Piece_cloth) (defScope s_Piece_cloth) .none kV_Piece_cloth dc_Piece_cloth pm_Piece_cloth an_Piece_cloth cd_Piece_cloth ct_Piece_cloth, f_Piece_told, PySem.W.fnOf "told" "Piece.told" (defArgs s_Piece_told) (defBody s_Piece_told) (defScope s_Piece_told) .none kV_Piece_told dc_Piece_told pm_Piece_told an_Piece_told cd_Piece_told ct_Piece_told, f_Twill___init__, PySem.W.fnOf "__init__" "Twill.__init__" (defArgs s_Twill___init__) (defBody s_Twill___init__) (defScope s_Twill___init__) .none kV_Twill___init__ dc_Twill___init__ pm_Twill___init__ an_Twill___init__ cd_Twill___init__ ct_Twill___init__, f_Satin___init__, PySem.W.fnOf "__init__" "Satin.__init__" (defArgs s_Satin___init__) (defBody s_Satin___init__) (defScope s_Satin___init__) .none kV_Satin___init__ dc_Satin___init__ pm_Satin___init__ an_Satin___init__ cd_Satin___init__ ct_Satin___init__, f_Reader___init__, PySem.W.fnOf "__init__" "Reader.__init__" (defArgs s_Reader___init__) (defBody s_Reader___init__) (defScope s_Reader___init__) .none kV_Reader___init__ dc_Reader___init__ pm_Reader___init__ an_Reader___init__ cd_Reader___init__ ct_Reader___init__, f_Reader_ended, PySem.W.fnOf "ended" "Reader.ended" (defArgs s_Reader_ended) (defBody s_Reader_ended) (defScope s_Reader_ended) .none kV_Reader_ended dc_Reader_ended pm_Reader_ended an_Reader_ended cd_Reader_ended ct_Reader_ended, f_Reader_took, PySem.W.fnOf "took" "Reader.took" (defArgs s_Reader_took) (defBody s_Reader_took) (defScope s_Reader_took) .none kV_Reader_took dc_Reader_took pm_Reader_took an_Reader_took cd_Reader_took ct_Reader_took, f_Reader_stretch, PySem.W.fnOf "stretch" "Reader.stretch" (defArgs s_Reader_stretch) (defBody s_Reader_stretch) (defScope s_Reader_stretch) .none kV_Reader_stretch dc_Reader_stretch pm_Reader_stretch an_Reader_stretch cd_Reader_stretch ct_Reader_stretch, f_Reader_number, PySem.W.fnOf "number" "Reader.number" (defArgs s_Reader_number) (defBody s_Reader_number) (defScope s_Reader_number) .none kV_Reader_number dc_Reader_number pm_Reader_number an_Reader_number cd_Reader_number ct_Reader_number, f_check_size, PySem.W.fnOf "check_size" "check_size" (defArgs s_check_size) (defBody s_check_size) (defScope s_check_size) .none kV_check_size dc_check_size pm_check_size an_check_size cd_check_size ct_check_size, f_prime_to, PySem.W.fnOf "prime_to" "prime_to" (defArgs s_prime_to) (defBody s_prime_to) (defScope s_prime_to) .none kV_prime_to dc_prime_to pm_prime_to an_prime_to cd_prime_to ct_prime_to, f_written, PySem.W.fnOf "written" "written" (defArgs s_written) (defBody s_written) (defScope s_written) .none kV_written dc_written pm_written an_written cd_written ct_written, f_number_of, PySem.W.fnOf "number_of" "number_of" (defArgs s_number_of) (defBody s_number_of) (defScope s_number_of) .none kV_number_of dc_number_of pm_number_of an_number_of cd_number_of ct_number_of, f_read_pattern, PySem.W.fnOf "read_pattern" "read_pattern" (defArgs s_read_pattern) (defBody s_read_pattern) (defScope s_read_pattern) .none kV_read_pattern dc_read_pattern pm_read_pattern an_read_pattern cd_read_pattern ct_read_pattern, f_read_whole, PySem.W.fnOf "read_whole" "read_whole" (defArgs s_read_whole) (defBody s_read_whole) (defScope s_read_whole) .none kV_read_whole dc_read_whole pm_read_whole an_read_whole cd_read_whole ct_read_whole, f_read_node, PySem.W.fnOf "read_node" "read_node" (defArgs s_read_node) (defBody s_read_node) (defScope s_read_node) .none kV_read_node dc_read_node pm_read_node an_read_node cd_read_node ct_read_node, f_read_things, PySem.W.fnOf "read_things" "read_things" (defArgs s_read_things) (defBody s_read_things) (defScope s_read_things) .none kV_read_things dc_read_things pm_read_things an_read_things cd_read_things ct_read_things, f_read_number, PySem.W.fnOf "read_number" "read_number" (defArgs s_read_number) (defBody s_read_number) (defScope s_read_number) .none kV_read_number dc_read_number pm_read_number an_read_number cd_read_number ct_read_number, f_read_comma, PySem.W.fnOf "read_comma" "read_comma" (defArgs s_read_comma) (defBody s_read_comma) (defScope s_read_comma) .none kV_read_comma dc_read_comma pm_read_comma an_read_comma cd_read_comma ct_read_comma, f_worked_out, PySem.W.fnOf "worked_out" "worked_out" (defArgs s_worked_out) (defBody s_worked_out) (defScope s_worked_out) .none kV_worked_out dc_worked_out pm_worked_out an_worked_out cd_worked_out ct_worked_out, f_made_of_two, PySem.W.fnOf "made_of_two" "made_of_two" (defArgs s_made_of_two) (defBody s_made_of_two) (defScope s_made_of_two) .none kV_made_of_two dc_made_of_two pm_made_of_two an_made_of_two cd_made_of_two ct_made_of_two, f_law_whole, PySem.W.fnOf "_law_whole" "_law_whole" (defArgs s_law_whole) (defBody s_law_whole) (defScope s_law_whole) .none kV_law_whole dc_law_whole pm_law_whole an_law_whole cd_law_whole ct_law_whole, f_law_numbers, PySem.W.fnOf "_law_numbers" "_law_numbers" (defArgs s_law_numbers) (defBody s_law_numbers) (defScope s_law_numbers) .none kV_law_numbers dc_law_numbers pm_law_numbers an_law_numbers cd_law_numbers ct_law_numbers, f_law_common, PySem.W.fnOf "_law_common" "_law_common" (defArgs s_law_common) (defBody s_law_common) (defScope s_law_common) .none kV_law_common dc_law_common pm_law_common an_law_common cd_law_common ct_law_common, f_law_due, PySem.W.fnOf "_law_due" "_law_due" (defArgs s_law_due) (defBody s_law_due) (defScope s_law_due) .none kV_law_due dc_law_due pm_law_due an_law_due cd_law_due ct_law_due, f_law_up, PySem.W.fnOf "_law_up" "_law_up" (defArgs s_law_up) (defBody s_law_up) (defScope s_law_up) .none kV_law_up dc_law_up pm_law_up an_law_up cd_law_up ct_law_up, f_law_rows, PySem.W.fnOf "_law_rows" "_law_rows" (defArgs s_law_rows) (defBody s_law_rows) (defScope s_law_rows) .none kV_law_rows dc_law_rows pm_law_rows an_law_rows cd_law_rows ct_law_rows, f_law_refused, PySem.W.fnOf "_law_refused" "_law_refused" (defArgs s_law_refused) (defBody s_law_refused) (defScope s_law_refused) .none kV_law_refused dc_law_refused pm_law_refused an_law_refused cd_law_refused ct_law_refused, f_law_right, PySem.W.fnOf "_law_right" "_law_right" (defArgs s_law_right) (defBody s_law_right) (defScope s_law_right) .none kV_law_right dc_law_right pm_law_right an_law_right cd_law_right ct_law_right, f_law, PySem.W.fnOf "law" "law" (defArgs s_law) (defBody s_law) (defScope s_law) .none kV_law dc_law pm_law an_law cd_law ct_law, e_WeaveError, e_TooLarge, f_TooLarge_called, PySem.W.fnOf "called" "TooLarge.called" (defArgs s_TooLarge_called) (defBody s_TooLarge_called) (defScope s_TooLarge_called) .none kV_TooLarge_called dc_TooLarge_called pm_TooLarge_called an_TooLarge_called cd_TooLarge_called ct_TooLarge_called, e_NoCloth, e_NoLaying, e_NoBlock, e_NoPattern, f_NoPattern_called, PySem.W.fnOf "called" "NoPattern.called" (defArgs s_NoPattern_called) (defBody s_NoPattern_called) (defScope s_NoPattern_called) .none kV_NoPattern_called dc_NoPattern_called pm_NoPattern_called an_NoPattern_called cd_NoPattern_called ct_NoPattern_called, e_Unknown⟩ :=
  ⟨⟨fun_mk (st := s_check_size) l_check_size c_check_size k_check_size, PySem.W.mg_of X G a_check_size, (fun_mk (st := s_check_size) l_check_size c_check_size k_check_size).binds (ps := ["ends", "picks"]) fun _ _ _ _ _ _ us hl => bl2 (fun _ _ => rfl) us hl⟩,
   ⟨fun_mk (st := s_prime_to) l_prime_to c_prime_to k_prime_to, PySem.W.mg_of X G a_prime_to, (fun_mk (st := s_prime_to) l_prime_to c_prime_to k_prime_to).binds (ps := ["size", "step"]) fun _ _ _ _ _ _ us hl => bl2 (fun _ _ => rfl) us hl⟩,
   ⟨fun_mk (st := s_written) l_written c_written k_written, PySem.W.mg_of X G a_written, (fun_mk (st := s_written) l_written c_written k_written).binds (ps := ["word", "things"]) fun _ _ _ _ _ _ us hl => bl2 (fun _ _ => rfl) us hl⟩,
   ⟨fun_mk (st := s_number_of) l_number_of c_number_of k_number_of, PySem.W.mg_of X G a_number_of, (fun_mk (st := s_number_of) l_number_of c_number_of k_number_of).binds (ps := ["figures"]) fun _ _ _ _ _ _ us hl => bl1 (fun _ => rfl) us hl⟩,
   ⟨fun_mk (st := s_read_pattern) l_read_pattern c_read_pattern k_read_pattern, PySem.W.mg_of X G a_read_pattern, (fun_mk (st := s_read_pattern) l_read_pattern c_read_pattern k_read_pattern).binds (ps := ["text", "known"]) fun _ _ _ _ _ _ us hl => bl2 (fun _ _ => rfl) us hl⟩,
   ⟨fun_mk (st := s_read_whole) l_read_whole c_read_whole k_read_whole, PySem.W.mg_of X G a_read_whole, (fun_mk (st := s_read_whole) l_read_whole c_read_whole k_read_whole).binds (ps := ["text"]) fun _ _ _ _ _ _ us hl => bl1 (fun _ => rfl) us hl⟩,
   ⟨fun_mk (st := s_read_node) l_read_node c_read_node k_read_node, PySem.W.mg_of X G a_read_node, (fun_mk (st := s_read_node) l_read_node c_read_node k_read_node).binds (ps := ["reader", "depth"]) fun _ _ _ _ _ _ us hl => bl2 (fun _ _ => rfl) us hl⟩,
   ⟨fun_mk (st := s_read_things) l_read_things c_read_things k_read_things, PySem.W.mg_of X G a_read_things, (fun_mk (st := s_read_things) l_read_things c_read_things k_read_things).binds (ps := ["reader", "word", "depth"]) fun _ _ _ _ _ _ us hl => bl3 (fun _ _ _ => rfl) us hl⟩,
   ⟨fun_mk (st := s_read_number) l_read_number c_read_number k_read_number, PySem.W.mg_of X G a_read_number, (fun_mk (st := s_read_number) l_read_number c_read_number k_read_number).binds (ps := ["reader"]) fun _ _ _ _ _ _ us hl => bl1 (fun _ => rfl) us hl⟩,
   ⟨fun_mk (st := s_read_comma) l_read_comma c_read_comma k_read_comma, PySem.W.mg_of X G a_read_comma, (fun_mk (st := s_read_comma) l_read_comma c_read_comma k_read_comma).binds (ps := ["reader"]) fun _ _ _ _ _ _ us hl => bl1 (fun _ => rfl) us hl⟩,
   ⟨fun_mk (st := s_worked_out) l_worked_out c_worked_out k_worked_out, PySem.W.mg_of X G a_worked_out, (fun_mk (st := s_worked_out) l_worked_out c_worked_out k_worked_out).binds (ps := ["node", "known"]) fun _ _ _ _ _ _ us hl => bl2 (fun _ _ => rfl) us hl⟩,
   ⟨fun_mk (st := s_made_of_two) l_made_of_two c_made_of_two k_made_of_two, PySem.W.mg_of X G a_made_of_two, (fun_mk (st := s_made_of_two) l_made_of_two c_made_of_two k_made_of_two).binds (ps := ["word", "one", "other"]) fun _ _ _ _ _ _ us hl => bl3 (fun _ _ _ => rfl) us hl⟩,
   ⟨fun_mk (st := s_law_whole) l_law_whole c_law_whole k_law_whole, PySem.W.mg_of X G a_law_whole, (fun_mk (st := s_law_whole) l_law_whole c_law_whole k_law_whole).binds (ps := ["found"]) fun _ _ _ _ _ _ us hl => bl1 (fun _ => rfl) us hl⟩,
   ⟨fun_mk (st := s_law_numbers) l_law_numbers c_law_numbers k_law_numbers, PySem.W.mg_of X G a_law_numbers, (fun_mk (st := s_law_numbers) l_law_numbers c_law_numbers k_law_numbers).binds (ps := ["cell"]) fun _ _ _ _ _ _ us hl => bl1 (fun _ => rfl) us hl⟩,
   ⟨fun_mk (st := s_law_common) l_law_common c_law_common k_law_common, PySem.W.mg_of X G a_law_common, (fun_mk (st := s_law_common) l_law_common c_law_common k_law_common).binds (ps := ["many", "step"]) fun _ _ _ _ _ _ us hl => bl2 (fun _ _ => rfl) us hl⟩,
   ⟨fun_mk (st := s_law_due) l_law_due c_law_due k_law_due, PySem.W.mg_of X G a_law_due, (fun_mk (st := s_law_due) l_law_due c_law_due k_law_due).binds (ps := ["word", "many", "other"]) fun _ _ _ _ _ _ us hl => bl3 (fun _ _ _ => rfl) us hl⟩,
   ⟨fun_mk (st := s_law_up) l_law_up c_law_up k_law_up, PySem.W.mg_of X G a_law_up, (fun_mk (st := s_law_up) l_law_up c_law_up k_law_up).binds (ps := ["word", "many", "other", "x", "y"]) fun _ _ _ _ _ _ us hl => bl5 (fun _ _ _ _ _ => rfl) us hl⟩,
   ⟨fun_mk (st := s_law_rows) l_law_rows c_law_rows k_law_rows, PySem.W.mg_of X G a_law_rows, (fun_mk (st := s_law_rows) l_law_rows c_law_rows k_law_rows).binds (ps := ["word", "many", "other"]) fun _ _ _ _ _ _ us hl => bl3 (fun _ _ _ => rfl) us hl⟩,
   ⟨fun_mk (st := s_law_refused) l_law_refused c_law_refused k_law_refused, PySem.W.mg_of X G a_law_refused, (fun_mk (st := s_law_refused) l_law_refused c_law_refused k_law_refused).binds (ps := ["text", "due"]) fun _ _ _ _ _ _ us hl => bl2 (fun _ _ => rfl) us hl⟩,
   ⟨fun_mk (st := s_law_right) l_law_right c_law_right k_law_right, PySem.W.mg_of X G a_law_right, (fun_mk (st := s_law_right) l_law_right c_law_right k_law_right).binds (ps := ["cell"]) fun _ _ _ _ _ _ us hl => bl1 (fun _ => rfl) us hl⟩,
   ⟨fun_mk (st := s_law) l_law c_law k_law, PySem.W.mg_of X G a_law, (fun_mk (st := s_law) l_law c_law k_law).binds (ps := ["script"]) fun _ _ _ _ _ _ us hl => bl1 (fun _ => rfl) us hl⟩,
   PySem.W.mg_none_of X G z_ValueError,
   PySem.W.mg_none_of X G z_all,
   PySem.W.mg_none_of X G z_any,
   PySem.W.mg_none_of X G z_bool,
   PySem.W.mg_none_of X G z_enumerate,
   PySem.W.mg_none_of X G z_int,
   PySem.W.mg_none_of X G z_isinstance,
   PySem.W.mg_none_of X G z_len,
   PySem.W.mg_none_of X G z_list,
   PySem.W.mg_none_of X G z_range,
   PySem.W.mg_none_of X G z_reversed,
   PySem.W.mg_none_of X G z_str,
   PySem.W.mg_none_of X G z_tuple,
   PySem.W.mg_none_of X G z_zip,
   ⟨_, PySem.W.mg_of X G x_LETTERS⟩,
   ⟨_, PySem.W.mg_of X G x_MOST_LETTERS⟩,
   ⟨_, PySem.W.mg_of X G x_MOST_STRANDS⟩,
   ⟨_, PySem.W.mg_of X G x_FIGURES⟩,
   ⟨_, PySem.W.mg_of X G x_MOST_DEEP⟩,
   ⟨_, PySem.W.mg_of X G x_MOST_RUNS⟩,
   PySem.W.mg_of X G n_WeaveError,
   exn_mk y1_WeaveError y2_WeaveError y3_WeaveError y4_WeaveError y5_WeaveError y6_WeaveError y7_WeaveError y8_WeaveError y9_WeaveError y10_WeaveError y11_WeaveError,
   PySem.W.mg_of X G n_TooLarge,
   exn_mk y1_TooLarge y2_TooLarge y3_TooLarge y4_TooLarge y5_WeaveError y6_WeaveError y7_TooLarge y8_TooLarge y9_TooLarge y10_TooLarge y11_TooLarge,
   ⟨fun_mk (st := s_TooLarge_called) lm_TooLarge cm_TooLarge km_TooLarge, ⟨fm_TooLarge, gm_TooLarge, km_TooLarge⟩, (fun_mk (st := s_TooLarge_called) lm_TooLarge cm_TooLarge km_TooLarge).binds (ps := ["self"]) fun _ _ _ _ _ _ us hl => match us, hl with | [_], _ => rfl⟩,
   r_TooLarge_WeaveError,
   r_TooLarge_TooLarge,
   r_TooLarge_NoCloth,
   r_TooLarge_NoLaying,
   r_TooLarge_NoBlock,
   r_TooLarge_NoPattern,
   r_TooLarge_Unknown,
   PySem.W.mg_of X G n_NoCloth,
   exn_mk y1_NoCloth y2_NoCloth y3_NoCloth y4_NoCloth y5_WeaveError y6_WeaveError y7_NoCloth y8_NoCloth y9_NoCloth y10_NoCloth y11_NoCloth,
   PySem.W.mg_of X G n_NoLaying,
   exn_mk y1_NoLaying y2_NoLaying y3_NoLaying y4_NoLaying y5_WeaveError y6_WeaveError y7_NoLaying y8_NoLaying y9_NoLaying y10_NoLaying y11_NoLaying,
   PySem.W.mg_of X G n_NoBlock,
   exn_mk y1_NoBlock y2_NoBlock y3_NoBlock y4_NoBlock y5_WeaveError y6_WeaveError y7_NoBlock y8_NoBlock y9_NoBlock y10_NoBlock y11_NoBlock,
   PySem.W.mg_of X G n_NoPattern,
   exn_mk y1_NoPattern y2_NoPattern y3_NoPattern y4_NoPattern y5_WeaveError y6_WeaveError y7_NoPattern y8_NoPattern y9_NoPattern y10_NoPattern y11_NoPattern,
   ⟨fun_mk (st := s_NoPattern_called) lm_NoPattern cm_NoPattern km_NoPattern, ⟨fm_NoPattern, gm_NoPattern, km_NoPattern⟩, (fun_mk (st := s_NoPattern_called) lm_NoPattern cm_NoPattern km_NoPattern).binds (ps := ["self"]) fun _ _ _ _ _ _ us hl => match us, hl with | [_], _ => rfl⟩,
   r_NoPattern_WeaveError,
   r_NoPattern_TooLarge,
   r_NoPattern_NoCloth,
   r_NoPattern_NoLaying,
   r_NoPattern_NoBlock,
   r_NoPattern_NoPattern,
   r_NoPattern_Unknown,
   PySem.W.mg_of X G n_Unknown,
   exn_mk y1_Unknown y2_Unknown y3_Unknown y4_Unknown y5_WeaveError y6_WeaveError y7_Unknown y8_Unknown y9_Unknown y10_Unknown y11_Unknown,
   PySem.W.mg_of X G n_Piece,
   own_mk o1_Piece o2_Piece o3_Piece o4_Piece o5_Piece fm_Piece___init__ gm_Piece___init__ o8_Piece,
   na_Piece_texts,
   na_Piece_writing,
   PySem.W.mg_of X G n_Twill,
   own_mk o1_Twill o2_Twill o3_Twill o4_Twill o5_Twill fm_Twill___init__ gm_Twill___init__ o8_Twill,
   na_Twill_texts,
   na_Twill_writing,
   ⟨v1_Twill, v2_Twill, v3_Twill, v4_Twill⟩,
   kb_Twill,
   ⟨im_Twill_wide, gm_Piece_wide, km_Piece_wide⟩,
   ⟨im_Twill_high, gm_Piece_high, km_Piece_high⟩,
   ⟨im_Twill_sign, gm_Piece_sign, km_Piece_sign⟩,
   ⟨im_Twill_cloth, gm_Piece_cloth, km_Piece_cloth⟩,
   ⟨im_Twill_told, gm_Piece_told, km_Piece_told⟩,
   PySem.W.mg_of X G n_Satin,
   own_mk o1_Satin o2_Satin o3_Satin o4_Satin o5_Satin fm_Satin___init__ gm_Satin___init__ o8_Satin,
   na_Satin_texts,
   na_Satin_writing,
   ⟨v1_Satin, v2_Satin, v3_Satin, v4_Satin⟩,
   kb_Satin,
   ⟨im_Satin_wide, gm_Piece_wide, km_Piece_wide⟩,
   ⟨im_Satin_high, gm_Piece_high, km_Piece_high⟩,
   ⟨im_Satin_sign, gm_Piece_sign, km_Piece_sign⟩,
   ⟨im_Satin_cloth, gm_Piece_cloth, km_Piece_cloth⟩,
   ⟨im_Satin_told, gm_Piece_told, km_Piece_told⟩,
   PySem.W.mg_of X G n_Reader,
   own_mk o1_Reader o2_Reader o3_Reader o4_Reader o5_Reader fm_Reader___init__ gm_Reader___init__ o8_Reader,
   na_Reader_text,
   na_Reader_place,
   ⟨cf1_Piece, cf2_Piece, cf3_Piece, cf4_Piece, km_Piece___init__⟩,
   PySem.W.mg_of X G tb0_THINGS,
   top_of tb1_THINGS,
   ⟨fun_mk (st := s_Piece___init__) lm_Piece___init__ cm_Piece___init__ km_Piece___init__, ⟨fm_Piece___init__, gm_Piece___init__, km_Piece___init__⟩, (fun_mk (st := s_Piece___init__) lm_Piece___init__ cm_Piece___init__ km_Piece___init__).binds (ps := ["self", "texts", "writing"]) fun _ _ _ _ _ _ us hl => bl3 (fun _ _ _ => rfl) us hl⟩,
   ⟨fun_mk (st := s_Piece_wide) lm_Piece_wide cm_Piece_wide km_Piece_wide, ⟨fm_Piece_wide, gm_Piece_wide, km_Piece_wide⟩, (fun_mk (st := s_Piece_wide) lm_Piece_wide cm_Piece_wide km_Piece_wide).binds (ps := ["self"]) fun _ _ _ _ _ _ us hl => bl1 (fun _ => rfl) us hl⟩,
   ⟨fun_mk (st := s_Piece_high) lm_Piece_high cm_Piece_high km_Piece_high, ⟨fm_Piece_high, gm_Piece_high, km_Piece_high⟩, (fun_mk (st := s_Piece_high) lm_Piece_high cm_Piece_high km_Piece_high).binds (ps := ["self"]) fun _ _ _ _ _ _ us hl => bl1 (fun _ => rfl) us hl⟩,
   ⟨fun_mk (st := s_Piece_sign) lm_Piece_sign cm_Piece_sign km_Piece_sign, ⟨fm_Piece_sign, gm_Piece_sign, km_Piece_sign⟩, (fun_mk (st := s_Piece_sign) lm_Piece_sign cm_Piece_sign km_Piece_sign).binds (ps := ["self", "x", "y"]) fun _ _ _ _ _ _ us hl => bl3 (fun _ _ _ => rfl) us hl⟩,
   ⟨fun_mk (st := s_Piece_cloth) lm_Piece_cloth cm_Piece_cloth km_Piece_cloth, ⟨fm_Piece_cloth, gm_Piece_cloth, km_Piece_cloth⟩, (fun_mk (st := s_Piece_cloth) lm_Piece_cloth cm_Piece_cloth km_Piece_cloth).binds (ps := ["self"]) fun _ _ _ _ _ _ us hl => bl1 (fun _ => rfl) us hl⟩,
   ⟨fun_mk (st := s_Piece_told) lm_Piece_told cm_Piece_told km_Piece_told, ⟨fm_Piece_told, gm_Piece_told, km_Piece_told⟩, (fun_mk (st := s_Piece_told) lm_Piece_told cm_Piece_told km_Piece_told).binds (ps := ["self"]) fun _ _ _ _ _ _ us hl => bl1 (fun _ => rfl) us hl⟩,
   ⟨fun_mk (st := s_Twill___init__) lm_Twill___init__ cm_Twill___init__ km_Twill___init__, ⟨fm_Twill___init__, gm_Twill___init__, km_Twill___init__⟩, (fun_mk (st := s_Twill___init__) lm_Twill___init__ cm_Twill___init__ km_Twill___init__).binds (ps := ["self", "over", "under"]) fun _ _ _ _ _ _ us hl => bl3 (fun _ _ _ => rfl) us hl⟩,
   ⟨fun_mk (st := s_Satin___init__) lm_Satin___init__ cm_Satin___init__ km_Satin___init__, ⟨fm_Satin___init__, gm_Satin___init__, km_Satin___init__⟩, (fun_mk (st := s_Satin___init__) lm_Satin___init__ cm_Satin___init__ km_Satin___init__).binds (ps := ["self", "size", "step"]) fun _ _ _ _ _ _ us hl => bl3 (fun _ _ _ => rfl) us hl⟩,
   ⟨fun_mk (st := s_Reader___init__) lm_Reader___init__ cm_Reader___init__ km_Reader___init__, ⟨fm_Reader___init__, gm_Reader___init__, km_Reader___init__⟩, (fun_mk (st := s_Reader___init__) lm_Reader___init__ cm_Reader___init__ km_Reader___init__).binds (ps := ["self", "text"]) fun _ _ _ _ _ _ us hl => bl2 (fun _ _ => rfl) us hl⟩,
   ⟨fun_mk (st := s_Reader_ended) lm_Reader_ended cm_Reader_ended km_Reader_ended, ⟨fm_Reader_ended, gm_Reader_ended, km_Reader_ended⟩, (fun_mk (st := s_Reader_ended) lm_Reader_ended cm_Reader_ended km_Reader_ended).binds (ps := ["self"]) fun _ _ _ _ _ _ us hl => bl1 (fun _ => rfl) us hl⟩,
   ⟨fun_mk (st := s_Reader_took) lm_Reader_took cm_Reader_took km_Reader_took, ⟨fm_Reader_took, gm_Reader_took, km_Reader_took⟩, (fun_mk (st := s_Reader_took) lm_Reader_took cm_Reader_took km_Reader_took).binds (ps := ["self", "wanted"]) fun _ _ _ _ _ _ us hl => bl2 (fun _ _ => rfl) us hl⟩,
   ⟨fun_mk (st := s_Reader_stretch) lm_Reader_stretch cm_Reader_stretch km_Reader_stretch, ⟨fm_Reader_stretch, gm_Reader_stretch, km_Reader_stretch⟩, (fun_mk (st := s_Reader_stretch) lm_Reader_stretch cm_Reader_stretch km_Reader_stretch).binds (ps := ["self", "signs"]) fun _ _ _ _ _ _ us hl => bl2 (fun _ _ => rfl) us hl⟩,
   ⟨fun_mk (st := s_Reader_number) lm_Reader_number cm_Reader_number km_Reader_number, ⟨fm_Reader_number, gm_Reader_number, km_Reader_number⟩, (fun_mk (st := s_Reader_number) lm_Reader_number cm_Reader_number km_Reader_number).binds (ps := ["self"]) fun _ _ _ _ _ _ us hl => bl1 (fun _ => rfl) us hl⟩⟩
  have e := hfa.symm.trans (PySem.W.mg_of X G a_law)
  cases e
  exact ⟨_, fun s v => .of_eq rfl, fun base _ _ => ok_law T⟩
end Mine
open PySem PySem.W PyProof.Rows
def PySem.W.Fast.tw1211438331093811382 := ()
def PySem.W.Fast.tw5748060652649268833 := ()
def PySem.W.Fast.tw5391339606797086854 := ()
def PySem.W.Fast.tw17993195453817542136 := ()
def PySem.W.Fast.tw2461847764759340339 := ()
def PySem.W.Fast.tw13407406385201353296 := ()
def PySem.W.Fast.tw11565300989889973633 := ()
def PySem.W.Fast.tw4371573378767727312 := ()
def PySem.W.Fast.tw11158851253685959429 := ()
def PySem.W.Fast.tw11211344906299084825 := ()
def PySem.W.Fast.tw14138262309499630043 := ()
def PySem.W.Fast.tw1376074473634925801 := ()
def PySem.W.Fast.tw13369328487541603420 := ()
def PySem.W.Fast.tw2609763101588369068 := ()
def PySem.W.Fast.tw10218491896572127761 := ()
def PySem.W.Fast.tw9556831446576415378 := ()
def PySem.W.Fast.tw1252416775806292720 := ()
def PySem.W.Fast.tw11475710049913487275 := ()
def PySem.W.Fast.tw16989085787163617674 := ()
def PySem.W.Fast.tw18256549026680524674 := ()
def PySem.W.Fast.tw150878844201045658 := ()
def PySem.W.Fast.tw6851993331663158300 := ()
def PySem.W.Fast.tw5837460553094055306 := ()
def PySem.W.Fast.tw7593130352052617390 := ()
def PySem.W.Fast.tw9616821655143521629 := ()
def PySem.W.Fast.tw16015743950337187691 := ()
def PySem.W.Fast.tw5891842673391015852 := ()
def PySem.W.Fast.tw4850788464525951568 := ()
def PySem.W.Fast.tw1524536396554766524 := ()
def PySem.W.Fast.tw14483497512169731542 := ()
def PySem.W.Fast.tw4084816883294832026 := ()
def PySem.W.Fast.tw9639054049351211393 := ()
def PySem.W.Fast.tw15133813817762530106 := ()
def PySem.W.Fast.tw13911206543982272221 := ()
def PySem.W.Fast.tw1197626382068180215 := ()
def PySem.W.Fast.tw14884530781789326856 := ()
def PySem.W.Fast.tw266431475192481109 := ()
def PySem.W.Fast.tw1686744472880012218 := ()
def PySem.W.Fast.tw12217074154135373874 := ()
def PySem.W.Fast.tw339653528916799281 := ()
def PySem.W.Fast.tw5177121710429687878 := ()
def PySem.W.Fast.tw4261371874493895998 := ()
def PySem.W.Fast.tw9016813133085131263 := ()
def PySem.W.Fast.tw13198845799049946614 := ()
def PySem.W.Fast.tw15911197492349414397 := ()
def PySem.W.Fast.tw5808956152883017920 := ()
def PySem.W.Fast.tw9534413050729372087 := ()
def PySem.W.Fast.tw12179829213006910553 := ()
def PySem.W.Fast.tw10849385721475232374 := ()
def PySem.W.Fast.tw13488384527378099386 := ()
def PySem.W.Fast.tw2756145343252775801 := ()
def PySem.W.Fast.tw3647003263092898834 := ()
def PySem.W.Fast.tw3909801473757872354 := ()
def PySem.W.Fast.tw8507421691589953943 := ()
def PySem.W.Fast.tw17569122854095966613 := ()
def PySem.W.Fast.tw8676032652726776386 := ()
def PySem.W.Fast.tw13166928470081130565 := ()
def PySem.W.Fast.tw13866691396776633348 := ()
def PySem.W.Fast.tw15829773248460644179 := ()
def PySem.W.Fast.tw10428199888331748491 := ()
def PySem.W.Fast.tw15397486620420335187 := ()
def PySem.W.Fast.tw12548919772887762340 := ()
def PySem.W.Fast.tw200175796434010187 := ()
def PySem.W.Fast.tw9775515765772510102 := ()
def PySem.W.Fast.tw3880880309142522648 := ()
def PySem.W.Fast.tw10734841883880510806 := ()
def PySem.W.Fast.tw2653999299458280254 := ()
def PySem.W.Fast.tw12656815653644972065 := ()
def PySem.W.Fast.tw9687280424554587587 := ()
def PySem.W.Fast.tw15199169528906500252 := ()
def PySem.W.Fast.tw13619440546953878674 := ()
def PySem.W.Fast.tw16649413683748486624 := ()
def PySem.W.Fast.tw8685511301439436852 := ()
def PySem.W.Fast.tw15620862756387622408 := ()
def PySem.W.Fast.tw9494840190172010515 := ()
def PySem.W.Fast.tw13385045862725716963 := ()
def PySem.W.Fast.tw3838802452096930044 := ()
def PySem.W.Fast.tw16766897129319162500 := ()
def PySem.W.Fast.tw8544997915915169345 := ()
def PySem.W.Fast.tw10804328457793902083 := ()
def PySem.W.Fast.tw13872126339418528009 := ()
def PySem.W.Fast.tw8681851463469283944 := ()
def PySem.W.Fast.tw2030209173599160484 := ()
def PySem.W.Fast.tw8184916071718674862 := ()
def PySem.W.Fast.tw507834717011053401 := ()
def PySem.W.Fast.tw6798630159964701730 := ()
def PySem.W.Fast.tw11506434008850368449 := ()
def PySem.W.Fast.tw3863678657877880456 := ()
def PySem.W.Fast.tw4022422343740041935 := ()
def PySem.W.Fast.tw12541079405108623058 := ()
def PySem.W.Fast.tw14141241294208159806 := ()
def PySem.W.Fast.tw8143256017404320286 := ()
def PySem.W.Fast.tw3319678372347307 := ()
def PySem.W.Fast.tw14031972474662013481 := ()
def PySem.W.Fast.tw12854048418422703711 := ()
def PySem.W.Fast.tw6458856363014188756 := ()
def PySem.W.Fast.tw12460647368200299775 := ()
def PySem.W.Fast.tw14561205945941867691 := ()
def PySem.W.Fast.tw4253772127822196880 := ()
def PySem.W.Fast.tw642867288785734288 := ()
def PySem.W.Fast.tw12228863452655352484 := ()
def PySem.W.Fast.tw2701678185394091603 := ()
def PySem.W.Fast.tw15464797411493307359 := ()
def PySem.W.Fast.tw1329700607471971623 := ()
def PySem.W.Fast.tw10829394712320133348 := ()
def PySem.W.Fast.tw5236436384877529501 := ()
def PySem.W.Fast.tw390735108961444629 := ()
def PySem.W.Fast.tw4224267640416870859 := ()
def PySem.W.Fast.tw1821101310167616895 := ()
def PySem.W.Fast.tw13837554002670699647 := ()
def PySem.W.Fast.tw3546043117437173042 := ()
def PySem.W.Fast.tw263082702337551938 := ()
def PySem.W.Fast.tw10896116160524674106 := ()
def PySem.W.Fast.tw10597597194925927243 := ()
def PySem.W.Fast.tw9336026699700462338 := ()
def PySem.W.Fast.tw7366485521667929555 := ()
def PySem.W.Fast.tw11388798482261443290 := ()
def PySem.W.Fast.tw5587497387900681162 := ()
def PySem.W.Fast.tw14619427191783378661 := ()
def PySem.W.Fast.tw5158172277884952840 := ()
def PySem.W.Fast.tw6625150218127099479 := ()
def PySem.W.Fast.tw16275955829459938130 := ()
def PySem.W.Fast.tw10271720805900628026 := ()
def PySem.W.Fast.tw8096755868335701727 := ()
def PySem.W.Fast.tw4320028439676111323 := ()
def PySem.W.Fast.tw18101217586571640892 := ()
def PySem.W.Fast.tw5532145497364577857 := ()
def PySem.W.Fast.tw9801317701901422819 := ()
def PySem.W.Fast.tw9454353911841424807 := ()
def PySem.W.Fast.tw11530792800718083462 := ()
def PySem.W.Fast.tw552097984676923425 := ()
def PySem.W.Fast.tw12860097041547240788 := ()
def PySem.W.Fast.tw2376837793394134946 := ()
def PySem.W.Fast.tw1334240706338880754 := ()
def PySem.W.Fast.tw2555245048171492693 := ()
def PySem.W.Fast.tw5153178343067732171 := ()
def PySem.W.Fast.tw2732826122116798986 := ()
def PySem.W.Fast.tw2319419376456765517 := ()
def PySem.W.Fast.tw7768171802946986806 := ()
def PySem.W.Fast.tw15119858670866888123 := ()
def PySem.W.Fast.tw17784999110689502351 := ()
def PySem.W.Fast.tw4850801178751003119 := ()
def PySem.W.Fast.tw8159028863187398987 := ()
def PySem.W.Fast.tw7101489921894942408 := ()
def PySem.W.Fast.tw3186120818147751004 := ()
def PySem.W.Fast.tw11566297625517698033 := ()
def PySem.W.Fast.tw8089632296270262737 := ()
def PySem.W.Fast.tw14015856113143357173 := ()
def PySem.W.Fast.tw14900918851596868623 := ()
def PySem.W.Fast.tw17576968498585727595 := ()
def PySem.W.Fast.tw13039696052187651109 := ()
def PySem.W.Fast.tw7078804953852567419 := ()
def PySem.W.Fast.tw16285637803999684415 := ()
def PySem.W.Fast.tw17643679696774217392 := ()
def PySem.W.Fast.tw13863360085294599862 := ()
def PySem.W.Fast.tw7121451270174169621 := ()
def PySem.W.Fast.tw5638376919770960037 := ()
def PySem.W.Fast.tw16723193993224228117 := ()
def PySem.W.Fast.tw65579970917826999 := ()
def PySem.W.Fast.tw1169125798762656601 := ()
def PySem.W.Fast.tw12198363058746277165 := ()
def PySem.W.Fast.tw12832639740514230670 := ()
def PySem.W.Fast.tw475986452583118963 := ()
def PySem.W.Fast.tw18081867208020235239 := ()
def PySem.W.Fast.tw4606864952948320706 := ()
def PySem.W.Fast.tw698420537102002045 := ()
def PySem.W.Fast.tw7284644579409245478 := ()
def PySem.W.Fast.tw12172116925484714694 := ()
def PySem.W.Fast.tw5659081729214668576 := ()
def PySem.W.Fast.tw3621449142001919366 := ()
def PySem.W.Fast.tw4629226174282637897 := ()
def PySem.W.Fast.tw11364143374229563703 := ()
def PySem.W.Fast.tw9090591704936987016 := ()
def PySem.W.Fast.tw12624501531373616346 := ()
def PySem.W.Fast.tw9225568720878667136 := ()
def PySem.W.Fast.tw8365950608863610973 := ()
def PySem.W.Fast.tw9828023493200820935 := ()
def PySem.W.Fast.tw7643437313832107940 := ()
def PySem.W.Fast.tw16920808306694789340 := ()
def PySem.W.Fast.tw1314765929410324448 := ()
def PySem.W.Fast.tw10815430154686449527 := ()
def PySem.W.Fast.tw7529705798157321414 := ()
def PySem.W.Fast.tw13311713660381100064 := ()
def PySem.W.Fast.tw9448374259532849378 := ()
def PySem.W.Fast.tw13974277679050022751 := ()
def PySem.W.Fast.tw8953170975233191380 := ()
def PySem.W.Fast.tw1854902339253916922 := ()
def PySem.W.Fast.tw3774543475718852407 := ()
def PySem.W.Fast.tw12483343849067684783 := ()
def PySem.W.Fast.tw12380596732830126362 := ()
def PySem.W.Fast.tw17451049487797808208 := ()
def PySem.W.Fast.tw15426406956383160310 := ()
def PySem.W.Fast.tw3140160933905223516 := ()
def PySem.W.Fast.tw9236485182757340051 := ()
def PySem.W.Fast.tw750777074510721198 := ()
def PySem.W.Fast.tw17329406800536980850 := ()
def PySem.W.Fast.tw8293146910680810994 := ()
def PySem.W.Fast.tw3557145444475047851 := ()
def PySem.W.Fast.tw2828005117683577241 := ()
def PySem.W.Fast.tw17440714285979129890 := ()
def PySem.W.Fast.tw15237226705982789700 := ()
def PySem.W.Fast.tw7175823300456527725 := ()
def PySem.W.Fast.tw3723099260123551743 := ()
def PySem.W.Fast.tw10465784448945876546 := ()
def PySem.W.Fast.tw9959793499945753603 := ()
def PySem.W.Fast.tw13134983986644028448 := ()
def PySem.W.Fast.tw5513401654644464774 := ()
def PySem.W.Fast.tw12619839710727842082 := ()
def PySem.W.Fast.tw18131448178255492610 := ()
def PySem.W.Fast.tw14479883147899140326 := ()
def PySem.W.Fast.tw12030910641530140945 := ()
def PySem.W.Fast.tw4714642096997131020 := ()
def PySem.W.Fast.tw15740119379880352189 := ()
def PySem.W.Fast.tw4663478936043103556 := ()
def PySem.W.Fast.tw11505801321829142171 := ()
set_option maxRecDepth 100000 in
set_option maxHeartbeats 0 in
theorem PySem.Challenge.cw_heddle_k56_twills_and_satins_holds : PySem.Challenge.rw_heddle_k56_twills_and_satins.Holds := by
  w_on; o_law; k_head; (case hw => w_witness2)
  k_fill
  refine L2.walk_ofK (l := PySem.Challenge.rw_heddle_k56_twills_and_satins) (n := 63) (k := 12) (x := "script") (CX := L2.CX0) (sp := Mine.sp_law) rfl (by decide) rfl ⟨rfl, by decide, by decide⟩ (fun w h Y => PySem.W.kIn_of Y) ?F ?S ?C
  case F =>
    intro w mg fa h KX G hmg
    refine' Mine.law_mk KX G hmg ?a_check_size ?l_check_size ?c_check_size ?k_check_size ?a_prime_to ?l_prime_to ?c_prime_to ?k_prime_to ?a_written ?l_written ?c_written ?k_written ?a_number_of ?l_number_of ?c_number_of ?k_number_of ?a_read_pattern ?l_read_pattern ?c_read_pattern ?k_read_pattern ?a_read_whole ?l_read_whole ?c_read_whole ?k_read_whole ?a_read_node ?l_read_node ?c_read_node ?k_read_node ?a_read_things ?l_read_things ?c_read_things ?k_read_things ?a_read_number ?l_read_number ?c_read_number ?k_read_number ?a_read_comma ?l_read_comma ?c_read_comma ?k_read_comma ?a_worked_out ?l_worked_out ?c_worked_out ?k_worked_out ?a_made_of_two ?l_made_of_two ?c_made_of_two ?k_made_of_two ?a_law_whole ?l_law_whole ?c_law_whole ?k_law_whole ?a_law_numbers ?l_law_numbers ?c_law_numbers ?k_law_numbers ?a_law_common ?l_law_common ?c_law_common ?k_law_common ?a_law_due ?l_law_due ?c_law_due ?k_law_due ?a_law_up ?l_law_up ?c_law_up ?k_law_up ?a_law_rows ?l_law_rows ?c_law_rows ?k_law_rows ?a_law_refused ?l_law_refused ?c_law_refused ?k_law_refused ?a_law_right ?l_law_right ?c_law_right ?k_law_right ?a_law ?l_law ?c_law ?k_law ?z_ValueError ?z_all ?z_any ?z_bool ?z_enumerate ?z_int ?z_isinstance ?z_len ?z_list ?z_range ?z_reversed ?z_str ?z_tuple ?z_zip ?x_LETTERS ?x_MOST_LETTERS ?x_MOST_STRANDS ?x_FIGURES ?x_MOST_DEEP ?x_MOST_RUNS ?n_WeaveError ?n_TooLarge ?n_NoCloth ?n_NoLaying ?n_NoBlock ?n_NoPattern ?n_Unknown ?y1_WeaveError ?y2_WeaveError ?y3_WeaveError ?y4_WeaveError ?y5_WeaveError ?y6_WeaveError ?y7_WeaveError ?y8_WeaveError ?y9_WeaveError ?y10_WeaveError ?y11_WeaveError ?y1_TooLarge ?y2_TooLarge ?y3_TooLarge ?y4_TooLarge ?y7_TooLarge ?y8_TooLarge ?y9_TooLarge ?y10_TooLarge ?y11_TooLarge ?r_TooLarge_WeaveError ?r_TooLarge_TooLarge ?r_TooLarge_NoCloth ?r_TooLarge_NoLaying ?r_TooLarge_NoBlock ?r_TooLarge_NoPattern ?r_TooLarge_Unknown ?y1_NoCloth ?y2_NoCloth ?y3_NoCloth ?y4_NoCloth ?y7_NoCloth ?y8_NoCloth ?y9_NoCloth ?y10_NoCloth ?y11_NoCloth ?y1_NoLaying ?y2_NoLaying ?y3_NoLaying ?y4_NoLaying ?y7_NoLaying ?y8_NoLaying ?y9_NoLaying ?y10_NoLaying ?y11_NoLaying ?y1_NoBlock ?y2_NoBlock ?y3_NoBlock ?y4_NoBlock ?y7_NoBlock ?y8_NoBlock ?y9_NoBlock ?y10_NoBlock ?y11_NoBlock ?y1_NoPattern ?y2_NoPattern ?y3_NoPattern ?y4_NoPattern ?y7_NoPattern ?y8_NoPattern ?y9_NoPattern ?y10_NoPattern ?y11_NoPattern ?r_NoPattern_WeaveError ?r_NoPattern_TooLarge ?r_NoPattern_NoCloth ?r_NoPattern_NoLaying ?r_NoPattern_NoBlock ?r_NoPattern_NoPattern ?r_NoPattern_Unknown ?y1_Unknown ?y2_Unknown ?y3_Unknown ?y4_Unknown ?y7_Unknown ?y8_Unknown ?y9_Unknown ?y10_Unknown ?y11_Unknown ?fm_TooLarge ?gm_TooLarge ?lm_TooLarge ?cm_TooLarge ?km_TooLarge ?fm_NoPattern ?gm_NoPattern ?lm_NoPattern ?cm_NoPattern ?km_NoPattern ?n_Piece ?n_Twill ?n_Satin ?n_Reader ?fm_Piece___init__ ?gm_Piece___init__ ?lm_Piece___init__ ?cm_Piece___init__ ?km_Piece___init__ ?fm_Piece_wide ?gm_Piece_wide ?lm_Piece_wide ?cm_Piece_wide ?km_Piece_wide ?fm_Piece_high ?gm_Piece_high ?lm_Piece_high ?cm_Piece_high ?km_Piece_high ?fm_Piece_sign ?gm_Piece_sign ?lm_Piece_sign ?cm_Piece_sign ?km_Piece_sign ?fm_Piece_cloth ?gm_Piece_cloth ?lm_Piece_cloth ?cm_Piece_cloth ?km_Piece_cloth ?fm_Piece_told ?gm_Piece_told ?lm_Piece_told ?cm_Piece_told ?km_Piece_told ?fm_Twill___init__ ?gm_Twill___init__ ?lm_Twill___init__ ?cm_Twill___init__ ?km_Twill___init__ ?fm_Satin___init__ ?gm_Satin___init__ ?lm_Satin___init__ ?cm_Satin___init__ ?km_Satin___init__ ?fm_Reader___init__ ?gm_Reader___init__ ?lm_Reader___init__ ?cm_Reader___init__ ?km_Reader___init__ ?fm_Reader_ended ?gm_Reader_ended ?lm_Reader_ended ?cm_Reader_ended ?km_Reader_ended ?fm_Reader_took ?gm_Reader_took ?lm_Reader_took ?cm_Reader_took ?km_Reader_took ?fm_Reader_stretch ?gm_Reader_stretch ?lm_Reader_stretch ?cm_Reader_stretch ?km_Reader_stretch ?fm_Reader_number ?gm_Reader_number ?lm_Reader_number ?cm_Reader_number ?km_Reader_number ?im_Twill_wide ?im_Twill_high ?im_Twill_sign ?im_Twill_cloth ?im_Twill_told ?im_Satin_wide ?im_Satin_high ?im_Satin_sign ?im_Satin_cloth ?im_Satin_told ?cf1_Piece ?cf2_Piece ?cf3_Piece ?cf4_Piece ?tb0_THINGS ?tb1_THINGS ?o1_Piece ?o2_Piece ?o3_Piece ?o4_Piece ?o5_Piece ?o8_Piece ?na_Piece_texts ?na_Piece_writing ?o1_Twill ?o2_Twill ?o3_Twill ?o4_Twill ?o5_Twill ?o8_Twill ?na_Twill_texts ?na_Twill_writing ?o1_Satin ?o2_Satin ?o3_Satin ?o4_Satin ?o5_Satin ?o8_Satin ?na_Satin_texts ?na_Satin_writing ?o1_Reader ?o2_Reader ?o3_Reader ?o4_Reader ?o5_Reader ?o8_Reader ?na_Reader_text ?na_Reader_place ?v1_Twill ?v2_Twill ?v3_Twill ?v4_Twill ?kb_Twill ?v1_Satin ?v2_Satin ?v3_Satin ?v4_Satin ?kb_Satin
    (case a_check_size => k_is)
    (case l_check_size => k_is)
    (case c_check_size => k_is)
    (case k_check_size => k_is)
    (case a_prime_to => k_is)
    (case l_prime_to => k_is)
    (case c_prime_to => k_is)
    (case k_prime_to => k_is)
    (case a_written => k_is)
    (case l_written => k_is)
    (case c_written => k_is)
    (case k_written => k_is)
    (case a_number_of => k_is)
    (case l_number_of => k_is)
    (case c_number_of => k_is)
    (case k_number_of => k_is)
    (case a_read_pattern => k_is)
    (case l_read_pattern => k_is)
    (case c_read_pattern => k_is)
    (case k_read_pattern => k_is)
    (case a_read_whole => k_is)
    (case l_read_whole => k_is)
    (case c_read_whole => k_is)
    (case k_read_whole => k_is)
    (case a_read_node => k_is)
    (case l_read_node => k_is)
    (case c_read_node => k_is)
    (case k_read_node => k_is)
    (case a_read_things => k_is)
    (case l_read_things => k_is)
    (case c_read_things => k_is)
    (case k_read_things => k_is)
    (case a_read_number => k_is)
    (case l_read_number => k_is)
    (case c_read_number => k_is)
    (case k_read_number => k_is)
    (case a_read_comma => k_is)
    (case l_read_comma => k_is)
    (case c_read_comma => k_is)
    (case k_read_comma => k_is)
    (case a_worked_out => k_is)
    (case l_worked_out => k_is)
    (case c_worked_out => k_is)
    (case k_worked_out => k_is)
    (case a_made_of_two => k_is)
    (case l_made_of_two => k_is)
    (case c_made_of_two => k_is)
    (case k_made_of_two => k_is)
    (case a_law_whole => k_is)
    (case l_law_whole => k_is)
    (case c_law_whole => k_is)
    (case k_law_whole => k_is)
    (case a_law_numbers => k_is)
    (case l_law_numbers => k_is)
    (case c_law_numbers => k_is)
    (case k_law_numbers => k_is)
    (case a_law_common => k_is)
    (case l_law_common => k_is)
    (case c_law_common => k_is)
    (case k_law_common => k_is)
    (case a_law_due => k_is)
    (case l_law_due => k_is)
    (case c_law_due => k_is)
    (case k_law_due => k_is)
    (case a_law_up => k_is)
    (case l_law_up => k_is)
    (case c_law_up => k_is)
    (case k_law_up => k_is)
    (case a_law_rows => k_is)
    (case l_law_rows => k_is)
    (case c_law_rows => k_is)
    (case k_law_rows => k_is)
    (case a_law_refused => k_is)
    (case l_law_refused => k_is)
    (case c_law_refused => k_is)
    (case k_law_refused => k_is)
    (case a_law_right => k_is)
    (case l_law_right => k_is)
    (case c_law_right => k_is)
    (case k_law_right => k_is)
    (case a_law => k_is)
    (case l_law => k_is)
    (case c_law => k_is)
    (case k_law => k_is)
    (case z_ValueError => k_is)
    (case z_all => k_is)
    (case z_any => k_is)
    (case z_bool => k_is)
    (case z_enumerate => k_is)
    (case z_int => k_is)
    (case z_isinstance => k_is)
    (case z_len => k_is)
    (case z_list => k_is)
    (case z_range => k_is)
    (case z_reversed => k_is)
    (case z_str => k_is)
    (case z_tuple => k_is)
    (case z_zip => k_is)
    (case x_LETTERS => k_is)
    (case x_MOST_LETTERS => k_is)
    (case x_MOST_STRANDS => k_is)
    (case x_FIGURES => k_is)
    (case x_MOST_DEEP => k_is)
    (case x_MOST_RUNS => k_is)
    (case n_WeaveError => k_is)
    (case n_TooLarge => k_is)
    (case n_NoCloth => k_is)
    (case n_NoLaying => k_is)
    (case n_NoBlock => k_is)
    (case n_NoPattern => k_is)
    (case n_Unknown => k_is)
    (case y1_WeaveError => k_exc)
    (case y2_WeaveError => k_is)
    (case y3_WeaveError => k_is)
    (case y4_WeaveError => k_is)
    (case y5_WeaveError => k_is)
    (case y6_WeaveError => k_is)
    (case y7_WeaveError => k_is)
    (case y8_WeaveError => k_is)
    (case y9_WeaveError => k_is)
    (case y10_WeaveError => k_is)
    (case y11_WeaveError => k_is)
    (case y1_TooLarge => k_exc)
    (case y2_TooLarge => k_is)
    (case y3_TooLarge => k_is)
    (case y4_TooLarge => k_is)
    (case y7_TooLarge => k_is)
    (case y8_TooLarge => k_is)
    (case y9_TooLarge => k_is)
    (case y10_TooLarge => k_is)
    (case y11_TooLarge => k_is)
    (case r_TooLarge_WeaveError => k_is)
    (case r_TooLarge_TooLarge => k_is)
    (case r_TooLarge_NoCloth => k_is)
    (case r_TooLarge_NoLaying => k_is)
    (case r_TooLarge_NoBlock => k_is)
    (case r_TooLarge_NoPattern => k_is)
    (case r_TooLarge_Unknown => k_is)
    (case y1_NoCloth => k_exc)
    (case y2_NoCloth => k_is)
    (case y3_NoCloth => k_is)
    (case y4_NoCloth => k_is)
    (case y7_NoCloth => k_is)
    (case y8_NoCloth => k_is)
    (case y9_NoCloth => k_is)
    (case y10_NoCloth => k_is)
    (case y11_NoCloth => k_is)
    (case y1_NoLaying => k_exc)
    (case y2_NoLaying => k_is)
    (case y3_NoLaying => k_is)
    (case y4_NoLaying => k_is)
    (case y7_NoLaying => k_is)
    (case y8_NoLaying => k_is)
    (case y9_NoLaying => k_is)
    (case y10_NoLaying => k_is)
    (case y11_NoLaying => k_is)
    (case y1_NoBlock => k_exc)
    (case y2_NoBlock => k_is)
    (case y3_NoBlock => k_is)
    (case y4_NoBlock => k_is)
    (case y7_NoBlock => k_is)
    (case y8_NoBlock => k_is)
    (case y9_NoBlock => k_is)
    (case y10_NoBlock => k_is)
    (case y11_NoBlock => k_is)
    (case y1_NoPattern => k_exc)
    (case y2_NoPattern => k_is)
    (case y3_NoPattern => k_is)
    (case y4_NoPattern => k_is)
    (case y7_NoPattern => k_is)
    (case y8_NoPattern => k_is)
    (case y9_NoPattern => k_is)
    (case y10_NoPattern => k_is)
    (case y11_NoPattern => k_is)
    (case r_NoPattern_WeaveError => k_is)
    (case r_NoPattern_TooLarge => k_is)
    (case r_NoPattern_NoCloth => k_is)
    (case r_NoPattern_NoLaying => k_is)
    (case r_NoPattern_NoBlock => k_is)
    (case r_NoPattern_NoPattern => k_is)
    (case r_NoPattern_Unknown => k_is)
    (case y1_Unknown => k_exc)
    (case y2_Unknown => k_is)
    (case y3_Unknown => k_is)
    (case y4_Unknown => k_is)
    (case y7_Unknown => k_is)
    (case y8_Unknown => k_is)
    (case y9_Unknown => k_is)
    (case y10_Unknown => k_is)
    (case y11_Unknown => k_is)
    (case fm_TooLarge => k_is)
    (case gm_TooLarge => k_is)
    (case lm_TooLarge => k_is)
    (case cm_TooLarge => k_is)
    (case km_TooLarge => k_is)
    (case fm_NoPattern => k_is)
    (case gm_NoPattern => k_is)
    (case lm_NoPattern => k_is)
    (case cm_NoPattern => k_is)
    (case km_NoPattern => k_is)
    (case n_Piece => k_is)
    (case n_Twill => k_is)
    (case n_Satin => k_is)
    (case n_Reader => k_is)
    (case fm_Piece___init__ => k_is)
    (case gm_Piece___init__ => k_is)
    (case lm_Piece___init__ => k_is)
    (case cm_Piece___init__ => k_is)
    (case km_Piece___init__ => k_is)
    (case fm_Piece_wide => k_is)
    (case gm_Piece_wide => k_is)
    (case lm_Piece_wide => k_is)
    (case cm_Piece_wide => k_is)
    (case km_Piece_wide => k_is)
    (case fm_Piece_high => k_is)
    (case gm_Piece_high => k_is)
    (case lm_Piece_high => k_is)
    (case cm_Piece_high => k_is)
    (case km_Piece_high => k_is)
    (case fm_Piece_sign => k_is)
    (case gm_Piece_sign => k_is)
    (case lm_Piece_sign => k_is)
    (case cm_Piece_sign => k_is)
    (case km_Piece_sign => k_is)
    (case fm_Piece_cloth => k_is)
    (case gm_Piece_cloth => k_is)
    (case lm_Piece_cloth => k_is)
    (case cm_Piece_cloth => k_is)
    (case km_Piece_cloth => k_is)
    (case fm_Piece_told => k_is)
    (case gm_Piece_told => k_is)
    (case lm_Piece_told => k_is)
    (case cm_Piece_told => k_is)
    (case km_Piece_told => k_is)
    (case fm_Twill___init__ => k_is)
    (case gm_Twill___init__ => k_is)
    (case lm_Twill___init__ => k_is)
    (case cm_Twill___init__ => k_is)
    (case km_Twill___init__ => k_is)
    (case fm_Satin___init__ => k_is)
    (case gm_Satin___init__ => k_is)
    (case lm_Satin___init__ => k_is)
    (case cm_Satin___init__ => k_is)
    (case km_Satin___init__ => k_is)
    (case fm_Reader___init__ => k_is)
    (case gm_Reader___init__ => k_is)
    (case lm_Reader___init__ => k_is)
    (case cm_Reader___init__ => k_is)
    (case km_Reader___init__ => k_is)
    (case fm_Reader_ended => k_is)
    (case gm_Reader_ended => k_is)
    (case lm_Reader_ended => k_is)
    (case cm_Reader_ended => k_is)
    (case km_Reader_ended => k_is)
    (case fm_Reader_took => k_is)
    (case gm_Reader_took => k_is)
    (case lm_Reader_took => k_is)
    (case cm_Reader_took => k_is)
    (case km_Reader_took => k_is)
    (case fm_Reader_stretch => k_is)
    (case gm_Reader_stretch => k_is)
    (case lm_Reader_stretch => k_is)
    (case cm_Reader_stretch => k_is)
    (case km_Reader_stretch => k_is)
    (case fm_Reader_number => k_is)
    (case gm_Reader_number => k_is)
    (case lm_Reader_number => k_is)
    (case cm_Reader_number => k_is)
    (case km_Reader_number => k_is)
    (case im_Twill_wide => k_is)
    (case im_Twill_high => k_is)
    (case im_Twill_sign => k_is)
    (case im_Twill_cloth => k_is)
    (case im_Twill_told => k_is)
    (case im_Satin_wide => k_is)
    (case im_Satin_high => k_is)
    (case im_Satin_sign => k_is)
    (case im_Satin_cloth => k_is)
    (case im_Satin_told => k_is)
    (case cf1_Piece => k_is)
    (case cf2_Piece => k_is)
    (case cf3_Piece => exact rfl)
    (case cf4_Piece => k_is)
    (case tb0_THINGS => k_is)
    (case tb1_THINGS => kernel_rfl)
    (case o1_Piece => k_is)
    (case o2_Piece => k_is)
    (case o3_Piece => k_is)
    (case o4_Piece => k_is)
    (case o5_Piece => k_is)
    (case o8_Piece => k_is)
    (case na_Piece_texts => k_is)
    (case na_Piece_writing => k_is)
    (case o1_Twill => k_is)
    (case o2_Twill => k_is)
    (case o3_Twill => k_is)
    (case o4_Twill => k_is)
    (case o5_Twill => k_is)
    (case o8_Twill => k_is)
    (case na_Twill_texts => k_is)
    (case na_Twill_writing => k_is)
    (case o1_Satin => k_is)
    (case o2_Satin => k_is)
    (case o3_Satin => k_is)
    (case o4_Satin => k_is)
    (case o5_Satin => k_is)
    (case o8_Satin => k_is)
    (case na_Satin_texts => k_is)
    (case na_Satin_writing => k_is)
    (case o1_Reader => k_is)
    (case o2_Reader => k_is)
    (case o3_Reader => k_is)
    (case o4_Reader => k_is)
    (case o5_Reader => k_is)
    (case o8_Reader => k_is)
    (case na_Reader_text => k_is)
    (case na_Reader_place => k_is)
    (case v1_Twill => k_is)
    (case v2_Twill => k_is)
    (case v3_Twill => k_is)
    (case v4_Twill => k_is)
    (case kb_Twill => kernel_rfl)
    (case v1_Satin => k_is)
    (case v2_Satin => k_is)
    (case v3_Satin => k_is)
    (case v4_Satin => k_is)
    (case kb_Satin => kernel_rfl)
  case S => exact fun K H a ns hl hO hS => Mine.sp_law_holds hl hS
  case C => exact fun _ _ _ _ z => z
