import PyProof.Rows.All
import Wide.All
import OpenK.AllK
import Wide.FinOn
import Lean
import PyProof.EqAt
import PyProof.EqKinds
import PyProof.TupleCall
import PyProof.StrBlockL
import PyProof.EnumMake
import PyProof.CollectIter
import PyProof.JoinWalk
import PyProof.StrOps
import PyProof.StrLawsIdx
import PyProof.StrLawsIn
import PyProof.ListRange
import PyProof.Rows.Range3
import PyProof.Rows.SumAny
import KE.KIntText
import KE.LcSums
import PyProof.LongRange
import PyProof.StrOps2
import PyProof.FitsBits
import PyProof.NeKinds
import PyProof.ConsumeWalk
import PyProof.Rows.ZipGen
import PyProof.Draws
import PyProof.Rows.SeqMore
import PyProof.Rows.StrNews
import PyProof.StrLawsChain
import PySem.Challenge.RW_heddle_k11_drafts_written
set_option Elab.async false
set_option linter.all false
set_option maxRecDepth 100000
namespace L2
open PySem PySem.Spec PyProof.Rows
abbrev Key := Sum Int Str
def keyIs : Key → Value → Bool
  | .inl k, v => Value.isInt k v
  | .inr x, v => Value.isStrOf x v
def keyH (w : World) : Key → Int
  | .inl k => hashInt k
  | .inr x => hashStr w x
theorem keyIs_shape : ∀ {k : Key} {v : Value}, keyIs k v = true → (∃ i t, k = Sum.inl i ∧ v = Value.int i t) ∨ (∃ x t, k = Sum.inr x ∧ v = Value.str x t)
  | .inl i, v, h => by
    obtain ⟨t, e⟩ := Value.isInt_shape (k := i) (v := v) h
    exact .inl ⟨i, t, rfl, e⟩
  | .inr x, v, h => by
    obtain ⟨t, e⟩ := Value.isStrOf_shape (x := x) (v := v) h
    exact .inr ⟨x, t, rfl, e⟩
theorem key_ll (a b : Int) : decide ((Sum.inl a : Key) = Sum.inl b) = (a == b) := by
  by_cases e : a = b
  · subst e; simp
  · have h : ¬ (Sum.inl a : Key) = Sum.inl b := fun q => e (Sum.inl.inj q)
    rw [decide_eq_false h]
    exact (beq_eq_false_iff_ne.mpr e).symm
theorem key_rr (a b : Str) : decide ((Sum.inr a : Key) = Sum.inr b) = decide (a = b) := by
  by_cases e : a = b
  · subst e; simp
  · have h : ¬ (Sum.inr a : Key) = Sum.inr b := fun q => e (Sum.inr.inj q)
    rw [decide_eq_false h, decide_eq_false e]
theorem key_lr (a : Int) (b : Str) : decide ((Sum.inl a : Key) = Sum.inr b) = false := decide_eq_false (fun q => nomatch q)
theorem key_rl (a : Str) (b : Int) : decide ((Sum.inr a : Key) = Sum.inl b) = false := decide_eq_false (fun q => nomatch q)
def mixKind (prog : Program) (w : World) : PySem.KeyKind prog w Key where
  is := keyIs
  hash := keyH w
  inj := fun v a b ha hb => by
    rcases keyIs_shape ha with ⟨i, t, rfl, rfl⟩ | ⟨x, t, rfl, rfl⟩
    · rcases keyIs_shape hb with ⟨j, u, rfl, e⟩ | ⟨y, u, rfl, e⟩
      · injection e with e1 _; rw [e1]
      · exact nomatch e
    · rcases keyIs_shape hb with ⟨j, u, rfl, e⟩ | ⟨y, u, rfl, e⟩
      · exact nomatch e
      · injection e with e1 _; rw [e1]
  byValue := fun k v h => by
    rcases keyIs_shape h with ⟨i, t, rfl, rfl⟩ | ⟨x, t, rfl, rfl⟩ <;> rfl
  pyHash := fun hv h => by
    rcases keyIs_shape hv with ⟨i, t, rfl, rfl⟩ | ⟨x, t, rfl, rfl⟩
    · exact wpAny_pyHash_int h
    · exact wpAny_pyHash_str h
  eqBool := fun hu hv h => by
    rcases keyIs_shape hu with ⟨i, t, rfl, rfl⟩ | ⟨x, t, rfl, rfl⟩
    · rcases keyIs_shape hv with ⟨j, u, rfl, rfl⟩ | ⟨y, u, rfl, rfl⟩
      · rw [key_ll] at h; exact wpAny_eqBool_int h
      · rw [key_lr] at h; exact SeqAt.EqAt.int_str i t y u _ _ _ _ h
    · rcases keyIs_shape hv with ⟨j, u, rfl, rfl⟩ | ⟨y, u, rfl, rfl⟩
      · rw [key_rl] at h; exact SeqAt.EqAt.str_int x t j u _ _ _ _ h
      · rw [key_rr] at h; exact wpAny_eqBool_str h
  «strs» := fun k x t v h => by
    rcases keyIs_shape h with ⟨i, u, rfl, e⟩ | ⟨y, u, rfl, e⟩
    · exact nomatch e
    · injection e with e1 _
      subst e1
      cases v <;> rfl
open PySem PySem.Spec PyProof.Rows
inductive V where
  | non | bl (b : Bool) | int (i : Int) | str (x : Str) | byt (b : Array UInt8) | flt (b : UInt64) | ref (a : Addr) | ty (n : String)
  deriving DecidableEq
def RelV : V → Value → Prop
  | .non, u => u = Value.none
  | .bl b, u => u = Value.bool b
  | .int i, u => ∃ t, u = Value.int i t
  | .str x, u => ∃ t, u = Value.str x t
  | .byt b, u => ∃ t, u = Value.bytes b t
  | .flt b, u => ∃ t, u = Value.float b t
  | .ref a, u => u = Value.ref a
  | .ty n, u => u = Value.type n
abbrev Vals : List V → List Value → Prop := Paired RelV
theorem Vals.length {xs : List V} {us : List Value} (r : Vals xs us) : xs.length = us.length := Paired.length r
theorem Vals.get : ∀ {xs : List V} {us : List Value} {i : Nat} {x : V}, Vals xs us → xs[i]? = some x → ∃ u, us[i]? = some u ∧ RelV x u
  | _, _, _, _, .nil, e => by simp at e
  | _, _, 0, _, .cons r _, e => by simp at e; subst e; exact ⟨_, rfl, r⟩
  | _, _, i + 1, x, .cons _ t, e => by
    obtain ⟨u, h1, h2⟩ := Vals.get (i := i) (x := x) t (by simpa using e)
    exact ⟨u, by simpa using h1, h2⟩
theorem Vals.set {x : V} {u : Value} (r : RelV x u) : ∀ {xs : List V} {us : List Value} (i : Nat), Vals xs us → Vals (xs.set i x) (us.set i u)
  | _, _, _, .nil => .nil
  | _, _, 0, .cons _ t => .cons r t
  | _, _, i + 1, .cons q t => .cons q (Vals.set r i t)
theorem Vals.append : ∀ {xs ys : List V} {us ws : List Value}, Vals xs us → Vals ys ws → Vals (xs ++ ys) (us ++ ws)
  | _, _, _, _, .nil, s => s
  | _, _, _, _, .cons r t, s => .cons r (Vals.append t s)
theorem Vals.take : ∀ {xs : List V} {us : List Value} (n : Nat), Vals xs us → Vals (xs.take n) (us.take n)
  | _, _, 0, _ => .nil
  | _, _, _ + 1, .nil => .nil
  | _, _, n + 1, .cons r t => .cons r (Vals.take n t)
theorem Vals.drop : ∀ {xs : List V} {us : List Value} (n : Nat), Vals xs us → Vals (xs.drop n) (us.drop n)
  | _, _, 0, r => r
  | _, _, _ + 1, .nil => .nil
  | _, _, n + 1, .cons _ t => Vals.drop n t
def RelO : Option V → Option Value → Prop
  | some v, some u => RelV v u
  | none, none => True
  | _, _ => False
def KV {κ : Type} : List (κ × V) → List (κ × Value) → Prop := Paired fun (p : κ × V) (q : κ × Value) => p.1 = q.1 ∧ RelV p.2 q.2
def kV : Key → V
  | .inl i => .int i
  | .inr x => .str x
inductive HO where
  | lst (xs : List V)
  | tup (xs : List V)
  | dK (kvs : List (Key × V)) | dT (kvs : List (List Key × V))
  | set (S : Int → Bool) (n : Nat)
  | ins (C dx : Addr) (fs : List (Str × V))
  | own (x : Addr)
  | xd (fs : List (Str × V))
  | met (f x : Addr)
  | rng (lo hi : Int)
  | frz (o : Obj) (u : HO)
  | tbl (ps : Array Value)
  | ext (φ : Heap → Prop)
abbrev Hp := Addr → Option HO
def upd (H : Hp) (a : Addr) (o : HO) : Hp := fun b => if b = a then some o else H b
theorem upd_same {H : Hp} {a : Addr} {o : HO} : upd H a o a = some o := by unfold upd; rw [if_pos rfl]
theorem upd_ne {H : Hp} {a b : Addr} {o : HO} (h : b ≠ a) : upd H a o b = H b := by unfold upd; rw [if_neg h]
theorem upd_upd {H : Hp} {a : Addr} {o u : HO} : upd (upd H a o) a u = upd H a u := by
  funext b; unfold upd; split <;> rfl
theorem ne_of_none {H : Hp} {a b : Addr} {o : HO} (h : H a = some o) (h' : H b = none) : a ≠ b := by
  intro e; subst e; rw [h] at h'; cases h'
section
variable (P : Program) (w : World)
def ObjOk (H : Hp) (h : Heap) (a : Addr) : HO → Prop
  | .lst xs => xs.length ≤ sizeLine ∧ ∃ (its : List Value) (n : Nat), Vals xs its ∧ h.get? a = some { cls := .type "list", data := .seq its.toArray n }
  | .tup xs => xs.length ≤ sizeLine ∧ ∃ its : List Value, Vals xs its ∧ IsTup h a its.toArray
  | .dK kvs => kvs.length ≤ sizeLine ∧ (a == sysModules) = false ∧ ∃ vs, KV kvs vs ∧ h.DictOf (mixKind P w) a vs
  | .dT kvs => kvs.length ≤ sizeLine ∧ (a == sysModules) = false ∧ ∃ xs : List (List Key × Addr × Value),
      Paired (fun (p : List Key × V) (q : List Key × Addr × Value) => p.1 = q.1 ∧ H q.2.1 = some (.tup (p.1.map kV)) ∧ RelV p.2 q.2.2) kvs xs ∧
      ∃ o es ep, h.get? a = some o ∧ o.ExactDict ∧ o.data = .dict es ep ∧ es.toList = xs.map (entryOfKey (tupleKind (mixKind P w))) ∧ (xs.map (·.1)).Nodup
  | .set S n => h.SetOf (intKind P w) a S n
  | .ins C dx fs => H dx = some (.own a) ∧ fs.length ≤ 1000 ∧ dx ≠ a ∧ h.get? a = some (PySem.W.instObj C dx) ∧
      ∃ mA, h.Ns1 dx mA ∧ (∀ f, RelO (fs.lookup f) (mA f)) ∧ PySem.Within mA (fs.map (·.1))
  | .own _ => ∃ o, h.get? a = some o
  | .xd fs => ∃ mA, h.Ns1 a mA ∧ ∀ f, RelO (fs.lookup f) (mA f)
  | .rng lo hi => ∃ t u v, h.get? a = some { cls := .type "range", data := .fields #[.int lo t, .int hi u, .int 1 v] }
  | .frz o u => h.get? a = some o ∧ ObjOk H h a u
  | .tbl ps => h.get? a = some { cls := .none, data := .fields ps }
  | .met f x => h.get? a = some (PySem.W.methodObj (.ref f) (.ref x))
  | .ext φ => φ h ∧ (∃ o, h.get? a = some o) ∧ ∀ h1 h2 : Heap, φ h1 → (∀ o, h1.get? a = some o → h2.get? a = some o) → φ h2
def HOk (H : Hp) (h : Heap) : Prop := ∀ a o, H a = some o → ObjOk P w H h a o
end
section
variable {P : Program} {w : World} {H H' : Hp} {h h' : Heap} {a : Addr} {o : HO}
theorem ObjOk.lt (x : ObjOk P w H h a o) : a < h.objs.size := by
  cases o with
  | lst xs => obtain ⟨_, _, _, _, e⟩ := x; exact Heap.lt_size e
  | tup xs => obtain ⟨_, _, _, p⟩ := x; exact p.lt
  | dK kvs => obtain ⟨_, _, _, _, o, _, _, e, _⟩ := x; exact Heap.lt_size e
  | dT kvs => obtain ⟨_, _, _, _, o, _, _, e, _⟩ := x; exact Heap.lt_size e
  | set S n => obtain ⟨o, _, _, _, e, _⟩ := x; exact Heap.lt_size e
  | ins C dx fs => obtain ⟨_, _, _, e, _⟩ := x; exact Heap.lt_size e
  | own y => obtain ⟨_, e⟩ := x; exact Heap.lt_size e
  | xd fs => obtain ⟨_, ⟨_, _, _, e, _⟩, _⟩ := x; exact Heap.lt_size e
  | rng lo hi => obtain ⟨_, _, _, e⟩ := x; exact Heap.lt_size e
  | frz ob u => obtain ⟨e, _⟩ := x; exact Heap.lt_size e
  | tbl ps => exact Heap.lt_size (show h.get? a = some _ from x)
  | met f y => exact Heap.lt_size (show h.get? a = some _ from x)
  | ext φ => obtain ⟨_, ⟨_, e⟩, _⟩ := x; exact Heap.lt_size e
theorem Paired.mapP {α β : Type} {F G : α → β → Prop} : ∀ {l₁ : List α} {l₂ : List β}, Paired F l₁ l₂ → (∀ a b, F a b → G a b) → Paired G l₁ l₂
  | _, _, .nil, _ => .nil
  | _, _, .cons r t, f => .cons (f _ _ r) (Paired.mapP t f)
theorem ObjOk.stay (x : ObjOk P w H h a o) (k : ∀ b u, (b = a ∨ H b = some (.own a)) → h.get? b = some u → h'.get? b = some u)
    (ho : ∀ b, H b = some (.own a) → H' b = some (.own a)) (ht : ∀ b xs, H b = some (.tup xs) → H' b = some (.tup xs)) : ObjOk P w H' h' a o := by
  induction o with
  | lst xs => obtain ⟨z, its, n, r, e⟩ := x; exact ⟨z, its, n, r, k _ _ (.inl rfl) e⟩
  | tup xs => obtain ⟨z, its, r, ob, e, c⟩ := x; exact ⟨z, its, r, ob, k _ _ (.inl rfl) e, c⟩
  | dK kvs => obtain ⟨z, y, vs, r, ob, es, ep, e, c⟩ := x; exact ⟨z, y, vs, r, ob, es, ep, k _ _ (.inl rfl) e, c⟩
  | dT kvs =>
    obtain ⟨z, y, xs, r, ob, es, ep, e, c⟩ := x
    exact ⟨z, y, xs, Paired.mapP r fun p q z => ⟨z.1, ht _ _ z.2.1, z.2.2⟩, ob, es, ep, k _ _ (.inl rfl) e, c⟩
  | set S n => obtain ⟨ob, es, ep, t, e, c⟩ := x; exact ⟨ob, es, ep, t, k _ _ (.inl rfl) e, c⟩
  | ins C dx fs =>
    obtain ⟨d, z, ne, e, mA, ⟨od, es, ep, e2, c⟩, r⟩ := x
    exact ⟨ho _ d, z, ne, k _ _ (.inl rfl) e, mA, ⟨od, es, ep, k _ _ (.inr d) e2, c⟩, r⟩
  | own y => obtain ⟨ob, e⟩ := x; exact ⟨ob, k _ _ (.inl rfl) e⟩
  | xd fs => obtain ⟨mA, ⟨od, es, ep, e, c⟩, r⟩ := x; exact ⟨mA, ⟨od, es, ep, k _ _ (.inl rfl) e, c⟩, r⟩
  | rng lo hi => obtain ⟨t, u, v, e⟩ := x; exact ⟨t, u, v, k _ _ (.inl rfl) e⟩
  | frz ob u ih => obtain ⟨e, q⟩ := x; exact ⟨k _ _ (.inl rfl) e, ih q⟩
  | tbl ps =>
    have e : h.get? a = some { cls := .none, data := .fields ps } := x
    show h'.get? a = some { cls := .none, data := .fields ps }
    exact k a _ (.inl rfl) e
  | met f y =>
    have e : h.get? a = some (PySem.W.methodObj (.ref f) (.ref y)) := x
    show h'.get? a = some (PySem.W.methodObj (.ref f) (.ref y))
    exact k a _ (.inl rfl) e
  | ext φ => obtain ⟨p, ⟨o, e⟩, st⟩ := x; exact ⟨st _ _ p fun o q => k _ _ (.inl rfl) q, ⟨o, k _ _ (.inl rfl) e⟩, st⟩
theorem HOk.lt (x : HOk P w H h) (e : H a = some o) : a < h.objs.size := (x a o e).lt
theorem HOk.fresh (x : HOk P w H h) (e : h.objs.size ≤ a) : H a = none := by
  cases q : H a with
  | none => rfl
  | some u => exact absurd (Nat.lt_of_lt_of_le (x.lt q) e) (Nat.lt_irrefl _)
theorem HOk.kept (x : HOk P w H h) (k : ∀ b u, h.get? b = some u → h'.get? b = some u) : HOk P w H h' := fun a o e =>
  (x a o e).stay (fun b u _ q => k b u q) (fun _ q => q) fun _ _ q => q
theorem HOk.laid (x : HOk P w H h) (k : ∀ b u, h.get? b = some u → h'.get? b = some u) (hp : h.objs.size ≤ a) (new : ObjOk P w (upd H a o) h' a o) : HOk P w (upd H a o) h' := fun b u e => by
  have hn := x.fresh hp
  by_cases hb : b = a
  · subst hb; rw [upd_same] at e; cases e; exact new
  · rw [upd_ne hb] at e
    exact (x b u e).stay (fun c v _ q => k c v q) (fun c q => by rw [upd_ne (ne_of_none q hn)]; exact q) fun c xs q => by rw [upd_ne (ne_of_none q hn)]; exact q
end
def Rd (H : Hp) (a : Addr) (u : HO) : Prop := H a = some u ∨ ∃ o, H a = some (.frz o u)
theorem Rd.ok {P : Program} {w : World} {H : Hp} {h : Heap} {a : Addr} {u : HO} (r : Rd H a u) (x : HOk P w H h) : ObjOk P w H h a u := by
  rcases r with r | ⟨o, r⟩
  · exact x a u r
  · obtain ⟨_, q⟩ := x a _ r
    exact q
def Mut : Option HO → Prop
  | some (.lst _) => True
  | some (.dK _) => True
  | some (.dT _) => True
  | some (.set _ _) => True
  | some (.ins _ _ _) => True
  | some (.ext _) => True
  | _ => False
section
variable {P : Program} {w : World} {H : Hp} {h h' : Heap} {x e : Addr} {o' : HO}
theorem HOk.write (ok : HOk P w H h) (mu : Mut (H x)) (he : e = x ∨ H e = some (.own x)) (k : ∀ b u, b ≠ e → h.get? b = some u → h'.get? b = some u) (heo : ∃ u, h'.get? e = some u)
    (new : ObjOk P w (upd H x o') h' x o') : HOk P w (upd H x o') h' := fun b u q => by
  have nown : ∀ c y, H c = some (.own y) → c ≠ x := fun c y r z => by subst z; rw [r] at mu; exact mu
  have ntup : ∀ c xs, H c = some (.tup xs) → c ≠ x := fun c xs r z => by subst z; rw [r] at mu; exact mu
  by_cases hb : b = x
  · subst hb; rw [upd_same] at q; cases q; exact new
  · rw [upd_ne hb] at q
    by_cases hbe : b = e
    · have q' : H b = some (.own x) := by
        rcases he with z | z
        · exact absurd (hbe.trans z) hb
        · rw [hbe]; exact z
      rw [q] at q'; cases q'
      obtain ⟨v, hv⟩ := heo
      exact ⟨v, by rw [hbe]; exact hv⟩
    · refine (ok b u q).stay (fun c v hc r => k c v ?_ r) (fun c r => by rw [upd_ne (nown c b r)]; exact r) fun c xs r => by rw [upd_ne (ntup c xs r)]; exact r
      rcases hc with rfl | hc
      · exact hbe
      · rintro rfl
        rcases he with z | z
        · exact nown c b hc z
        · rw [hc] at z; cases z; exact hb rfl
end
structure Un (fs ex : List Addr) (H H' : Hp) (h h' : Heap) : Prop where
  keep : ∀ b o, h.get? b = some o → H b = none → b ∉ fs → b ∉ ex → h'.get? b = some o
  slot : ∀ b o, h.get? b = some o → H b = none → b ∈ fs → b ∉ ex → ∃ sl, h'.get? b = some { o with slots := sl }
  free : ∀ b o, h.get? b = some o → H b = none → b ∉ ex → H' b = none
  there : ∀ b o, h.get? b = some o → b ∉ ex → ∃ o', h'.get? b = some o'
  tups : ∀ b xs, H b = some (.tup xs) → H' b = some (.tup xs)
  frzs : ∀ b o u, H b = some (.frz o u) → H' b = some (.frz o u)
  tbls : ∀ b ps, H b = some (.tbl ps) → ∃ more, H' b = some (.tbl (ps ++ more))
section
variable {fs fs' ex ex' : List Addr} {H H1 H2 : Hp} {h h1 h2 h' : Heap} {a x e : Addr} {o : HO}
theorem Un.any (u : Un fs ex H H1 h h1) {b : Addr} {ob : Obj} (q : h.get? b = some ob) (n : H b = none) (hx : b ∉ ex) : ∃ sl, h1.get? b = some { ob with slots := sl } := by
  by_cases hb : b ∈ fs
  · exact u.slot b ob q n hb hx
  · exact ⟨ob.slots, u.keep b ob q n hb hx⟩
theorem Un.kept (k : ∀ b u, h.get? b = some u → h'.get? b = some u) : Un fs ex H H h h' :=
  ⟨fun b ob q _ _ _ => k b ob q, fun b ob q _ _ _ => ⟨ob.slots, k b ob q⟩, fun _ _ _ n _ => n, fun b ob q _ => ⟨ob, k b ob q⟩, fun _ _ q => q, fun _ _ _ q => q, fun _ ps q => ⟨#[], by rw [q]; simp⟩⟩
theorem Un.refl : Un fs ex H H h h := Un.kept fun _ _ q => q
theorem Un.laid (k : ∀ b u, h.get? b = some u → h'.get? b = some u) (hp : h.objs.size ≤ a) (hn : H a = none) : Un fs ex H (upd H a o) h h' where
  keep := fun b u q _ _ _ => k b u q
  slot := fun b u q _ _ _ => ⟨u.slots, k b u q⟩
  free := fun b u q n _ => by rw [upd_ne (Nat.ne_of_lt (Nat.lt_of_lt_of_le (Heap.lt_size q) hp))]; exact n
  there := fun b u q _ => ⟨u, k b u q⟩
  tups := fun b xs q => by rw [upd_ne (ne_of_none q hn)]; exact q
  frzs := fun b u xs q => by rw [upd_ne (ne_of_none q hn)]; exact q
  tbls := fun b ps q => ⟨#[], by rw [upd_ne (ne_of_none q hn), q]; simp⟩
theorem Un.write (mu : Mut (H x)) (he : e = x ∨ H e = some (.own x)) (k : ∀ b u, b ≠ e → h.get? b = some u → h'.get? b = some u) (heo : ∃ u, h'.get? e = some u) : Un fs ex H (upd H x o) h h' := by
  have hx : ∀ b, H b = none → b ≠ x := fun b n z => by subst z; rw [n] at mu; exact mu
  have hb : ∀ b, H b = none → b ≠ e := fun b n z => by
    subst z
    rcases he with r | r
    · exact hx b n r
    · rw [n] at r; cases r
  have hm : ∀ b u, H b = some u → ¬ Mut (some u) → b ≠ x := fun b u q nm z => by subst z; rw [q] at mu; exact nm mu
  refine ⟨fun b u q n _ _ => k b u (hb b n) q, fun b u q n _ _ => ⟨u.slots, k b u (hb b n) q⟩, fun b u q n _ => by rw [upd_ne (hx b n)]; exact n, fun b u q _ => ?_,
    fun b xs q => by rw [upd_ne (hm b _ q fun z => z)]; exact q, fun b u xs q => by rw [upd_ne (hm b _ q fun z => z)]; exact q, fun b ps q => ⟨#[], by rw [upd_ne (hm b _ q fun z => z), q]; simp⟩⟩
  by_cases hbe : b = e
  · subst hbe; exact heo
  · exact ⟨u, k b u hbe q⟩
end
def trk (h : Heap) (H : Hp) : List Addr := (List.range h.objs.size).filter fun a => (H a).isSome
def hidT (h : Heap) (H : Hp) : Heap := PySem.W.hideAll h (trk h H)
theorem hidT_size (h : Heap) (H : Hp) : (hidT h H).objs.size = h.objs.size := PySem.W.hideAll_size _ _
theorem hidT_get {h : Heap} {H : Hp} {b : Addr} {o : Obj} (e : h.get? b = some o) (n : H b = none) : (hidT h H).get? b = some o :=
  PySem.W.hideAll_get _ e fun hm => by
    have q : (H b).isSome = true := (List.mem_filter.mp hm).2
    rw [n] at q; simp at q
theorem of_hidT {h : Heap} {H : Hp} {b : Addr} {o : Obj} (e : (hidT h H).get? b = some o) : h.get? b = some o ∧ H b = none := by
  have e' : h.get? b = some o := PySem.W.of_hideAll (trk h H) e
  refine ⟨e', ?_⟩
  cases q : H b with
  | none => rfl
  | some x =>
    have hm : b ∈ trk h H := List.mem_filter.mpr ⟨List.mem_range.mpr (Heap.lt_size e'), by simp [q]⟩
    have z : (hidT h H).get? b = none := PySem.W.hideAll_none (trk h H) hm
    rw [z] at e; cases e
def allNews (g h : Heap) (L : Addr) : List (Addr × Obj) := (List.range h.objs.size).filterMap fun a => if a = L ∨ (g.get? a).isSome = true then none else (h.get? a).map fun o => (a, o)
def rest (g h : Heap) (L d : Addr) : List (Addr × Obj) := (allNews g h L).filter fun p => decide (p.1 ≠ d)
open PySem PySem.Spec PyProof.Rows
structure Mod (K : PySem.W.Frag) (mg : Str → Option Value) (base : Heap) : Prop where
  kin : K.In base
  glob : base.Ns mainGlobals mg
  blt : ∃ mb, base.Ns builtinsNs mb ∧ ∀ x : Str, x ≠ "__name__" → mb x = bootBuiltins x
  nolimit : base.NoLimit
structure Cx where
  prog : Program
  w : World
  K : PySem.W.Frag
  mg : Str → Option Value
  base : Heap
  A : Around
  N : List Str
  s₀ : Shared
  H₀ : Hp
  env : Env
  outer : List Env
  stack : List Env
  ex : List Addr
  fn : Str → Bool
  calm : Bool
  pn : List (Addr × Obj)
  xe : Value → Shared → Prop
def frs (l : List Env) : List Addr := l.filterMap (·.frame)
abbrev Cx.fs (X : Cx) : List Addr := frs X.outer
def Vis (sc : Scope) (x : Str) : Prop := sc.names.lookup x = some .local ∨ sc.names.lookup x = some .cell ∨ sc.names.lookup x = some .free
def Loc (sc : Scope) (x : Str) : Prop := sc.names.lookup x = some .local ∨ sc.names.lookup x = some .cell
def Look (env : Env) (h : Heap) (m : Str → Option Value) (x : Str) (u : Value) : Prop :=
  (env.kindOf x = some .local ∧ m x = some u) ∨ ((env.kindOf x = some .cell ∨ env.kindOf x = some .free) ∧ ∃ c, env.cells.lookup x = some c ∧ h.IsCell c (some u))
structure Cx.Ok (X : Cx) : Prop where
  mod : Mod X.K X.mg X.base
  kind : X.env.scope.kind = .function
  glob : X.env.globals = mainGlobals
  blt : X.env.builtins = builtinsNs
  above : X.s₀.heap.objs.size ≤ X.env.locals
  inj : ∀ x y c, X.env.cells.lookup x = some c → X.env.cells.lookup y = some c → x = y
  has : ∀ x, (X.env.kindOf x = some .cell ∨ X.env.kindOf x = some .free) → ∃ c, X.env.cells.lookup x = some c
  cab : ∀ x c, X.fn x = true → X.env.cells.lookup x = some c → X.s₀.heap.objs.size ≤ c
  hd : X.calm = true → X.A.handled = none
  frames : X.A.frames = some X.stack
  stk : X.stack = X.outer ∨ (X.stack = X.env :: X.outer ∧ X.env.frame = some X.env.locals)
  exf : ∀ b ∈ X.ex, b ≠ X.env.locals ∧ ∀ x c, X.env.cells.lookup x = some c → c ≠ b
  bs : ∀ b o, X.base.get? b = some o → X.s₀.heap.get? b = some o ∧ X.H₀ b = none
  bsz : X.base.objs.size ≤ X.s₀.heap.objs.size
  noex : ∀ b o, X.base.get? b = some o → b ∉ X.ex
  exfs : ∀ b ∈ X.ex, b ∉ X.fs
  funs : X.s₀.heap.FunFrames X.base X.outer
  frf : ∀ b ∈ X.fs, X.H₀ b = none
structure Inv (X : Cx) (pins : List (Addr × Obj)) (σ : List (Option V)) (H : Hp) (s : Shared) : Prop where
  ok : X.Ok
  os : s.os = X.s₀.os
  bare : AllBare s.gens
  base : Un X.fs X.ex X.H₀ H X.s₀.heap s.heap
  loc : ∃ m, s.heap.Ns X.env.locals m ∧ ∀ (i : Nat) (x : Str) (v : V), X.N[i]? = some x → σ[i]? = some (some v) → Vis X.env.scope x → ∃ u, RelV v u ∧ Look X.env s.heap m x u
  cell : ∀ x c, X.env.cells.lookup x = some c → ∃ v, s.heap.IsCell c v
  free : H X.env.locals = none
  freeC : ∀ x c, X.env.cells.lookup x = some c → H c = none
  pin : ∀ p ∈ X.pn ++ pins, s.heap.get? p.1 = some p.2 ∧ H p.1 = none ∧ p.1 ≠ X.env.locals ∧ p.1 ∉ X.fs ∧ ∀ v, p.2.data ≠ .cell v
  hok : HOk X.prog X.w H s.heap
  len : σ.length = X.N.length
section
variable {X : Cx} {pins : List (Addr × Obj)} {σ : List (Option V)} {H H' : Hp} {s : Shared} {h' : Heap}
theorem Cx.Ok.nofr (ok : X.Ok) {b : Addr} {o : Obj} (e : X.base.get? b = some o) : b ∉ X.fs := fun hb => by
  have := (ok.funs.mem hb).1
  rw [e] at this; cases this
theorem Inv.bs (I : Inv X pins σ H s) : ∀ b o, X.base.get? b = some o → s.heap.get? b = some o ∧ H b = none := fun b o e =>
  ⟨I.base.keep b o (I.ok.bs b o e).1 (I.ok.bs b o e).2 (I.ok.nofr e) (I.ok.noex b o e), I.base.free b o (I.ok.bs b o e).1 (I.ok.bs b o e).2 (I.ok.noex b o e)⟩
theorem Inv.bk (I : Inv X pins σ H s) : ∀ b o, X.base.get? b = some o → s.heap.get? b = some o := fun b o e => (I.bs b o e).1
theorem Inv.mod (I : Inv X pins σ H s) : Mod X.K X.mg X.base := I.ok.mod
theorem Inv.kIn (I : Inv X pins σ H s) : X.K.In s.heap := I.ok.mod.kin.keeps I.bk
theorem Inv.lt (I : Inv X pins σ H s) : X.env.locals < s.heap.objs.size := let ⟨_, hn, _⟩ := I.loc; hn.lt
theorem Inv.sz (I : Inv X pins σ H s) : X.s₀.heap.objs.size ≤ s.heap.objs.size := Nat.le_trans I.ok.above (Nat.le_of_lt I.lt)
theorem Inv.nofs (I : Inv X pins σ H s) {a : Addr} (h : s.heap.objs.size ≤ a) : a ∉ X.fs := fun hb => by
  obtain ⟨_, o, ho, _⟩ := I.ok.funs.mem hb
  exact absurd (Nat.lt_of_lt_of_le (Heap.lt_size ho) (Nat.le_trans I.sz h)) (Nat.lt_irrefl _)
theorem Inv.cne (I : Inv X pins σ H s) : ∀ x c, X.env.cells.lookup x = some c → c ≠ X.env.locals := fun x c e z => by
  obtain ⟨v, o, ho, hd⟩ := I.cell x c e
  obtain ⟨m, ⟨o', es, ep, ho', hd', _⟩, _⟩ := I.loc
  rw [z, ho'] at ho; cases ho; rw [hd'] at hd; cases hd
theorem Inv.funs (I : Inv X pins σ H s) : s.heap.FunFrames X.base X.outer := by
  have all : ∀ (l : List Env), (∀ b ∈ frs l, b ∈ X.fs) → X.s₀.heap.FunFrames X.base l → s.heap.FunFrames X.base l := by
    intro l
    induction l with
    | nil => intro _ _; trivial
    | cons env r ih =>
      intro hs hl
      obtain ⟨hk, ⟨L, o, hf, hn, ho, hd⟩, hr⟩ := hl
      have hL : L ∈ X.fs := hs L (by unfold frs; rw [List.filterMap_cons, hf]; exact List.mem_cons_self)
      obtain ⟨sl, e⟩ := I.base.slot L o ho (I.ok.frf L hL) hL fun z => I.ok.exfs L z hL
      exact ⟨hk, ⟨L, _, hf, hn, e, hd⟩, ih (fun b hb => hs b (by unfold frs; rw [List.filterMap_cons, hf]; exact List.mem_cons_of_mem _ hb)) hr⟩
  exact all X.outer (fun _ hb => hb) I.ok.funs
theorem Inv.stack (I : Inv X pins σ H s) : s.heap.FunFrames X.base X.stack := by
  rcases I.ok.stk with e | ⟨e, hf⟩
  · rw [e]; exact I.funs
  · rw [e]
    obtain ⟨m, hn, _⟩ := I.loc
    refine .cons (by rw [I.ok.kind]; decide) hf hn ?_ I.funs
    exact Heap.get?_none_of_le (Nat.le_trans I.ok.bsz I.ok.above)
theorem Inv.stkSub (I : Inv X pins σ H s) : ∀ b ∈ frs X.stack, b ∈ X.env.locals :: X.fs := fun b hb => by
  rcases I.ok.stk with e | ⟨e, hf⟩
  · rw [e] at hb; exact List.mem_cons_of_mem _ hb
  · rw [e] at hb
    unfold frs at hb
    rw [List.filterMap_cons, hf] at hb
    exact hb
theorem Inv.stkFree (I : Inv X pins σ H s) : ∀ b ∈ frs X.stack, H b = none := fun b hb => by
  rcases List.mem_cons.mp (I.stkSub b hb) with e | hb
  · rw [e]; exact I.free
  · obtain ⟨_, o, ho, _⟩ := I.ok.funs.mem hb
    exact I.base.free b o ho (I.ok.frf b hb) fun z => I.ok.exfs b z hb
theorem Inv.step {g' : Array GenState} {t' : Nat} {d' : Drawn} {ch : List Addr} (I : Inv X pins σ H s)
    (hch : ∀ b ∈ ch, (b ∈ X.ex ∨ X.s₀.heap.objs.size ≤ b) ∧ b ≠ X.env.locals ∧ (∀ x c, X.env.cells.lookup x = some c → c ≠ b) ∧ ∀ p ∈ X.pn ++ pins, p.1 ≠ b)
    (keep : ∀ b o, b ≠ X.env.locals → b ∉ X.fs → b ∉ ch → s.heap.get? b = some o → H b = none → h'.get? b = some o)
    (slot : ∀ b o, b ≠ X.env.locals → b ∈ X.fs → b ∉ ch → s.heap.get? b = some o → H b = none → ∃ sl, h'.get? b = some { o with slots := sl }) (free : ∀ b o, b ∉ ch → s.heap.get? b = some o → H b = none → H' b = none)
    (there : ∀ b o, b ∉ ch → s.heap.get? b = some o → ∃ o', h'.get? b = some o')
    (tups : ∀ b xs, H b = some (.tup xs) → H' b = some (.tup xs)) (frzs : ∀ b o u, H b = some (.frz o u) → H' b = some (.frz o u)) (tbls : ∀ b ps, H b = some (.tbl ps) → ∃ more, H' b = some (.tbl (ps ++ more)))
    (ns : ∀ m, s.heap.Ns X.env.locals m → h'.Ns X.env.locals m) (hok : HOk X.prog X.w H' h') (hg : AllBare g') :
    Inv X pins σ H' { s with heap := h', gens := g', drawn := d', toks := t' } := by
  have neL : ∀ b o, X.s₀.heap.get? b = some o → b ≠ X.env.locals := fun b o e => Nat.ne_of_lt (Nat.lt_of_lt_of_le (Heap.lt_size e) I.ok.above)
  have neC : ∀ b o, X.s₀.heap.get? b = some o → b ∉ X.ex → b ∉ ch := fun b o e hx hb => by
    rcases (hch b hb).1 with z | z
    · exact hx z
    · exact absurd (Nat.lt_of_lt_of_le (Heap.lt_size e) z) (Nat.lt_irrefl _)
  have cellK : ∀ x c, X.env.cells.lookup x = some c → ∀ v, s.heap.IsCell c v → h'.IsCell c v := fun x c e v ⟨o, ho, hd⟩ => by
    have nch : c ∉ ch := fun z => (hch c z).2.2.1 x c e rfl
    by_cases hc : c ∈ X.fs
    · obtain ⟨sl, q⟩ := slot c o (I.cne x c e) hc nch ho (I.freeC x c e)
      exact ⟨_, q, hd⟩
    · exact ⟨o, keep c o (I.cne x c e) hc nch ho (I.freeC x c e), hd⟩
  refine ⟨I.ok, I.os, hg, ⟨fun b o e n hb hx => ?_, fun b o e n hb hx => ?_, fun b o e n hx => ?_, fun b o e hx => ?_, fun b xs e => tups b xs (I.base.tups b xs e), fun b o xs e => frzs b o xs (I.base.frzs b o xs e), fun b ps e => ?_⟩, ?_, fun x c e => ?_, ?_, fun x c e => ?_, fun p hp => ?_, hok, I.len⟩
  · exact keep b o (neL b o e) hb (neC b o e hx) (I.base.keep b o e n hb hx) (I.base.free b o e n hx)
  · obtain ⟨sl, e1⟩ := I.base.slot b o e n hb hx
    obtain ⟨sl', e2⟩ := slot b _ (neL b o e) hb (neC b o e hx) e1 (I.base.free b o e n hx)
    exact ⟨sl', e2⟩
  · obtain ⟨o', e1⟩ := I.base.there b o e hx
    exact free b o' (neC b o e hx) e1 (I.base.free b o e n hx)
  · obtain ⟨o', e1⟩ := I.base.there b o e hx
    exact there b o' (neC b o e hx) e1
  · obtain ⟨m1, e1⟩ := I.base.tbls b ps e
    obtain ⟨m2, e2⟩ := tbls b _ e1
    exact ⟨m1 ++ m2, by rw [e2, Array.append_assoc]⟩
  · obtain ⟨m, hn, hl⟩ := I.loc
    refine ⟨m, ns m hn, fun i x v e1 e2 e3 => ?_⟩
    obtain ⟨u, r, l⟩ := hl i x v e1 e2 e3
    refine ⟨u, r, ?_⟩
    rcases l with l | ⟨k, c, e, z⟩
    · exact .inl l
    · exact .inr ⟨k, c, e, cellK x c e _ z⟩
  · obtain ⟨v, z⟩ := I.cell x c e
    exact ⟨v, cellK x c e v z⟩
  · obtain ⟨m, ⟨o, _, _, ho, _⟩, _⟩ := I.loc
    exact free _ o (fun z => (hch _ z).2.1 rfl) ho I.free
  · obtain ⟨v, o, ho, hd⟩ := I.cell x c e
    exact free c o (fun z => (hch c z).2.2.1 x c e rfl) ho (I.freeC x c e)
  · obtain ⟨e, n, ne, nf, d⟩ := I.pin p hp
    have nch : p.1 ∉ ch := fun z => (hch p.1 z).2.2.2 p hp rfl
    exact ⟨keep p.1 p.2 ne nf nch e n, free p.1 p.2 nch e n, ne, nf, d⟩
theorem Inv.un {t' : Nat} (I : Inv X pins σ H s) (u : Un X.fs [] H H' s.heap h') (hok : HOk X.prog X.w H' h') : Inv X pins σ H' { s with heap := h', toks := t' } := by
  obtain ⟨m, ⟨o, es, ep, ho, r⟩, _⟩ := id I.loc
  obtain ⟨sl, hL⟩ := u.any ho I.free (by simp)
  exact I.step (g' := s.gens) (d' := s.drawn) (ch := []) (fun _ z => nomatch z) (fun b o _ hb _ e n => u.keep b o e n hb (by simp)) (fun b o _ hb _ e n => u.slot b o e n hb (by simp)) (fun b o _ e n => u.free b o e n (by simp)) (fun b o _ e => u.there b o e (by simp)) u.tups u.frzs u.tbls (fun m' hm => by
    obtain ⟨o', es', ep', ho', r'⟩ := hm
    rw [ho] at ho'; cases ho'
    exact ⟨_, es', ep', hL, r'⟩) hok I.bare
theorem Inv.call {g' : Array GenState} {t' : Nat} {d' : Drawn} {ch : List Addr} (I : Inv X pins σ H s) (u : Un (frs X.stack) ch H H' s.heap h') (hok : HOk X.prog X.w H' h') (hg : AllBare g')
    (hch : ∀ b ∈ ch, (b ∈ X.ex ∨ X.s₀.heap.objs.size ≤ b) ∧ b ≠ X.env.locals ∧ (∀ x c, X.env.cells.lookup x = some c → c ≠ b) ∧ ∀ p ∈ X.pn ++ pins, p.1 ≠ b) :
    Inv X pins σ H' { s with heap := h', gens := g', drawn := d', toks := t' } := by
  obtain ⟨m, ⟨o, es, ep, ho, r⟩, _⟩ := id I.loc
  obtain ⟨sl, hL⟩ := u.any ho I.free fun z => (hch _ z).2.1 rfl
  exact I.step (ch := ch) hch (fun b o hL hb hc e n => u.keep b o e n (fun z => (List.mem_cons.mp (I.stkSub b z)).elim hL hb) hc) (fun b o _ _ hc e n => u.any e n hc) (fun b o hc e n => u.free b o e n hc) (fun b o hc e => u.there b o e hc) u.tups u.frzs u.tbls (fun m' hm => by
    obtain ⟨o', es', ep', ho', r'⟩ := hm
    rw [ho] at ho'; cases ho'
    exact ⟨_, es', ep', hL, r'⟩) hok hg
theorem Inv.turned {t' : Nat} {it : Addr} (I : Inv X pins σ H s) (k : ∀ b o, b ≠ it → s.heap.get? b = some o → h'.get? b = some o) (hn : H it = none) (hL : it ≠ X.env.locals)
    (h1 : it ∈ X.ex ∨ X.s₀.heap.objs.size ≤ it) (h2 : ∀ x c, X.env.cells.lookup x = some c → c ≠ it) (h3 : ∀ p ∈ X.pn ++ pins, p.1 ≠ it) : Inv X pins σ H { s with heap := h', toks := t' } := by
  have nit : ∀ b u, H b = some u → b ≠ it := fun b u e z => by rw [z, hn] at e; cases e
  refine I.step (g' := s.gens) (d' := s.drawn) (ch := [it]) (fun b hb => ?_) (fun b o _ _ hc e _ => k b o (fun z => hc (by simp [z])) e) (fun b o _ _ hc e _ => ⟨o.slots, k b o (fun z => hc (by simp [z])) e⟩) (fun _ _ _ _ n => n)
    (fun b o hc e => ⟨o, k b o (fun z => hc (by simp [z])) e⟩) (fun _ _ e => e) (fun _ _ _ e => e) (fun b ps e => ⟨#[], by rw [e]; simp⟩) (fun m hm => ?_) (fun b u e => ?_) I.bare
  · have e : b = it := by simpa using hb
    subst e
    exact ⟨h1, hL, h2, h3⟩
  · obtain ⟨o, es, ep, ho, r⟩ := hm
    exact ⟨o, es, ep, k _ o (Ne.symm hL) ho, r⟩
  · refine (I.hok b u e).stay (fun c v hc q => k c v ?_ q) (fun _ q => q) fun _ _ q => q
    rcases hc with z | z
    · rw [z]; exact nit b u e
    · exact nit c _ z
theorem Inv.tok (I : Inv X pins σ H s) (t : Nat) : Inv X pins σ H { s with toks := t } := I.un (h' := s.heap) (t' := t) Un.refl I.hok
theorem Inv.kept {t' : Nat} (I : Inv X pins σ H s) (k : ∀ b u, s.heap.get? b = some u → h'.get? b = some u) : Inv X pins σ H { s with heap := h', toks := t' } := I.un (Un.kept k) (I.hok.kept k)
theorem Inv.laid {a : Addr} {o : HO} {t' : Nat} (I : Inv X pins σ H s) (k : ∀ b u, s.heap.get? b = some u → h'.get? b = some u) (hp : s.heap.objs.size ≤ a) (new : ObjOk X.prog X.w (upd H a o) h' a o) :
    Inv X pins σ (upd H a o) { s with heap := h', toks := t' } := I.un (Un.laid k hp (I.hok.fresh hp)) (I.hok.laid k hp new)
theorem Inv.write {x e : Addr} {o : HO} {t' : Nat} (I : Inv X pins σ H s) (mu : Mut (H x)) (he : e = x ∨ H e = some (.own x)) (k : ∀ b u, b ≠ e → s.heap.get? b = some u → h'.get? b = some u) (heo : ∃ u, h'.get? e = some u)
    (new : ObjOk X.prog X.w (upd H x o) h' x o) : Inv X pins σ (upd H x o) { s with heap := h', toks := t' } := I.un (Un.write mu he k heo) (I.hok.write mu he k heo new)
theorem Inv.pins_of {pins' : List (Addr × Obj)} (I : Inv X pins σ H s) (h : ∀ p ∈ pins', s.heap.get? p.1 = some p.2 ∧ H p.1 = none ∧ p.1 ≠ X.env.locals ∧ p.1 ∉ X.fs ∧ ∀ v, p.2.data ≠ .cell v) : Inv X pins' σ H s :=
  ⟨I.ok, I.os, I.bare, I.base, I.loc, I.cell, I.free, I.freeC, fun p hp => (List.mem_append.mp hp).elim (fun z => I.pin p (List.mem_append_left _ z)) (h p), I.hok, I.len⟩
theorem nodup_ix {N : List Str} (hN : N.Nodup) {i j : Nat} {x : Str} (a : N[i]? = some x) (b : N[j]? = some x) : i = j := by
  obtain ⟨h1, e1⟩ := List.getElem?_eq_some_iff.mp a
  obtain ⟨h2, e2⟩ := List.getElem?_eq_some_iff.mp b
  exact (List.getElem_inj hN).mp (e1.trans e2.symm)
theorem store_ok2 {M : Model} {A : Around} {E : Value → Shared → Prop} {i : Nat} {x : Str} {v : V} {u : Value} {Q : Unit → Shared → Prop} (I : Inv X pins σ H s) (hN : X.N.Nodup) (hi : X.N[i]? = some x) (hx : Loc X.env.scope x) (r : RelV v u)
    (h : ∀ s', Inv X pins (σ.set i (some v)) H s' → (∃ a, Heap.SameBut a s.heap s'.heap ∧ (a = X.env.locals ∨ X.env.cells.lookup x = some a)) → Q () s') (hf : X.fn x = true ∨ X.env.scope.names.lookup x = some .local := by first | exact .inl rfl | exact .inr rfl | assumption) : wpAny M A (storeName X.env x u) Q E s := by
  obtain ⟨m, hn, hl⟩ := id I.loc
  have hcls : (X.env.scope.kind == .class || (X.env.scope.kind == .module && X.env.locals != X.env.globals)) = false := by rw [I.ok.kind]; rfl
  have hiσ : i < σ.length := by rw [I.len]; exact (List.getElem?_eq_some_iff.mp hi).1
  have cne := I.cne
  have tracked : ∀ {a : Addr} {h' : Heap}, (∃ o, s.heap.get? a = some o ∧ H a = none) → Heap.SameBut a s.heap h' → HOk X.prog X.w H h' := fun {a h'} ha hs b ob e => by
    obtain ⟨_, _, hfree⟩ := ha
    refine (I.hok b ob e).stay (fun c w' hc q => (hs.2 c ?_).trans q) (fun _ q => q) fun _ _ q => q
    rintro rfl
    rcases hc with rfl | hc
    · rw [hfree] at e; cases e
    · rw [hfree] at hc; cases hc
  rcases hx with hk | hk
  · refine wpAny_storeName_local hk hn (fun h' hn' hs => ?_) hcls
    obtain ⟨oL, _, _, hoL, _⟩ := id hn
    refine h _ ⟨I.ok, I.os, I.bare, ⟨fun b o e n hb hx => ?_, fun b o e n hb hx => ?_, I.base.free, fun b o e hx => ?_, I.base.tups, I.base.frzs, I.base.tbls⟩, ⟨_, hn', fun j y v' e1 e2 e3 => ?_⟩, fun y c e => ?_, I.free, I.freeC, fun p hp => ?_, tracked ⟨oL, hoL, I.free⟩ hs, by simpa using I.len⟩ ⟨_, hs, .inl rfl⟩
    · exact (hs.2 b (Nat.ne_of_lt (Nat.lt_of_lt_of_le (Heap.lt_size e) I.ok.above))).trans (I.base.keep b o e n hb hx)
    · obtain ⟨sl, e1⟩ := I.base.slot b o e n hb hx
      exact ⟨sl, (hs.2 b (Nat.ne_of_lt (Nat.lt_of_lt_of_le (Heap.lt_size e) I.ok.above))).trans e1⟩
    · obtain ⟨o', e1⟩ := I.base.there b o e hx
      exact ⟨o', (hs.2 b (Nat.ne_of_lt (Nat.lt_of_lt_of_le (Heap.lt_size e) I.ok.above))).trans e1⟩
    · by_cases hj : j = i
      · subst hj
        rw [hi] at e1; cases e1
        rw [List.getElem?_set_self hiσ] at e2
        cases e2
        exact ⟨u, r, .inl ⟨hk, by simp⟩⟩
      · rw [List.getElem?_set_ne (Ne.symm hj)] at e2
        obtain ⟨u', r', q⟩ := hl j y v' e1 e2 e3
        refine ⟨u', r', ?_⟩
        rcases q with ⟨k, e⟩ | ⟨k, c, e, z⟩
        · refine .inl ⟨k, ?_⟩
          have : y ≠ x := fun e => hj (nodup_ix hN e1 (e ▸ hi))
          simp [this, e]
        · exact .inr ⟨k, c, e, z.sameBut hs (cne y c e)⟩
    · obtain ⟨w', z⟩ := I.cell y c e
      exact ⟨w', z.sameBut hs (cne y c e)⟩
    · obtain ⟨e, n, ne, nf, d⟩ := I.pin p hp
      exact ⟨(hs.2 p.1 ne).trans e, n, ne, nf, d⟩
  · have hfn : X.fn x = true := by
      rcases hf with z | z
      · exact z
      · rw [z] at hk; cases hk
    obtain ⟨c, hc⟩ := I.ok.has x (.inl hk)
    obtain ⟨w', z⟩ := I.cell x c hc
    refine wpAny_storeName_cell I.ok.kind hk hc z (fun h' hc' hs => ?_)
    obtain ⟨oc, hoc, hocd⟩ := id z
    refine h { s with heap := h' } ⟨I.ok, I.os, I.bare, ⟨fun b o e n hb hx => ?_, fun b o e n hb hx => ?_, I.base.free, fun b o e hx => ?_, I.base.tups, I.base.frzs, I.base.tbls⟩, ⟨m, hn.sameBut hs (Ne.symm (cne x c hc)), fun j y v' e1 e2 e3 => ?_⟩, fun y c' e => ?_, I.free, I.freeC, fun p hp => ?_, tracked ⟨oc, hoc, I.freeC x c hc⟩ hs, by simpa using I.len⟩ ⟨c, hs, .inr hc⟩
    · exact (hs.2 b (Nat.ne_of_lt (Nat.lt_of_lt_of_le (Heap.lt_size e) (I.ok.cab x c hfn hc)))).trans (I.base.keep b o e n hb hx)
    · obtain ⟨sl, e1⟩ := I.base.slot b o e n hb hx
      exact ⟨sl, (hs.2 b (Nat.ne_of_lt (Nat.lt_of_lt_of_le (Heap.lt_size e) (I.ok.cab x c hfn hc)))).trans e1⟩
    · obtain ⟨o', e1⟩ := I.base.there b o e hx
      exact ⟨o', (hs.2 b (Nat.ne_of_lt (Nat.lt_of_lt_of_le (Heap.lt_size e) (I.ok.cab x c hfn hc)))).trans e1⟩
    · by_cases hj : j = i
      · subst hj
        rw [hi] at e1; cases e1
        rw [List.getElem?_set_self hiσ] at e2
        cases e2
        exact ⟨u, r, .inr ⟨.inl hk, c, hc, hc'⟩⟩
      · rw [List.getElem?_set_ne (Ne.symm hj)] at e2
        obtain ⟨u', r', q⟩ := hl j y v' e1 e2 e3
        refine ⟨u', r', ?_⟩
        rcases q with q | ⟨k, c', e, z'⟩
        · exact .inl q
        · refine .inr ⟨k, c', e, z'.sameBut hs ?_⟩
          rintro rfl
          exact hj (nodup_ix hN e1 (I.ok.inj _ _ _ e hc ▸ hi))
    · by_cases hcc : c' = c
      · subst hcc; exact ⟨_, hc'⟩
      · obtain ⟨w2, z2⟩ := I.cell y c' e
        exact ⟨w2, z2.sameBut hs hcc⟩
    · obtain ⟨e, n, ne, nf, d⟩ := I.pin p hp
      refine ⟨(hs.2 p.1 ?_).trans e, n, ne, nf, d⟩
      intro q
      rw [q, hoc] at e
      have q' : oc = p.2 := Option.some.inj e
      exact d w' (by rw [← q']; exact hocd)
theorem store_ok {M : Model} {A : Around} {E : Value → Shared → Prop} {i : Nat} {x : Str} {v : V} {u : Value} {Q : Unit → Shared → Prop} (I : Inv X pins σ H s) (hN : X.N.Nodup) (hi : X.N[i]? = some x) (hx : Loc X.env.scope x) (r : RelV v u)
    (h : ∀ s', Inv X pins (σ.set i (some v)) H s' → Q () s') (hf : X.fn x = true ∨ X.env.scope.names.lookup x = some .local := by first | exact .inl rfl | exact .inr rfl | assumption) : wpAny M A (storeName X.env x u) Q E s :=
  store_ok2 I hN hi hx r (fun s' I' _ => h s' I') hf
theorem Inv.call' {s' : Shared} {ch : List Addr} (I : Inv X pins σ H s) (ho : s'.os = s.os) (u : Un (frs X.stack) ch H H' s.heap s'.heap) (hok : HOk X.prog X.w H' s'.heap) (hg : AllBare s'.gens)
    (hch : ∀ b ∈ ch, (b ∈ X.ex ∨ X.s₀.heap.objs.size ≤ b) ∧ b ≠ X.env.locals ∧ (∀ x c, X.env.cells.lookup x = some c → c ≠ b) ∧ ∀ p ∈ X.pn ++ pins, p.1 ≠ b) : Inv X pins σ H' s' := by
  obtain ⟨h', g', d', t', o'⟩ := s'
  have e : o' = s.os := ho
  subst e
  exact I.call (g' := g') (t' := t') (d' := d') u hok hg hch
end
abbrev XK := Value → Option Addr → Hp → Prop
abbrev St := List (Option V)
abbrev VK := V → Hp → Prop
abbrev TE := St → Hp → VK → Prop
abbrev TT := St → Hp → (Bool → Hp → Prop) → Prop
abbrev TA := St → Hp → (List V → Hp → Prop) → Prop
structure Ends where
  nx : St → Hp → Prop
  rt : VK
  bk : St → Hp → Prop := fun _ _ => False
  ct : St → Hp → Prop := fun _ _ => False
abbrev TS := Ends → St → Hp → Prop
def EP (X : Cx) (pins : List (Addr × Obj)) (σ : St) (Q : VK) (u : Value) (s' : Shared) : Prop := ∃ v H', Inv X pins σ H' s' ∧ RelV v u ∧ Q v H'
def TP (X : Cx) (pins : List (Addr × Obj)) (σ : St) (Q : Bool → Hp → Prop) (b : Bool) (s' : Shared) : Prop := ∃ H', Inv X pins σ H' s' ∧ Q b H'
def AP (X : Cx) (pins : List (Addr × Obj)) (σ : St) (Q : List V → Hp → Prop) (us : List Value) (s' : Shared) : Prop := ∃ vs H', Inv X pins σ H' s' ∧ Vals vs us ∧ Q vs H'
def SP (X : Cx) (pins : List (Addr × Obj)) (D : Ends) (f : Flow) (s' : Shared) : Prop :=
  match f with
  | .next => ∃ σ' H', Inv X pins σ' H' s' ∧ D.nx σ' H'
  | .brk => ∃ σ' H', Inv X pins σ' H' s' ∧ D.bk σ' H'
  | .cont => ∃ σ' H', Inv X pins σ' H' s' ∧ D.ct σ' H'
  | .ret u => ∃ v σ' H', Inv X pins σ' H' s' ∧ RelV v u ∧ D.rt v H'
def PE (X : Cx) (e : Expr) (t : TE) : Prop :=
  ∀ (pins : List (Addr × Obj)) (s : Shared) (σ : St) (H : Hp) (Q : VK), Inv X pins σ H s → t σ H Q → wpAny (model X.prog X.w) X.A (eval e X.env) (EP X pins σ Q) X.xe s
def PT (X : Cx) (e : Expr) (t : TT) : Prop :=
  ∀ (pins : List (Addr × Obj)) (s : Shared) (σ : St) (H : Hp) (Q : Bool → Hp → Prop), Inv X pins σ H s → t σ H Q → wpAny (model X.prog X.w) X.A (isTrue e X.env (eval e X.env)) (TP X pins σ Q) X.xe s
def PW (X : Cx) (e : Expr) (t : TT) : Prop :=
  ∀ (whole : Sem Value) (pins : List (Addr × Obj)) (s : Shared) (σ : St) (H : Hp) (Q : Bool → Hp → Prop), Inv X pins σ H s → t σ H Q → wpAny (model X.prog X.w) X.A (isTrue e X.env whole) (TP X pins σ Q) X.xe s
theorem PW.pt {X : Cx} {e : Expr} {t : TT} (h : PW X e t) : PT X e t := h _
def PA (X : Cx) (es : List Expr) (t : TA) : Prop :=
  ∀ (pos : Pos) (pins : List (Addr × Obj)) (s : Shared) (σ : St) (H : Hp) (Q : List V → Hp → Prop), Inv X pins σ H s → t σ H Q → wpAny (model X.prog X.w) X.A (spliced (backTo pos (starEach es X.env))) (AP X pins σ Q) X.xe s
def PS (X : Cx) (st : Stmt) (t : TS) : Prop :=
  ∀ (pins : List (Addr × Obj)) (s : Shared) (σ : St) (H : Hp) (D : Ends), Inv X pins σ H s → t D σ H → wpAny (model X.prog X.w) X.A (exec st X.env) (SP X pins D) X.xe s
def PSs (X : Cx) (st : List Stmt) (t : TS) : Prop :=
  ∀ (pins : List (Addr × Obj)) (s : Shared) (σ : St) (H : Hp) (D : Ends), Inv X pins σ H s → t D σ H → wpAny (model X.prog X.w) X.A (execs st X.env) (SP X pins D) X.xe s
theorem thn {α : Type} {t : Sem α} {Q Q' : α → Shared → Prop} {M : Model} {A : Around} {E : Value → Shared → Prop} {s : Shared} (h : wpAny M A t Q E s) (hQ : ∀ a s, Q a s → Q' a s) : wpAny M A t Q' E s := wpAny_mono h hQ fun _ _ x => x
open PySem PySem.Spec PyProof.Rows
section
variable {X : Cx}
def tVar (i : Nat) : TE := fun σ H Q => ∃ v, σ[i]? = some (some v) ∧ Q v H
def tC (v : V) : TE := fun _ H Q => Q v H
theorem pe_var {i : Nat} {x : Str} {pos : Pos} (hN : X.N[i]? = some x) (hv : Vis X.env.scope x) (hd : (x == ("__debug__" : Str)) = false := by decide) (hcd : (x == ("__classdict__" : Str)) = false := by decide) : PE X (.Name x pos) (tVar i) := by
  intro pins s σ H Q I h
  obtain ⟨v, e, h⟩ := h
  obtain ⟨m, hn, hl⟩ := I.loc
  obtain ⟨u, r, l⟩ := hl i x v hN e hv
  have fin : EP X pins σ Q u s := ⟨v, H, I, r, h⟩
  rcases l with ⟨hk, hm⟩ | ⟨hk, c, hc, hcell⟩
  · exact wpAny_Name (wpAny_loadName_local I.ok.kind hk hn hm fin) hd
  · rcases hk with hk | hk
    · exact wpAny_Name (wpAny_loadName_cell I.ok.kind hk hc hcell fin) hd
    · exact wpAny_Name (wpAny_loadName_free I.ok.kind hk hc hcell fin hcd) hd
theorem pe_int {i j pos} : PE X (.Constant (.int i) j pos) (tC (.int i)) := fun _ _ _ H _ I h => wpAny_Constant_int ⟨.int i, H, I.tok _, ⟨_, rfl⟩, h⟩
theorem pe_bl {b j pos} : PE X (.Constant (.bool b) j pos) (tC (.bl b)) := fun _ _ _ H _ I h => Constant_bool ⟨.bl b, H, I, rfl, h⟩
theorem pe_non {j pos} : PE X (.Constant .none j pos) (tC .non) := fun _ _ _ H _ I h => Constant_none ⟨.non, H, I, rfl, h⟩
theorem pe_str {x j pos} : PE X (.Constant (.str x) j pos) (tC (.str x)) := fun _ _ _ H _ I h => Calls.Constant_str ⟨.str x, H, I.tok _, ⟨_, rfl⟩, h⟩
def Gl (X : Cx) (x : Str) : Prop := X.env.kindOf x = some .globalImplicit
theorem ld_glob {E : Value → Shared → Prop} {pins : List (Addr × Obj)} {s : Shared} {σ : St} {H : Hp} {x : Str} {u : Value} {pos : Pos} {Q : Value → Shared → Prop} (I : Inv X pins σ H s) (hg : Gl X x) (hm : X.mg x = some u) (h : Q u s)
    (hd : (x == ("__debug__" : Str)) = false := by decide) : wpAny (model X.prog X.w) X.A (eval (.Name x pos) X.env) Q E s :=
  Calls.Name_function_global I.ok.kind hg (Calls.loadGlobal_global (by rw [I.ok.glob]; exact I.mod.glob.keeps I.bk) hm h) hd
theorem ld_blt {E : Value → Shared → Prop} {pins : List (Addr × Obj)} {s : Shared} {σ : St} {H : Hp} {x : Str} {u : Value} {pos : Pos} {Q : Value → Shared → Prop} (I : Inv X pins σ H s) (hg : Gl X x) (hm : X.mg x = none) (hv : bootBuiltins x = some u) (h : Q u s)
    (hn : x ≠ "__name__" := by decide) (hd : (x == ("__debug__" : Str)) = false := by decide) : wpAny (model X.prog X.w) X.A (eval (.Name x pos) X.env) Q E s := by
  obtain ⟨mb, h1, h2⟩ := I.mod.blt
  exact Calls.Name_function_global I.ok.kind hg (Calls.loadGlobal_builtin (by rw [I.ok.glob]; exact I.mod.glob.keeps I.bk) hm (by rw [I.ok.blt]; exact h1.keeps I.bk) ((h2 x hn).trans hv) h) hd
theorem pe_glob {x : Str} {v : V} {u : Value} {pos : Pos} (hg : Gl X x) (hm : X.mg x = some u) (r : RelV v u) (hd : (x == ("__debug__" : Str)) = false := by decide) : PE X (.Name x pos) (tC v) :=
  fun _ _ _ H _ I h => ld_glob I hg hm ⟨v, H, I, r, h⟩ hd
theorem pe_bltn {x : Str} {v : V} {u : Value} {pos : Pos} (hg : Gl X x) (hm : X.mg x = none) (hv : bootBuiltins x = some u) (r : RelV v u) (hn : x ≠ "__name__" := by decide) (hd : (x == ("__debug__" : Str)) = false := by decide) : PE X (.Name x pos) (tC v) :=
  fun _ _ _ H _ I h => ld_blt I hg hm hv ⟨v, H, I, r, h⟩ hn hd
def t2I (ta tb : TE) (k : Int → Int → Hp → Prop) : St → Hp → Prop := fun σ H => ta σ H fun x H1 => tb σ H1 fun y H2 => ∃ i j, x = .int i ∧ y = .int j ∧ k i j H2
def tAdd (ta tb : TE) : TE := fun σ H Q => t2I ta tb (fun i j H2 => Q (.int (i + j)) H2) σ H
def tSub (ta tb : TE) : TE := fun σ H Q => t2I ta tb (fun i j H2 => Q (.int (i - j)) H2) σ H
def tMul (ta tb : TE) : TE := fun σ H Q => t2I ta tb (fun i j H2 => (-(2 ^ 64) < i ∧ i < 2 ^ 64) ∧ Q (.int (i * j)) H2) σ H
variable {a b : Expr} {ta tb : TE} {pos : Pos}
def PC (X : Cx) (op : CmpOp) (a b : Expr) (t : TE) : Prop :=
  ∀ (pins : List (Addr × Obj)) (s : Shared) (σ : St) (H : Hp) (Q : VK), Inv X pins σ H s → t σ H Q →
    wpAny (model X.prog X.w) X.A (eval a X.env) (fun v s₁ => wpAny (model X.prog X.w) X.A (eval b X.env) (fun u s₂ => wpAny (model X.prog X.w) X.A (compareOp op v u) (EP X pins σ Q) X.xe s₂) X.xe s₁) X.xe s
def tCmp (p : Int → Int → Bool) (ta tb : TE) : TE := fun σ H Q => t2I ta tb (fun i j H2 => Q (.bl (p i j)) H2) σ H
abbrev tLt : TE → TE → TE := tCmp fun i j => decide (i < j)
abbrev tLe : TE → TE → TE := tCmp fun i j => decide (i ≤ j)
abbrev tGt : TE → TE → TE := tCmp fun i j => decide (j < i)
abbrev tGe : TE → TE → TE := tCmp fun i j => decide (j ≤ i)
abbrev tEqI : TE → TE → TE := tCmp fun i j => decide (i = j)
abbrev tNeI : TE → TE → TE := tCmp fun i j => !decide (i = j)
def tIsN (ta : TE) : TE := fun σ H Q => ta σ H fun x H1 => Q (.bl (decide (x = .non))) H1
def tNotN (ta : TE) : TE := fun σ H Q => ta σ H fun x H1 => Q (.bl (!decide (x = .non))) H1
def tB (t : TE) : TT := fun σ H Q => t σ H fun x H1 => ∃ c, x = .bl c ∧ Q c H1
theorem pt_val {e : Expr} {t : TE} (h : PE X e t) (he : ∀ whole, isTrue e X.env whole = (do let v ← whole; standAt e.pos; holding [v] (truthy v)) := by intro _; rfl) : PT X e (tB t) := by
  intro pins s σ H Q I hw
  refine isTrue_plain (thn (h pins s σ H _ I hw) fun v s1 ⟨x, H1, I1, r1, q1⟩ => ?_) (he _)
  obtain ⟨d, rfl, q⟩ := q1
  cases r1
  exact wpAny_truthy_bool ⟨H1, I1, q⟩
variable {tA tB' : TT} {rest : List Expr}
def tAnd (t u : TT) : TT := fun σ H Q => t σ H fun c H1 => if c = true then u σ H1 Q else Q false H1
def tOr (t u : TT) : TT := fun σ H Q => t σ H fun c H1 => if c = true then Q true H1 else u σ H1 Q
def tNot (t : TT) : TT := fun σ H Q => t σ H fun c H1 => Q (!c) H1
theorem pw_and1 (ha : PT X a tA) : PW X (.BoolOp .And [a] pos) tA := by
  intro wh pins s σ H Q I h
  refine isTrue_and (thn (ha pins s σ H Q I h) fun c s1 e => ?_)
  cases c with
  | true => exact isTrue_and_nil e
  | false => exact e
theorem pw_or1 (ha : PT X a tA) : PW X (.BoolOp .Or [a] pos) tA := by
  intro wh pins s σ H Q I h
  refine isTrue_or (thn (ha pins s σ H Q I h) fun c s1 e => ?_)
  cases c with
  | false => exact isTrue_or_nil e
  | true => exact e
theorem pw_and (ha : PT X a tA) (hb : PW X (.BoolOp .And (b :: rest) pos) tB') : PW X (.BoolOp .And (a :: b :: rest) pos) (tAnd tA tB') := by
  intro wh pins s σ H Q I h
  refine isTrue_and (thn (ha pins s σ H _ I h) fun c s1 ⟨H1, I1, q1⟩ => ?_)
  cases c with
  | true => exact hb wh pins s1 σ H1 Q I1 q1
  | false => exact ⟨H1, I1, q1⟩
theorem pw_or (ha : PT X a tA) (hb : PW X (.BoolOp .Or (b :: rest) pos) tB') : PW X (.BoolOp .Or (a :: b :: rest) pos) (tOr tA tB') := by
  intro wh pins s σ H Q I h
  refine isTrue_or (thn (ha pins s σ H _ I h) fun c s1 ⟨H1, I1, q1⟩ => ?_)
  cases c with
  | true => exact ⟨H1, I1, q1⟩
  | false => exact hb wh pins s1 σ H1 Q I1 q1
theorem pt_not (ha : PT X a tA) : PT X (.UnaryOp .Not a pos) (tNot tA) := by
  intro pins s σ H Q I h
  exact isTrue_not (ha pins s σ H (fun c H1 => Q (!c) H1) I h)
def tAndV (ta tb : TE) : TE := fun σ H Q => ta σ H fun x H1 => ∃ c, x = .bl c ∧ if c = true then tb σ H1 Q else Q (.bl false) H1
def tOrV (ta tb : TE) : TE := fun σ H Q => ta σ H fun x H1 => ∃ c, x = .bl c ∧ if c = true then Q (.bl true) H1 else tb σ H1 Q
def tNotV (ta : TE) : TE := fun σ H Q => ta σ H fun x H1 => ∃ c, x = .bl c ∧ Q (.bl (!c)) H1
def tIf (t : TT) (ta tb : TE) : TE := fun σ H Q => t σ H fun c H1 => if c = true then ta σ H1 Q else tb σ H1 Q
end
open PySem PySem.Spec PyProof.Rows
def SqL (K : PySem.W.Frag) (H : Hp) (a : Addr) (xs : List V) : Prop :=
  Rd H a (.lst xs) ∨
    ∃ (o : Obj) (its : Array Value) (n : Nat), K.lookup a = some o ∧ o.cls = .type "list" ∧ o.dict = none ∧ o.data = .seq its n ∧ its.size ≤ sizeLine ∧ Vals xs its.toList
def SqT (K : PySem.W.Frag) (H : Hp) (a : Addr) (xs : List V) : Prop :=
  Rd H a (.tup xs) ∨
    ∃ (o : Obj) (its : Array Value) (n : Nat), K.lookup a = some o ∧ o.cls = .type "tuple" ∧ o.data = .seq its n ∧ its.size ≤ sizeLine ∧ Vals xs its.toList
def absV : Value → Option V
  | .none => some .non
  | .bool b => some (.bl b)
  | .int i _ => some (.int i)
  | .str x _ => some (.str x)
  | .bytes b _ => some (.byt b)
  | .float b _ => some (.flt b)
  | .ref a => some (.ref a)
  | .type n => some (.ty n)
  | _ => none
theorem RelV.abs {x : V} {u : Value} (r : RelV x u) : absV u = some x := by
  cases x with
  | non => cases r; rfl
  | bl _ => cases r; rfl
  | int _ => obtain ⟨t, rfl⟩ := r; rfl
  | str _ => obtain ⟨t, rfl⟩ := r; rfl
  | byt _ => obtain ⟨t, rfl⟩ := r; rfl
  | flt _ => obtain ⟨t, rfl⟩ := r; rfl
  | ref _ => cases r; rfl
  | ty _ => cases r; rfl
theorem RelV.inj {x y : V} {u : Value} (r : RelV x u) (q : RelV y u) : x = y := Option.some.inj (r.abs.symm.trans q.abs)
theorem Vals.inj : ∀ {xs ys : List V} {us : List Value}, Vals xs us → Vals ys us → xs = ys
  | _, _, _, .nil, .nil => rfl
  | _, _, _, .cons r t, .cons r' t' => by rw [r.inj r', Vals.inj t t']
section
variable {X : Cx} {pins : List (Addr × Obj)} {σ : St} {H : Hp} {s : Shared} {a : Addr} {xs ys : List V}
theorem SqL.of {K : PySem.W.Frag} (h : H a = some (.lst xs)) : SqL K H a xs := .inl (.inl h)
theorem SqT.of {K : PySem.W.Frag} (h : H a = some (.tup xs)) : SqT K H a xs := .inl (.inl h)
theorem Inv.list (I : Inv X pins σ H s) (h : SqL X.K H a xs) : ∃ its : List Value, Vals xs its ∧ PlainL s.heap a its.toArray ∧ xs.length ≤ sizeLine := by
  rcases h with h | ⟨o, its, n, hk, hc, hd, hs, hz, r⟩
  · obtain ⟨z, its, n, r, e⟩ := h.ok I.hok
    exact ⟨its, r, ⟨_, n, e, rfl, rfl, rfl⟩, z⟩
  · refine ⟨its.toList, r, ⟨o, n, I.kIn a o hk, hc, hd, by simpa using hs⟩, ?_⟩
    have e := r.length
    simp only [Array.length_toList] at e
    omega
theorem Inv.tuple (I : Inv X pins σ H s) (h : SqT X.K H a xs) : ∃ its : List Value, Vals xs its ∧ IsTup s.heap a its.toArray ∧ xs.length ≤ sizeLine := by
  rcases h with h | ⟨o, its, n, hk, hc, hs, hz, r⟩
  · obtain ⟨z, its, r, p⟩ := h.ok I.hok
    exact ⟨its, r, p, z⟩
  · refine ⟨its.toList, r, ⟨o, I.kIn a o hk, hc, n, by simpa using hs⟩, ?_⟩
    have e := r.length
    simp only [Array.length_toList] at e
    omega
theorem Inv.list_inj (I : Inv X pins σ H s) (h : SqL X.K H a xs) (h' : SqL X.K H a ys) : xs = ys := by
  obtain ⟨its, r, ⟨o, n, e, _, _, d⟩, _⟩ := I.list h
  obtain ⟨its', r', ⟨o', n', e', _, _, d'⟩, _⟩ := I.list h'
  rw [e] at e'; cases e'
  rw [d] at d'
  injection d' with d1 _
  have : its = its' := by simpa using congrArg Array.toList d1
  subst this
  exact r.inj r'
end
abbrev Cx.wish (X : Cx) (E : Value → Shared → Prop) : Cx := { X with xe := E }
abbrev Cx.nox (X : Cx) : Cx := X.wish fun _ _ => False
theorem Cx.Ok.wish {X : Cx} (ok : X.Ok) (E : Value → Shared → Prop) : (X.wish E).Ok :=
  ⟨ok.mod, ok.kind, ok.glob, ok.blt, ok.above, ok.inj, ok.has, ok.cab, ok.hd, ok.frames, ok.stk, ok.exf, ok.bs, ok.bsz, ok.noex, ok.exfs, ok.funs, ok.frf⟩
theorem Cx.Ok.unwish {X : Cx} {E : Value → Shared → Prop} (ok : (X.wish E).Ok) : X.Ok :=
  ⟨ok.mod, ok.kind, ok.glob, ok.blt, ok.above, ok.inj, ok.has, ok.cab, ok.hd, ok.frames, ok.stk, ok.exf, ok.bs, ok.bsz, ok.noex, ok.exfs, ok.funs, ok.frf⟩
section
variable {X : Cx} {pins : List (Addr × Obj)} {σ : St} {H : Hp} {s : Shared} {E : Value → Shared → Prop}
theorem Inv.wish (I : Inv X pins σ H s) (E : Value → Shared → Prop) : Inv (X.wish E) pins σ H s := ⟨I.ok.wish E, I.os, I.bare, I.base, I.loc, I.cell, I.free, I.freeC, I.pin, I.hok, I.len⟩
theorem Inv.unwish (I : Inv (X.wish E) pins σ H s) : Inv X pins σ H s := ⟨I.ok.unwish, I.os, I.bare, I.base, I.loc, I.cell, I.free, I.freeC, I.pin, I.hok, I.len⟩
theorem SP.unwish {D : Ends} {f : Flow} {s' : Shared} (h : SP (X.wish E) pins D f s') : SP X pins D f s' := by
  cases f with
  | next => obtain ⟨σ', H', I, q⟩ := h; exact ⟨σ', H', I.unwish, q⟩
  | brk => obtain ⟨σ', H', I, q⟩ := h; exact ⟨σ', H', I.unwish, q⟩
  | cont => obtain ⟨σ', H', I, q⟩ := h; exact ⟨σ', H', I.unwish, q⟩
  | ret u => obtain ⟨v, σ', H', I, r, q⟩ := h; exact ⟨v, σ', H', I.unwish, r, q⟩
theorem PSs.nox {st : List Stmt} {t : TS} (h : PSs X.nox st t) : PSs X st t := fun pins s σ H D I hw =>
  wpAny_mono (h pins s σ H D (I.wish _) hw) (fun _ _ q => q.unwish) fun _ _ z => False.elim z
end
section
variable {X : Cx} {st : Stmt} {rest : List Stmt} {t u : TS} {e : Expr} {te : TE} {pos : Pos}
def tNext : TS := fun D σ H => D.nx σ H
def tSeq (t u : TS) : TS := fun D σ H => t { D with nx := u D } σ H
theorem pss_nil : PSs X [] tNext := fun _ _ σ H _ I h => wpAny_execs_nil ⟨σ, H, I, h⟩
theorem pss_cons (h1 : PS X st t) (h2 : PSs X rest u) : PSs X (st :: rest) (tSeq t u) := by
  intro pins s σ H D I h
  refine wpAny_execs_cons (thn (h1 pins s σ H { D with nx := u D } I h) fun f s1 q => ?_)
  cases f with
  | next =>
    obtain ⟨σ', H', I', q⟩ := q
    exact h2 pins s1 σ' H' D I' q
  | ret v => exact q
  | brk => exact q
  | cont => exact q
theorem pss_one (h1 : PS X st t) : PSs X [st] t := by
  intro pins s σ H D I h
  refine wpAny_execs_cons (thn (h1 pins s σ H D I h) fun f s1 q => ?_)
  cases f with
  | next => exact wpAny_execs_nil q
  | ret v => exact q
  | brk => exact q
  | cont => exact q
def tBreak : TS := fun D σ H => D.bk σ H
def tCont : TS := fun D σ H => D.ct σ H
theorem Inv.quiet {pins : List (Addr × Obj)} {σ : St} {H : Hp} {s : Shared} (I : Inv X pins σ H s) : interactive X.env = false := by simp [interactive, I.ok.kind]
def tDrop (te : TE) : TS := fun D σ H => te σ H fun _ H1 => D.nx σ H1
theorem ps_expr (he : PE X e te) (hs : swapsWith e none pos.line X.env = pure false := by rfl) : PS X (.Expr e pos) (tDrop te) := by
  intro pins s σ H D I h
  exact wpAny_Expr_any (thn (he pins s σ H _ I h) fun v s1 ⟨x, H1, I1, r1, q1⟩ => ⟨σ, H1, I1, q1⟩) I.quiet hs
def tRet (te : TE) : TS := fun D σ H => te σ H D.rt
theorem ps_ret (he : PE X e te) : PS X (.Return (some e) pos) (tRet te) := by
  intro pins s σ H D I h
  exact wpAny_Return_some (thn (he pins s σ H _ I h) fun v s1 ⟨x, H1, I1, r1, q1⟩ => ⟨x, σ, H1, I1, r1, q1⟩)
def tRetN : TS := fun D _ H => D.rt .non H
def tIfS (c : TT) (t u : TS) : TS := fun D σ H => c σ H fun b H1 => if b = true then t D σ H1 else u D σ H1
theorem ps_if {c : Expr} {a b : List Stmt} {tc : TT} (hc : PT X c tc) (ha : PSs X a t) (hb : PSs X b u) : PS X (.If c a b pos) (tIfS tc t u) := by
  intro pins s σ H D I h
  refine wpAny_If (thn (hc pins s σ H _ I h) fun d s1 ⟨H1, I1, q1⟩ => ?_)
  cases d with
  | true => exact ha pins s1 σ H1 D I1 q1
  | false => exact hb pins s1 σ H1 D I1 q1
def tNever : TS := fun _ _ _ => False
theorem ps_never : PS X st tNever := fun _ _ _ _ _ _ h => h.elim
end
abbrev TG := V → St → Hp → (St → Hp → Prop) → Prop
abbrev TGs := List V → St → Hp → (St → Hp → Prop) → Prop
def PG (X : Cx) (target : Expr) (t : TG) : Prop :=
  ∀ (pins : List (Addr × Obj)) (s : Shared) (σ : St) (H : Hp) (v : V) (u : Value) (Q : St → Hp → Prop), Inv X pins σ H s → RelV v u → t v σ H Q →
    wpAny (model X.prog X.w) X.A (assign target X.env u) (fun _ s' => ∃ σ' H', Inv X pins σ' H' s' ∧ Q σ' H') X.xe s
def PGs (X : Cx) (ts : List Expr) (t : TGs) : Prop :=
  ∀ (pins : List (Addr × Obj)) (s : Shared) (σ : St) (H : Hp) (vs : List V) (us : List Value) (Q : St → Hp → Prop), Inv X pins σ H s → Vals vs us → t vs σ H Q →
    wpAny (model X.prog X.w) X.A (assignInOrder ((assignEach ts X.env).map (·.2)) us) (fun _ s' => ∃ σ' H', Inv X pins σ' H' s' ∧ Q σ' H') X.xe s
abbrev TSet := V → V → V → Hp → (Hp → Prop) → Prop
def PSet (X : Cx) (t : TSet) : Prop :=
  ∀ (pins : List (Addr × Obj)) (s : Shared) (σ : St) (H : Hp) (o i v : V) (ov iv u : Value) (Q : Hp → Prop), Inv X pins σ H s → RelV o ov → RelV i iv → RelV v u → t o i v H Q →
    wpAny (model X.prog X.w) X.A (setItem ov iv u) (fun _ s' => ∃ H', Inv X pins σ H' s' ∧ Q H') X.xe s
abbrev TIp := V → V → Hp → VK → Prop
def PIp (X : Cx) (op : Operator) (t : TIp) : Prop :=
  ∀ (pins : List (Addr × Obj)) (s : Shared) (σ : St) (H : Hp) (x y : V) (v u : Value) (Q : VK), Inv X pins σ H s → RelV x v → RelV y u → t x y H Q →
    wpAny (model X.prog X.w) X.A (inplaceOp op v u) (EP X pins σ Q) X.xe s
section
variable {X : Cx} {pos : Pos}
def gName (i : Nat) : TG := fun v σ H Q => Q (σ.set i (some v)) H
theorem pg_name {i : Nat} {x : Str} (hN : X.N.Nodup) (hi : X.N[i]? = some x) (hx : Loc X.env.scope x) (hf : X.fn x = true ∨ X.env.scope.names.lookup x = some .local := by first | exact .inl rfl | exact .inr rfl | assumption) : PG X (.Name x pos) (gName i) := by
  intro pins s σ H v u Q I r h
  exact wpAny_assign_Name (store_ok I hN hi hx r (fun s' I' => ⟨_, H, I', h⟩) hf)
def gNil : TGs := fun vs σ H Q => vs = [] ∧ Q σ H
def gCons (t : TG) (u : TGs) : TGs := fun vs σ H Q => ∃ v r, vs = v :: r ∧ t v σ H fun σ' H' => u r σ' H' Q
def gTup (K : PySem.W.Frag) (n : Nat) (t : TGs) : TG := fun v σ H Q => ∃ a xs, v = .ref a ∧ SqT K H a xs ∧ xs.length = n ∧ t xs σ H Q
def gSub (to ti : TE) (t : TSet) : TG := fun v σ H Q => to σ H fun o H1 => ti σ H1 fun i H2 => t o i v H2 fun H3 => Q σ H3
theorem pg_sub {o i : Expr} {to ti : TE} {t : TSet} (ho : PE X o to) (hi : PE X i ti) (hs : PSet X t)
    (ha : ∀ v, assign (.Subscript o i pos) X.env v = (do
      let ov ← holding [v] (eval o X.env)
      let iv ← holding [v, ov] (eval i X.env)
      standAt pos
      holding [v, ov, iv] (setItem ov iv v)
      release [v, ov, iv] []) := by intro _; rfl) : PG X (.Subscript o i pos) (gSub to ti t) := by
  intro pins s σ H v u Q I r h
  rw [ha]
  refine wpAny_bind (wpAny_holding (thn (ho pins s σ H _ I h) fun ov s1 ⟨x, H1, I1, r1, q1⟩ => ?_))
  refine wpAny_bind (wpAny_holding (thn (hi pins s1 σ H1 _ I1 q1) fun iv s2 ⟨y, H2, I2, r2, q2⟩ => ?_))
  refine wpAny_bind (wpAny_standAt (wpAny_bind (wpAny_holding (thn (hs pins s2 σ H2 x y v ov iv u _ I2 r1 r2 r q2) fun _ s3 ⟨H3, I3, q3⟩ => ?_))))
  exact wpAny_release ⟨σ, H3, I3, q3⟩
def tAsg (te : TE) (g : TG) : TS := fun D σ H => te σ H fun x H1 => g x σ H1 D.nx
theorem ps_asg {tg e : Expr} {te : TE} {g : TG} (he : PE X e te) (hg : PG X tg g) (hs : swapsWithSole [tg] e pos.line X.env = pure false := by rfl) (hw : swappedStores [tg] e X.env = pure none := by rfl)
    (h1 : (assignEach [tg] X.env).map (·.2) = [assign tg X.env] := by rfl) : PS X (.Assign [tg] e pos) (tAsg te g) := by
  intro pins s σ H D I h
  refine wpAny_Assign_stores (thn (he pins s σ H _ I h) fun v s1 ⟨x, H1, I1, r1, q1⟩ => ?_) hs hw
  rw [h1]
  exact thn (hg pins s1 σ H1 x v _ I1 r1 q1) fun _ s2 q => q
theorem ps_set {i : Nat} {x : Str} {e : Expr} {te : TE} {pos' : Pos} (hN : X.N.Nodup) (hi : X.N[i]? = some x) (hx : Loc X.env.scope x) (he : PE X e te) (hs : swapsWith e (some (.Name x pos')) pos.line X.env = pure false := by rfl) (hf : X.fn x = true ∨ X.env.scope.names.lookup x = some .local := by first | exact .inl rfl | exact .inr rfl | assumption) :
    PS X (.Assign [.Name x pos'] e pos) (tAsg te (gName i)) := by
  intro pins s σ H D I h
  refine wpAny_Assign_Name (thn (he pins s σ H _ I h) fun v s1 ⟨y, H1, I1, r1, q1⟩ => ?_) hs
  exact store_ok I1 hN hi hx r1 (fun s2 I2 => ⟨_, H1, I2, q1⟩) hf
def tPar (i j : Nat) (ta : TA) : TS := fun D σ H => ta σ H fun vs H1 => ∃ v w, vs = [v, w] ∧ D.nx ((σ.set i (some v)).set j (some w)) H1
def tAug (i : Nat) (te : TE) (ti : TIp) : TS := fun D σ H => ∃ x, σ[i]? = some (some x) ∧ te σ H fun y H1 => ti x y H1 fun z H2 => D.nx (σ.set i (some z)) H2
theorem ps_aug {i : Nat} {x : Str} {e : Expr} {te : TE} {op : Operator} {ti : TIp} {pos' : Pos} (hN : X.N.Nodup) (hi : X.N[i]? = some x) (hx : Loc X.env.scope x) (he : PE X e te) (ho : PIp X op ti) (hf : X.fn x = true ∨ X.env.scope.names.lookup x = some .local := by first | exact .inl rfl | exact .inr rfl | assumption) :
    PS X (.AugAssign (.Name x pos') op e pos) (tAug i te ti) := by
  intro pins s σ H D I h
  obtain ⟨v, e1, h⟩ := h
  obtain ⟨m, hn, hl⟩ := I.loc
  have vis : Vis X.env.scope x := by rcases hx with k | k; exact .inl k; exact .inr (.inl k)
  obtain ⟨u, r, l⟩ := hl i x v hi e1 vis
  refine wpAny_AugAssign_Name ?_
  have go : wpAny (model X.prog X.w) X.A (eval e X.env) (fun w s₂ => wpAny (model X.prog X.w) X.A (inplaceOp op u w) (fun r s₃ => wpAny (model X.prog X.w) X.A (storeName X.env x r) (fun _ => SP X pins D .next) X.xe s₃) X.xe s₂) X.xe s := by
    refine thn (he pins s σ H _ I h) fun w s1 ⟨y, H1, I1, r1, q1⟩ => ?_
    refine thn (ho pins s1 σ H1 v y u w _ I1 r r1 q1) fun z s2 ⟨zv, H2, I2, r2, q2⟩ => ?_
    exact store_ok I2 hN hi hx r2 (fun s3 I3 => ⟨_, H2, I3, q2⟩) hf
  rcases l with ⟨hk, hm⟩ | ⟨hk, c, hc, hcell⟩
  · exact wpAny_loadName_local I.ok.kind hk hn hm go
  · rcases hk with hk | hk
    · exact wpAny_loadName_cell I.ok.kind hk hc hcell go
    · rcases hx with k | k
      · have : X.env.scope.names.lookup x = some .free := hk
        rw [k] at this; cases this
      · have : X.env.scope.names.lookup x = some .free := hk
        rw [k] at this; cases this
def tAugS (to ti te : TE) (tget : V → V → Hp → VK → Prop) (tip : TIp) (tset : TSet) : TS := fun D σ H => to σ H fun o H1 => ti σ H1 fun i H2 => tget o i H2 fun x H3 => te σ H3 fun y H4 => tip x y H4 fun z H5 => tset o i z H5 fun H6 => D.nx σ H6
def PGet (X : Cx) (t : V → V → Hp → VK → Prop) : Prop :=
  ∀ (pins : List (Addr × Obj)) (s : Shared) (σ : St) (H : Hp) (o i : V) (ov iv : Value) (Q : VK), Inv X pins σ H s → RelV o ov → RelV i iv → t o i H Q →
    wpAny (model X.prog X.w) X.A (getItem ov iv) (EP X pins σ Q) X.xe s
def ipI (f : Int → Int → Int) : TIp := fun x y H Q => ∃ i j, x = .int i ∧ y = .int j ∧ Q (.int (f i j)) H
theorem ip_add : PIp X .Add (ipI fun i j => i + j) := by
  intro pins s σ H x y v u Q I r1 r2 h
  obtain ⟨i, j, e1, e2, q⟩ := h
  subst e1; subst e2
  obtain ⟨t, rfl⟩ := r1
  obtain ⟨t', rfl⟩ := r2
  exact iadd_int ⟨.int _, H, I.tok _, ⟨_, rfl⟩, q⟩
end
section
variable {X : Cx} {pos : Pos}
def tWhile (c : TT) (tb : TS) : TS := fun D σ H => ∃ W : Nat → St → Hp → Prop, (∃ m, W m σ H) ∧ ∀ m σ H, W m σ H →
  c σ H fun b H1 => if b = true then ∃ N : St → Hp → Prop, (∀ σ' H', N σ' H' → ∃ m', m' < m ∧ W m' σ' H') ∧ tb { D with nx := N, ct := N, bk := D.nx } σ H1 else D.nx σ H1
theorem ps_while {c : Expr} {body : List Stmt} {tc : TT} {tb : TS} (hp : PassesOwn (model X.prog X.w) X.A X.env X.xe) (hc : PT X c tc) (hb : PSs X body tb) : PS X (.While c body [] pos) (tWhile tc tb) := by
  intro pins s σ H D I h
  obtain ⟨W, ⟨m0, w0⟩, turn⟩ := h
  refine wpAny_While (codeAny_whileLoop (fun n s' => ∃ σ' H', Inv X pins σ' H' s' ∧ W n σ' H') ?_ m0 ⟨σ, H, I, w0⟩)
  rintro n s1 ⟨σ1, H1, I1, w1⟩
  refine wpAny_passesOwn hp (thn (hc pins s1 σ1 H1 _ I1 (turn n σ1 H1 w1)) fun b s2 ⟨H2, I2, q2⟩ => ?_)
  cases b with
  | true =>
    obtain ⟨N, hN, q2⟩ := q2
    rw [if_pos rfl]
    refine wpAny_passesOwn hp (thn (hb pins s2 σ1 H2 _ I2 q2) fun f s3 q3 => ?_)
    cases f with
    | next =>
      obtain ⟨σ3, H3, I3, n3⟩ := q3
      obtain ⟨m', hm, w3⟩ := hN σ3 H3 n3
      exact ⟨m', hm, σ3, H3, I3, w3⟩
    | cont =>
      obtain ⟨σ3, H3, I3, n3⟩ := q3
      obtain ⟨m', hm, w3⟩ := hN σ3 H3 n3
      exact ⟨m', hm, σ3, H3, I3, w3⟩
    | brk => exact q3
    | ret v => exact q3
  | false =>
    rw [if_neg Bool.false_ne_true]
    exact wpAny_execs_nil ⟨σ1, H2, I2, q2⟩
end
structure It where
  go : Nat → Hp → Prop
  yld : Nat → Hp → V → Hp → Prop
  stop : Nat → Hp → Prop
def FpOk (X : Cx) (pins : List (Addr × Obj)) (H : Hp) (b : Addr) : Prop :=
  H b = none ∧ b ≠ X.env.locals ∧ b ∉ X.fs ∧ (b ∈ X.ex ∨ X.s₀.heap.objs.size ≤ b) ∧ (∀ x c, X.env.cells.lookup x = some c → c ≠ b) ∧ ∀ p ∈ X.pn ++ pins, p.1 ≠ b
theorem Inv.fpOk {X : Cx} {pins : List (Addr × Obj)} {σ : St} {H H' : Hp} {s : Shared} {b : Addr} (I : Inv X pins σ H s) (hb : s.heap.objs.size ≤ b) (hn : H' b = none) : FpOk X pins H' b := by
  refine ⟨hn, Nat.ne_of_gt (Nat.lt_of_lt_of_le I.lt hb), I.nofs hb, .inr (Nat.le_trans I.sz hb), fun x c e z => ?_, fun p hp z => ?_⟩
  · obtain ⟨v, q⟩ := I.cell x c e
    exact absurd (Nat.lt_of_lt_of_le q.lt (by rw [z]; exact hb)) (Nat.lt_irrefl _)
  · exact absurd (Nat.lt_of_lt_of_le (Heap.lt_size (I.pin p hp).1) (by rw [z]; exact hb)) (Nat.lt_irrefl _)
structure Turn (P : Program) (w : World) (K : PySem.W.Frag) (tg : Expr) (J : It) (fp : List Addr) (it : Addr) (tn : Nat → Heap → Prop) : Prop where
  mem : it ∈ fp
  obj : ∀ i h, tn i h → ∀ b ∈ fp, ∃ o, h.get? b = some o ∧ ∀ v, o.data ≠ .cell v
  keep : ∀ i h h', tn i h → (∀ b ∈ fp, ∀ o, h.get? b = some o → h'.get? b = some o) → tn i h'
  item : ∀ (X : Cx), X.prog = P → X.w = w → X.K = K → X.calm = true → ∀ (i : Nat) (pins : List (Addr × Obj)) (s : Shared) (σ : St) (H : Hp) (E : Value → Shared → Prop), Inv X pins σ H s → (∀ b ∈ fp, FpOk X pins H b) → tn i s.heap → J.go i H →
    wpAny (model P w) X.A (pyNext (.ref it)) (fun r s1 => ∃ u, r = some u ∧
      wpAny (model P w) X.A (letOwnedTupleGo tg (.ref it) u) (fun _ s2 => ∃ x H', Inv X pins σ H' s2 ∧ RelV x u ∧ J.yld i H x H' ∧ tn (i + 1) s2.heap ∧ ∀ b ∈ fp, H' b = none) E s1) E s
  done : ∀ (X : Cx), X.prog = P → X.w = w → X.K = K → X.calm = true → ∀ (i : Nat) (pins : List (Addr × Obj)) (s : Shared) (σ : St) (H : Hp) (E : Value → Shared → Prop), Inv X pins σ H s → (∀ b ∈ fp, FpOk X pins H b) → tn i s.heap → J.stop i H →
    wpAny (model P w) X.A (pyNext (.ref it)) (fun r s1 => r = none ∧ Inv X pins σ H s1) E s
  self : ∀ (A : Around) (i : Nat) (s : Shared) (Q : Value → Shared → Prop) (E : Value → Shared → Prop), tn i s.heap → Q (.ref it) s → wpAny (model P w) A (pyIter (.ref it)) Q E s
abbrev TI := St → Hp → (It → Hp → Prop) → Prop
def PIE (X : Cx) (pins : List (Addr × Obj)) (σ : St) (tg : Expr) (R : It → Hp → Prop) (itv : Value) (s2 : Shared) : Prop :=
  ∃ (it : Addr) (fp : List Addr) (tn : Nat → Heap → Prop) (J : It) (H' : Hp), itv = .ref it ∧ Inv X pins σ H' s2 ∧ Turn X.prog X.w X.K tg J fp it tn ∧ tn 0 s2.heap ∧ (∀ b ∈ fp, FpOk X pins H' b) ∧ R J H'
def PI (X : Cx) (tg iter : Expr) (wi : TI) : Prop :=
  ∀ (pins : List (Addr × Obj)) (s : Shared) (σ : St) (H : Hp) (R : It → Hp → Prop), Inv X pins σ H s → wi σ H R →
    wpAny (model X.prog X.w) X.A (eval iter X.env) (fun v s1 => wpAny (model X.prog X.w) X.A (pyIter v) (PIE X pins σ tg R) X.xe s1) X.xe s
theorem go_of {M : Model} {A : Around} {E : Value → Shared → Prop} {s : Shared} {tg : Expr} {it : Addr} {u : Value} {o : Obj} {n : String} {vs : Array Value} {Q : Unit → Shared → Prop} (ho : s.heap.get? it = some o) (hc : o.cls = .type n) (hd : o.data = .fields vs)
    (hn : ["enumerate", "zip", "dict_itemiterator", "dict_reverseitemiterator", "odict_iterator", "itertools.zip_longest", "itertools.pairwise"].contains n = false) (hQ : Q () s) : wpAny M A (letOwnedTupleGo tg (.ref it) u) Q E s := by
  unfold letOwnedTupleGo
  cases tg <;> first
    | exact wpAny_pure hQ
    | (cases u <;> first
        | exact wpAny_pure hQ
        | (refine wpAny_bind (wpAny_load ho ?_)
           rw [hc, hd]
           show wpAny M A (if (["enumerate", "zip", "dict_itemiterator", "dict_reverseitemiterator", "odict_iterator", "itertools.zip_longest", "itertools.pairwise"].contains n && vs[0]? == some (rawInt _)) = true then _ else _) Q E s
           rw [if_neg (by intro h; rw [hn, Bool.false_and] at h; cases h)]
           exact wpAny_pure hQ))
def Itl (K : PySem.W.Frag) (a : Addr) : It :=
  ⟨fun i H => ∃ xs x, SqL K H a xs ∧ xs[i]? = some x, fun i H x H' => H' = H ∧ ∀ xs, SqL K H a xs → xs[i]? = some x, fun i H => ∃ xs, SqL K H a xs ∧ xs.length ≤ i⟩
def Itt (K : PySem.W.Frag) (a : Addr) : It :=
  ⟨fun i H => ∃ xs x, SqT K H a xs ∧ xs[i]? = some x, fun i H x H' => H' = H ∧ ∀ xs, SqT K H a xs → xs[i]? = some x, fun i H => ∃ xs, SqT K H a xs ∧ xs.length ≤ i⟩
def Itr (lo : Int) (n : Nat) : It := ⟨fun i _ => i < n, fun i H x H' => H' = H ∧ x = .int (lo + i), fun i _ => n ≤ i⟩
theorem turn_list {P : Program} {w : World} {K : PySem.W.Frag} {tg : Expr} (a it : Addr) : Turn P w K tg (Itl K a) [it] it (fun i h => h.IsListIter it a i) where
  mem := by simp
  obj := fun i h st b hb => by
    have e : b = it := by simpa using hb
    subst e
    obtain ⟨o, e, c, d⟩ := st
    exact ⟨o, e, fun v z => by rw [d] at z; cases z⟩
  keep := fun i h h' st k => st.at fun o e => k it (by simp) o e
  item := by
    intro X hP hw hK hc i pins s σ H E I hf st hg
    subst hP hw hK
    obtain ⟨xs, x, hq, hx⟩ := hg
    obtain ⟨its, rv, p, hz⟩ := I.list hq
    obtain ⟨u, hu, ru⟩ := rv.get hx
    obtain ⟨f0, f1, f2, f3, f4, f5⟩ := hf it (by simp)
    refine wpAny_pyNext_list_item st p.isList (x := u) (by simpa using hu) fun h' st' sb => ?_
    have I1 : Inv X pins σ H { s with heap := h' } := I.turned (t' := s.toks) (fun b o hb e => (sb.2 b hb).trans e) f0 f1 f3 f4 f5
    obtain ⟨o, e, c, d⟩ := id st'
    exact ⟨u, rfl, go_of (s := { s with heap := h' }) e c d (by decide) ⟨x, H, I1, ru, ⟨rfl, fun ys hy => by rw [I.list_inj hy hq]; exact hx⟩, st', fun b hb => (hf b hb).1⟩⟩
  done := by
    intro X hP hw hK hc i pins s σ H E I hf st hg
    subst hP hw hK
    obtain ⟨xs, hq, hx⟩ := hg
    obtain ⟨its, rv, p, hz⟩ := I.list hq
    obtain ⟨f0, f1, f2, f3, f4, f5⟩ := hf it (by simp)
    have hl := rv.length
    exact wpAny_pyNext_list_end (I.ok.hd hc) st p.isList (by simp; omega) fun h' eb => ⟨rfl, I.turned (t' := s.toks) (fun b o hb e => eb b o hb e) f0 f1 f3 f4 f5⟩
  self := fun _ _ _ _ _ st h => wpAny_pyIter_listiter st h
theorem turn_range {P : Program} {w : World} {K : PySem.W.Frag} {tg : Expr} (it : Addr) (lo : Int) (n : Nat) : Turn P w K tg (Itr lo n) [it] it (fun i h => IsRangeIter h it (lo + (i : Nat) * 1) ((n : Int) - (i : Nat)) 1) where
  mem := by simp
  obj := fun i h st b hb => by
    have e : b = it := by simpa using hb
    subst e
    exact ⟨_, st, fun v z => by
      have z' : Data.fields _ = Data.cell v := z
      cases z'⟩
  keep := fun i h h' st k => k it (by simp) _ st
  item := by
    intro X hP hw hK hc i pins s σ H E I hf st hg
    subst hP hw hK
    obtain ⟨f0, f1, f2, f3, f4, f5⟩ := hf it (by simp)
    have W := Walks.range (prog := X.prog) (w := X.w) (I.ok.hd hc) it lo 1 n
    refine W.item i s _ _ hg st fun v h' tk hv st' kk => ?_
    obtain ⟨t, rfl⟩ := hv
    have I1 : Inv X pins σ H { s with heap := h', toks := tk } := I.turned (fun b o hb e => kk b o (by simpa using hb) e) f0 f1 f3 f4 f5
    refine ⟨_, rfl, go_of (s := { s with heap := h', toks := tk }) (n := "range_iterator") st' rfl rfl (by decide) ⟨.int (lo + i), H, I1, ⟨t, ?_⟩, ⟨rfl, rfl⟩, st', fun b hb => (hf b hb).1⟩⟩
    rw [Int.mul_one]
  done := by
    intro X hP hw hK hc i pins s σ H E I hf st hg
    subst hP hw hK
    obtain ⟨f0, f1, f2, f3, f4, f5⟩ := hf it (by simp)
    exact wpAny_pyNext_range_end (I.ok.hd hc) st (by have : n ≤ i := hg; omega) fun h' eb => ⟨rfl, I.turned (t' := s.toks) (fun b o hb e => eb b o hb e) f0 f1 f3 f4 f5⟩
  self := fun _ _ _ _ _ st h => wpAny_pyIter_rangeiter st h
open PySem PySem.Spec PyProof.Rows
section
variable {X : Cx} {tg : Expr}
def iList (K : PySem.W.Frag) (tl : TE) : TI := fun σ H R => tl σ H fun x H1 => ∃ a, x = .ref a ∧ (∃ xs, SqL K H1 a xs) ∧ R (Itl K a) H1
def iTup (K : PySem.W.Frag) (tl : TE) : TI := fun σ H R => tl σ H fun x H1 => ∃ a, x = .ref a ∧ (∃ xs, SqT K H1 a xs) ∧ R (Itt K a) H1
theorem pi_list {l : Expr} {tl : TE} (hl : PE X l tl) : PI X tg l (iList X.K tl) := by
  intro pins s σ H R I h
  refine thn (hl pins s σ H _ I h) fun v s1 ⟨x, H1, I1, r1, q1⟩ => ?_
  obtain ⟨a, e, ⟨xs, hq⟩, q⟩ := q1
  subst e
  cases r1
  obtain ⟨its, rv, p, hz⟩ := I1.list hq
  refine wpAny_pyIter_list p.isList ?_
  refine ⟨s1.heap.objs.size, [s1.heap.objs.size], _, _, H1, rfl, I1.kept (t' := s1.toks) fun b o e => Heap.get?_push_of_some _ e, turn_list a _, ⟨_, Heap.get?_push_size _ rfl, rfl, rfl⟩, fun b hb => ?_, q⟩
  have e : b = s1.heap.objs.size := by simpa using hb
  subst e
  exact I1.fpOk (Nat.le_refl _) (I1.hok.fresh (Nat.le_refl _))
theorem range_it {pins : List (Addr × Obj)} {σ : St} {H : Hp} {s : Shared} {R : It → Hp → Prop} {E : Value → Shared → Prop} {lo hi : Int} {t u v : Tok} {tk : Nat} (I : Inv X pins σ H s) (h1 : -(2 ^ 62) ≤ lo) (h2 : lo < 2 ^ 62) (h3 : -(2 ^ 62) ≤ hi) (h4 : hi < 2 ^ 62)
    (q : R (Itr lo (hi - lo).toNat) H) : wpAny (model X.prog X.w) X.A (pyIter (.ref s.heap.objs.size)) (PIE X pins σ tg R) E { s with heap := s.heap.push { cls := .type "range", data := .fields #[.int lo t, .int hi u, .int 1 v] }, toks := tk } := by
  refine wpAny_pyIter_range (IsRange.new ..) (small_one h1 h2 h3 h4) ?_
  have I1 : Inv X pins σ H { s with heap := s.heap.push { cls := .type "range", data := .fields #[.int lo t, .int hi u, .int 1 v] }, toks := tk } := I.kept fun b o e => Heap.get?_push_of_some _ e
  refine ⟨(s.heap.push { cls := .type "range", data := .fields #[.int lo t, .int hi u, .int 1 v] }).objs.size, [(s.heap.push { cls := .type "range", data := .fields #[.int lo t, .int hi u, .int 1 v] }).objs.size], _, _, H, rfl,
    I1.kept (t' := tk) fun b o e => Heap.get?_push_of_some _ e, turn_range _ lo (hi - lo).toNat, ?_, fun b hb => ?_, q⟩
  · have e1 : lo + ((0 : Nat) : Int) * 1 = lo := by simp
    have e2 : (((hi - lo).toNat : Nat) : Int) - ((0 : Nat) : Int) = Builtin.Range.rangeSize lo hi 1 := by rw [rangeSize_one]; split <;> omega
    show IsRangeIter _ _ (lo + ((0 : Nat) : Int) * 1) ((((hi - lo).toNat : Nat) : Int) - ((0 : Nat) : Int)) 1
    rw [e1, e2]
    exact Heap.get?_push_size _ rfl
  · have e : b = (s.heap.push { cls := .type "range", data := .fields #[.int lo t, .int hi u, .int 1 v] }).objs.size := by simpa using hb
    subst e
    exact I1.fpOk (Nat.le_refl _) (I1.hok.fresh (Nat.le_refl _))
def iRng1 (ta : TA) : TI := fun σ H R => ta σ H fun vs H1 => ∃ j : Int, vs = [.int j] ∧ -(2 ^ 62) ≤ j ∧ j < 2 ^ 62 ∧ R (Itr 0 j.toNat) H1
def iRng2 (ta : TA) : TI := fun σ H R => ta σ H fun vs H1 => ∃ i j : Int, vs = [.int i, .int j] ∧ (-(2 ^ 62) ≤ i ∧ i < 2 ^ 62 ∧ -(2 ^ 62) ≤ j ∧ j < 2 ^ 62) ∧ R (Itr i (j - i).toNat) H1
theorem pi_range1 {a : Expr} {ta : TA} {p pos : Pos} (hg : Gl X "range") (hm : X.mg "range" = none) (ha : PA X [a] ta) (hs : starEach [a] X.env = [(false, eval a X.env)] := by rfl) : PI X tg (.Call (.Name "range" p) [a] [] pos) (iRng1 ta) := by
  intro pins s σ H R I h
  refine Call_ (ld_blt I hg hm boot_range (PyProof.Rows.callWith_type1 (thn (ha pos pins s σ H _ I h) fun us s1 ⟨vs, H1, I1, r1, q1⟩ => ?_) hs rfl))
  obtain ⟨j, e, q1, q2, q⟩ := q1
  subst e
  cases r1 with
  | cons r rr =>
    cases rr
    obtain ⟨t, rfl⟩ := r
    exact call_range_1 (range_it I1 (by omega) (by omega) q1 q2 (by simpa using q))
theorem pi_range2 {a b : Expr} {ta : TA} {p pos : Pos} (hg : Gl X "range") (hm : X.mg "range" = none) (ha : PA X [a, b] ta) (hs : starEach [a, b] X.env = [(false, eval a X.env), (false, eval b X.env)] := by rfl) (hs2 : starEach [b] X.env = [(false, eval b X.env)] := by rfl) :
    PI X tg (.Call (.Name "range" p) [a, b] [] pos) (iRng2 ta) := by
  intro pins s σ H R I h
  refine Call_ (ld_blt I hg hm boot_range (PyProof.Rows.callWith_type1 (thn (ha pos pins s σ H _ I h) fun us s1 ⟨vs, H1, I1, r1, q1⟩ => ?_) (by rw [hs, hs2]) (by rw [hs2]; rfl)))
  obtain ⟨i, j, e, ⟨q1, q2, q3, q4⟩, q⟩ := q1
  subst e
  cases r1 with
  | cons r rr =>
    cases rr with
    | cons r' rr =>
      cases rr
      obtain ⟨t, rfl⟩ := r
      obtain ⟨t', rfl⟩ := r'
      exact call_range_2 (range_it I1 q1 q2 q3 q4 q)
def tFor (wi : TI) (g : TG) (tb : TS) : TS := fun D σ H => wi σ H fun J H1 => ∃ W : Nat → Nat → St → Hp → Prop, (∃ m, W 0 m σ H1) ∧ ∀ i m σ H, W i m σ H →
  (J.stop i H ∧ D.nx σ H) ∨ (J.go i H ∧ ∃ N : St → Hp → Prop, (∀ σ' H', N σ' H' → ∃ m', m' < m ∧ W (i + 1) m' σ' H') ∧ ∀ x H', J.yld i H x H' → g x σ H' fun σ2 H2 => tb { D with nx := N, ct := N, bk := D.nx } σ2 H2)
def pinsAt (fp : List Addr) (h : Heap) : List (Addr × Obj) := fp.filterMap fun b => (h.get? b).map fun o => (b, o)
theorem mem_pinsAt {fp : List Addr} {h : Heap} {b : Addr} {o : Obj} (hb : b ∈ fp) (e : h.get? b = some o) : (b, o) ∈ pinsAt fp h := List.mem_filterMap.mpr ⟨b, hb, by rw [e]; rfl⟩
theorem of_pinsAt {fp : List Addr} {h : Heap} {p : Addr × Obj} (hp : p ∈ pinsAt fp h) : p.1 ∈ fp ∧ h.get? p.1 = some p.2 := by
  obtain ⟨b, hb, e⟩ := List.mem_filterMap.mp hp
  cases q : h.get? b with
  | none => rw [q] at e; cases e
  | some o =>
    rw [q] at e
    have e' : (b, o) = p := Option.some.inj e
    subst e'
    exact ⟨hb, q⟩
theorem Inv.pinned {pins : List (Addr × Obj)} {σ : St} {H : Hp} {s : Shared} {fp : List Addr} (I : Inv X pins σ H s) (hf : ∀ b ∈ fp, FpOk X pins H b) (ho : ∀ b ∈ fp, ∃ o, s.heap.get? b = some o ∧ ∀ v, o.data ≠ .cell v) : Inv X (pins ++ pinsAt fp s.heap) σ H s :=
  I.pins_of fun p hp => (List.mem_append.mp hp).elim (fun z => I.pin p (List.mem_append_right _ z)) fun z => by
    obtain ⟨hb, e⟩ := of_pinsAt z
    obtain ⟨f0, f1, f2, _⟩ := hf p.1 hb
    obtain ⟨o, e', d⟩ := ho p.1 hb
    rw [e] at e'; cases e'
    exact ⟨e, f0, f1, f2, d⟩
theorem Inv.unpinned {pins pl : List (Addr × Obj)} {σ : St} {H : Hp} {s : Shared} (I : Inv X (pins ++ pl) σ H s) : Inv X pins σ H s := I.pins_of fun p hp => I.pin p (List.mem_append_right _ (List.mem_append_left _ hp))
theorem ps_for {iter : Expr} {body : List Stmt} {wi : TI} {g : TG} {tb : TS} {pos : Pos} (hp : PassesOwn (model X.prog X.w) X.A X.env X.xe) (hc : X.calm = true) (hi : PI X tg iter wi) (hg : PG X tg g) (hb : PSs X body tb)
    (hs : ∀ x, foldedSetIterable iter X.env x = pure x := by intro _; rfl) : PS X (.For tg iter body [] pos) (tFor wi g tb) := by
  intro pins s σ H D I h
  refine wpAny_For (thn (hi pins s σ H _ I h) fun v s1 h1 => thn h1 fun itv s2 h2 => ?_) hs
  obtain ⟨it, fp, tn, J, H2, e, I2, T, st2, f2, W, ⟨m0, w0⟩, turn⟩ := h2
  subst e
  have stat : ∀ {H' : Hp}, (∀ b ∈ fp, H' b = none) → ∀ b ∈ fp, FpOk X pins H' b := fun hn b hb => ⟨hn b hb, (f2 b hb).2⟩
  refine codeAny_forLoop_any (fun n s' => ∃ i σ' H', Inv X pins σ' H' s' ∧ tn i s'.heap ∧ (∀ b ∈ fp, H' b = none) ∧ W i n σ' H') ?_ m0 ⟨0, σ, H2, I2, st2, fun b hb => (f2 b hb).1, w0⟩
  rintro n s3 ⟨i, σ3, H3, I3, st3, fr3, w3⟩
  rcases turn i n σ3 H3 w3 with ⟨stop, qn⟩ | ⟨go, N, hN, step⟩
  · refine wpAny_passesOwn hp (thn (T.done X rfl rfl rfl hc i pins s3 σ3 H3 X.xe I3 (stat fr3) st3 stop) fun r s4 ⟨hr, I4⟩ => ?_)
    subst hr
    exact wpAny_execs_nil ⟨σ3, H3, I4, qn⟩
  · refine wpAny_passesOwn hp (thn (T.item X rfl rfl rfl hc i pins s3 σ3 H3 X.xe I3 (stat fr3) st3 go) fun r s4 ⟨u, hr, h4⟩ => ?_)
    subst hr
    refine wpAny_passesOwn hp (thn h4 fun _ s5 ⟨x, H5, I5, r5, y5, st5, fr5⟩ => ?_)
    have I5' := I5.pinned (stat fr5) (T.obj _ _ st5)
    refine wpAny_passesOwn hp (thn (hg _ s5 σ3 H5 x u _ I5' r5 (step x H5 y5)) fun _ s6 ⟨σ6, H6, I6, q6⟩ => ?_)
    refine wpAny_passesOwn hp (thn (hb _ s6 σ6 H6 _ I6 q6) fun f s7 q7 => ?_)
    have again : ∀ {σ7 : St} {H7 : Hp}, Inv X (pins ++ pinsAt fp s5.heap) σ7 H7 s7 → N σ7 H7 → ∃ m, m < n ∧ ∃ i σ' H', Inv X pins σ' H' s7 ∧ tn i s7.heap ∧ (∀ b ∈ fp, H' b = none) ∧ W i m σ' H' := fun {σ7 H7} I7 n7 => by
      obtain ⟨m', hm, w7⟩ := hN σ7 H7 n7
      refine ⟨m', hm, i + 1, σ7, H7, I7.unpinned, T.keep _ _ _ st5 fun b hb o e => (I7.pin (b, o) (List.mem_append_right _ (List.mem_append_right _ (mem_pinsAt hb e)))).1, fun b hb => ?_, w7⟩
      obtain ⟨o, e, d⟩ := T.obj _ _ st5 b hb
      exact (I7.pin (b, o) (List.mem_append_right _ (List.mem_append_right _ (mem_pinsAt hb e)))).2.1
    cases f with
    | next => obtain ⟨σ7, H7, I7, n7⟩ := q7; exact again I7 n7
    | cont => obtain ⟨σ7, H7, I7, n7⟩ := q7; exact again I7 n7
    | brk => obtain ⟨σ7, H7, I7, q7⟩ := q7; exact ⟨σ7, H7, I7.unpinned, q7⟩
    | ret v => obtain ⟨x7, σ7, H7, I7, r7, q7⟩ := q7; exact ⟨x7, σ7, H7, I7.unpinned, r7, q7⟩
end
theorem for_list {K : PySem.W.Frag} {a : Addr} {xs : List V} {g : TG} {tb : TS} {D : Ends} {σ : St} {H : Hp} (Pv : Nat → St → Hp → Prop) (h0 : Pv 0 σ H) (hl : ∀ i σ H, i ≤ xs.length → Pv i σ H → SqL K H a xs)
    (hs : ∀ i x σ H, xs[i]? = some x → Pv i σ H → g x σ H fun σ2 H2 => tb { D with nx := Pv (i + 1), ct := Pv (i + 1), bk := D.nx } σ2 H2) (hd : ∀ σ H, Pv xs.length σ H → D.nx σ H) :
    ∃ W : Nat → Nat → St → Hp → Prop, (∃ m, W 0 m σ H) ∧ ∀ i m σ H, W i m σ H →
      ((Itl K a).stop i H ∧ D.nx σ H) ∨ ((Itl K a).go i H ∧ ∃ N : St → Hp → Prop, (∀ σ' H', N σ' H' → ∃ m', m' < m ∧ W (i + 1) m' σ' H') ∧ ∀ x H', (Itl K a).yld i H x H' → g x σ H' fun σ2 H2 => tb { D with nx := N, ct := N, bk := D.nx } σ2 H2) := by
  refine ⟨fun i m σ H => m = xs.length - i ∧ i ≤ xs.length ∧ Pv i σ H, ⟨xs.length, by simp, Nat.zero_le _, h0⟩, ?_⟩
  rintro i m σ H ⟨rfl, hi, p⟩
  have q := hl i σ H hi p
  by_cases hlt : i < xs.length
  · refine .inr ⟨⟨xs, xs[i], q, by simp [hlt]⟩, Pv (i + 1), fun σ' H' p' => ⟨xs.length - (i + 1), by omega, rfl, hlt, p'⟩, fun x H' y => ?_⟩
    obtain ⟨e, y⟩ := y
    subst e
    exact hs i x σ _ (y xs q) p
  · have e : i = xs.length := by omega
    subst e
    exact .inl ⟨⟨xs, q, Nat.le_refl _⟩, hd σ H p⟩
theorem for_range {lo : Int} {n : Nat} {g : TG} {tb : TS} {D : Ends} {σ : St} {H : Hp} (Pv : Nat → St → Hp → Prop) (h0 : Pv 0 σ H)
    (hs : ∀ i σ H, i < n → Pv i σ H → g (.int (lo + i)) σ H fun σ2 H2 => tb { D with nx := Pv (i + 1), ct := Pv (i + 1), bk := D.nx } σ2 H2) (hd : ∀ σ H, Pv n σ H → D.nx σ H) :
    ∃ W : Nat → Nat → St → Hp → Prop, (∃ m, W 0 m σ H) ∧ ∀ i m σ H, W i m σ H →
      ((Itr lo n).stop i H ∧ D.nx σ H) ∨ ((Itr lo n).go i H ∧ ∃ N : St → Hp → Prop, (∀ σ' H', N σ' H' → ∃ m', m' < m ∧ W (i + 1) m' σ' H') ∧ ∀ x H', (Itr lo n).yld i H x H' → g x σ H' fun σ2 H2 => tb { D with nx := N, ct := N, bk := D.nx } σ2 H2) := by
  refine ⟨fun i m σ H => m = n - i ∧ i ≤ n ∧ Pv i σ H, ⟨n, by simp, Nat.zero_le _, h0⟩, ?_⟩
  rintro i m σ H ⟨rfl, hi, p⟩
  by_cases hlt : i < n
  · refine .inr ⟨hlt, Pv (i + 1), fun σ' H' p' => ⟨n - (i + 1), by omega, rfl, hlt, p'⟩, fun x H' y => ?_⟩
    obtain ⟨e, y⟩ := y
    subst e y
    exact hs i σ _ hlt p
  · have e : i = n := by omega
    subst e
    exact .inl ⟨Nat.le_refl _, hd σ H p⟩
open PySem PySem.Spec PyProof.Rows
abbrev R2 := V → V → Hp → VK → Prop
def OpR (X : Cx) (f : Value → Value → Sem Value) (r : R2) : Prop :=
  ∀ (pins : List (Addr × Obj)) (s : Shared) (σ : St) (H : Hp) (x y : V) (v u : Value) (Q : VK), Inv X pins σ H s → RelV x v → RelV y u → r x y H Q →
    wpAny (model X.prog X.w) X.A (f v u) (EP X pins σ Q) X.xe s
def UnR (X : Cx) (f : Value → Sem Value) (r : V → Hp → VK → Prop) : Prop :=
  ∀ (pins : List (Addr × Obj)) (s : Shared) (σ : St) (H : Hp) (x : V) (v : Value) (Q : VK), Inv X pins σ H s → RelV x v → r x H Q →
    wpAny (model X.prog X.w) X.A (f v) (EP X pins σ Q) X.xe s
def CallR (X : Cx) (f : Value) (r : List V → Hp → VK → Prop) : Prop :=
  ∀ (pins : List (Addr × Obj)) (s : Shared) (σ : St) (H : Hp) (xs : List V) (us : List Value) (Q : VK), Inv X pins σ H s → Vals xs us → r xs H Q →
    wpAny (model X.prog X.w) X.A (call f us) (EP X pins σ Q) X.xe s
def TruR (X : Cx) (r : V → Hp → (Bool → Hp → Prop) → Prop) : Prop :=
  ∀ (pins : List (Addr × Obj)) (s : Shared) (σ : St) (H : Hp) (x : V) (v : Value) (Q : Bool → Hp → Prop), Inv X pins σ H s → RelV x v → r x H Q →
    wpAny (model X.prog X.w) X.A (truthy v) (TP X pins σ Q) X.xe s
def tOp (r : R2) (ta tb : TE) : TE := fun σ H Q => ta σ H fun x H1 => tb σ H1 fun y H2 => r x y H2 Q
def tUn (r : V → Hp → VK → Prop) (ta : TE) : TE := fun σ H Q => ta σ H fun x H1 => r x H1 Q
def rI (C : Int → Int → Prop) (g : Int → Int → V) : R2 := fun x y H Q => ∃ i j, x = .int i ∧ y = .int j ∧ C i j ∧ Q (g i j) H
def rI0 (g : Int → Int → V) : R2 := fun x y H Q => ∃ i j, x = .int i ∧ y = .int j ∧ Q (g i j) H
def rU (g : Int → V) : V → Hp → VK → Prop := fun x H Q => ∃ i, x = .int i ∧ Q (g i) H
section
variable {X : Cx} {a b c : Expr} {ta tb tc : TE} {pos : Pos}
theorem binT (ha : PE X a ta) (hb : PE X b tb) {pins : List (Addr × Obj)} {s : Shared} {σ : St} {H : Hp} {R : V → V → Hp → Prop} (I : Inv X pins σ H s)
    (h : ta σ H fun x H1 => tb σ H1 fun y H2 => R x y H2) {Q : Value → Shared → Prop} {f : Value → Value → Sem Value}
    (hf : ∀ v u s2 x y H2, Inv X pins σ H2 s2 → RelV x v → RelV y u → R x y H2 → wpAny (model X.prog X.w) X.A (f v u) Q X.xe s2) :
    wpAny (model X.prog X.w) X.A (eval a X.env) (fun v s₁ => wpAny (model X.prog X.w) X.A (eval b X.env) (fun u s₂ => wpAny (model X.prog X.w) X.A (f v u) Q X.xe s₂) X.xe s₁) X.xe s := by
  refine thn (ha pins s σ H _ I h) fun v s1 ⟨x, H1, I1, r1, q1⟩ => ?_
  refine thn (hb pins s1 σ H1 _ I1 q1) fun u s2 ⟨y, H2, I2, r2, q2⟩ => ?_
  exact hf v u s2 x y H2 I2 r1 r2 q2
theorem pe_op {op : Operator} {r : R2} (ho : OpR X (binaryOp op) r) (ha : PE X a ta) (hb : PE X b tb) : PE X (.BinOp a op b pos) (tOp r ta tb) := by
  intro pins s σ H Q I h
  exact wpAny_BinOp (binT ha hb I h fun v u s2 x y H2 I2 rx ry q => ho pins s2 σ H2 x y v u Q I2 rx ry q)
theorem pe_un {op : UnaryOp} {r : V → Hp → VK → Prop} (ho : UnR X (unaryOp op) r) (ha : PE X a ta) : PE X (.UnaryOp op a pos) (tUn r ta) := by
  intro pins s σ H Q I h
  exact UnaryOp_ (thn (ha pins s σ H _ I h) fun v s1 ⟨x, H1, I1, r1, q1⟩ => ho pins s1 σ H1 x v Q I1 r1 q1)
theorem opI {f : Value → Value → Sem Value} {C : Int → Int → Prop} {g : Int → Int → Int}
    (rule : ∀ (i j : Int) (t u : Tok) (s : Shared) (Q : Value → Shared → Prop) (E : Value → Shared → Prop), C i j → Q (.int (g i j) s.toks) { s with toks := s.toks + 1 } → wpAny (model X.prog X.w) X.A (f (.int i t) (.int j u)) Q E s) :
    OpR X f (rI C fun i j => .int (g i j)) := by
  intro pins s σ H x y v u Q I rx ry h
  obtain ⟨i, j, rfl, rfl, hc, q⟩ := h
  obtain ⟨t, rfl⟩ := rx
  obtain ⟨t', rfl⟩ := ry
  exact rule i j t t' s _ _ hc ⟨.int (g i j), H, I.tok _, ⟨_, rfl⟩, q⟩
theorem opI0 {f : Value → Value → Sem Value} {g : Int → Int → Int}
    (rule : ∀ (i j : Int) (t u : Tok) (s : Shared) (Q : Value → Shared → Prop) (E : Value → Shared → Prop), Q (.int (g i j) s.toks) { s with toks := s.toks + 1 } → wpAny (model X.prog X.w) X.A (f (.int i t) (.int j u)) Q E s) :
    OpR X f (rI0 fun i j => .int (g i j)) := by
  intro pins s σ H x y v u Q I rx ry h
  obtain ⟨i, j, rfl, rfl, q⟩ := h
  obtain ⟨t, rfl⟩ := rx
  obtain ⟨t', rfl⟩ := ry
  exact rule i j t t' s _ _ ⟨.int (g i j), H, I.tok _, ⟨_, rfl⟩, q⟩
theorem opB0 {f : Value → Value → Sem Value} {g : Int → Int → Bool}
    (rule : ∀ (i j : Int) (t u : Tok) (s : Shared) (Q : Value → Shared → Prop) (E : Value → Shared → Prop), Q (.bool (g i j)) s → wpAny (model X.prog X.w) X.A (f (.int i t) (.int j u)) Q E s) :
    OpR X f (rI0 fun i j => .bl (g i j)) := by
  intro pins s σ H x y v u Q I rx ry h
  obtain ⟨i, j, rfl, rfl, q⟩ := h
  obtain ⟨t, rfl⟩ := rx
  obtain ⟨t', rfl⟩ := ry
  exact rule i j t t' s _ _ ⟨.bl (g i j), H, I, rfl, q⟩
def CDiv (i j : Int) : Prop := 0 < j ∧ j < 1073741824
def CDivN (i j : Int) : Prop := j ≠ 0 ∧ j.natAbs < 1073741824
def CPow (i j : Int) : Prop := 0 ≤ j ∧ j ≤ 1000000 ∧ i.natAbs < 2 ^ 64
def CMul (i j : Int) : Prop := (-(2 ^ 64) < i ∧ i < 2 ^ 64) ∨ (-(2 ^ 64) < j ∧ j < 2 ^ 64)
theorem CMul.ok {i j : Int} (h : CMul i j) : IntMulOk i j := by
  rcases h with ⟨h1, h2⟩ | ⟨h1, h2⟩
  · exact .of_left (intBits_le_64 h1 h2)
  · exact .of_right (intBits_le_64 h1 h2)
theorem op_add : OpR X (binaryOp .Add) (rI0 fun i j => .int (i + j)) := opI0 fun _ _ _ _ _ _ _ q => add_int q
theorem op_sub : OpR X (binaryOp .Sub) (rI0 fun i j => .int (i - j)) := opI0 fun _ _ _ _ _ _ _ q => sub_int q
theorem op_mul : OpR X (binaryOp .Mult) (rI CMul fun i j => .int (i * j)) := opI fun _ _ _ _ _ _ _ hc q => mul_int q hc.ok
theorem op_fdiv : OpR X (binaryOp .FloorDiv) (rI CDiv fun i j => .int (i / j)) := opI fun i j _ _ _ _ _ hc q => by
  have h1 : (0 : Int) < j := hc.1
  have h2 : j < 1073741824 := hc.2
  exact floordiv_int (by omega) (by rw [Int.fdiv_eq_ediv_of_nonneg i (by omega)]; exact q) (.inl (PyProof.noPylong_small (by omega)))
theorem op_mod : OpR X (binaryOp .Mod) (rI (fun _ j => 0 < j) fun i j => .int (i % j)) := opI fun i j _ _ _ _ _ hc q => by
  have h1 : (0 : Int) < j := hc
  exact mod_int' (by omega) (by rw [Int.fmod_eq_emod_of_nonneg i (by omega)]; exact q)
theorem op_pow : OpR X (binaryOp .Pow) (rI CPow fun i j => .int (i ^ j.toNat)) := opI fun _ _ _ _ _ _ _ hc q => pow_int_small hc.1 hc.2.1 hc.2.2 q
theorem unI {f : Value → Sem Value} {g : Int → Int}
    (rule : ∀ (i : Int) (t : Tok) (s : Shared) (Q : Value → Shared → Prop) (E : Value → Shared → Prop), Q (.int (g i) s.toks) { s with toks := s.toks + 1 } → wpAny (model X.prog X.w) X.A (f (.int i t)) Q E s) :
    UnR X f (rU fun i => .int (g i)) := by
  intro pins s σ H x v Q I rx h
  obtain ⟨i, rfl, q⟩ := h
  obtain ⟨t, rfl⟩ := rx
  exact rule i t s _ _ ⟨.int (g i), H, I.tok _, ⟨_, rfl⟩, q⟩
theorem un_neg : UnR X (unaryOp .USub) (rU fun i => .int (-i)) := unI fun _ _ _ _ _ q => neg_int q
end
def scal : V → V → Bool
  | .non, .non => true | .non, .int _ => true | .int _, .non => true | .non, .bl _ => true | .bl _, .non => true | .non, .str _ => true | .str _, .non => true
  | .int _, .int _ => true | .bl _, .bl _ => true | .str _, .str _ => true | .byt _, .byt _ => true
  | .int _, .str _ => true | .str _, .int _ => true | .bl _, .str _ => true | .str _, .bl _ => true
  | _, _ => false
def rEq : R2 := fun x y H Q => scal x y = true ∧ Q (.bl (decide (x = y))) H
def rNe : R2 := fun x y H Q => scal x y = true ∧ Q (.bl (!decide (x = y))) H
theorem dec_int {i j : Int} : decide (V.int i = V.int j) = (i == j) := by
  rw [Bool.eq_iff_iff]
  simp
theorem dec_bl {i j : Bool} : decide (V.bl i = V.bl j) = (i == j) := by
  rw [Bool.eq_iff_iff]
  simp
theorem dec_str {i j : Str} : decide (V.str i = V.str j) = (i == j) := by
  rw [Bool.eq_iff_iff]
  simp
theorem dec_byt {i j : Array UInt8} : decide (V.byt i = V.byt j) = (i.toList == j.toList) := by
  rw [Bool.eq_iff_iff]
  cases i
  cases j
  simp
section
variable {X : Cx} {a b c : Expr} {ta tb tc : TE} {pos : Pos}
theorem fin_bl {pins : List (Addr × Obj)} {σ : St} {H : Hp} {s : Shared} {Q : VK} {k k' : Bool} (I : Inv X pins σ H s) (q : Q (.bl k) H) (e : k = k') : EP X pins σ Q (.bool k') s := by
  subst e
  exact ⟨.bl k, H, I, rfl, q⟩
theorem op_eq : OpR X (compareOp .Eq) rEq := by
  intro pins s σ H x y v u Q I rx ry h
  obtain ⟨hs, q⟩ := h
  cases x with
  | non =>
    cases rx
    cases y with
    | non => cases ry; exact PySem.EqNone.eq_none_none (fin_bl I q (by simp))
    | bl j => cases ry; exact PySem.EqNone.eq_none_bool (fin_bl I q (by simp))
    | int j => obtain ⟨t', rfl⟩ := ry; exact PySem.EqNone.eq_none_int (fin_bl I q (by simp))
    | str j => obtain ⟨t', rfl⟩ := ry; exact PySem.EqNone.eq_none_str (fin_bl I q (by simp))
    | _ => exact absurd (show false = true from hs) Bool.false_ne_true
  | bl i =>
    cases rx
    cases y with
    | non => cases ry; exact PySem.EqNone.eq_bool_none (fin_bl I q (by simp))
    | bl j => cases ry; exact eq_bool (fin_bl I q dec_bl)
    | str j => obtain ⟨t', rfl⟩ := ry; exact PySem.EqMixed.eq_bool_str (fin_bl I q (by simp))
    | _ => exact absurd (show false = true from hs) Bool.false_ne_true
  | int i =>
    obtain ⟨t, rfl⟩ := rx
    cases y with
    | non => cases ry; exact PySem.EqNone.eq_int_none (fin_bl I q (by simp))
    | int j => obtain ⟨t', rfl⟩ := ry; exact eq_int (fin_bl I q dec_int)
    | str j => obtain ⟨t', rfl⟩ := ry; exact PySem.EqMixed.eq_int_str (fin_bl I q (by simp))
    | _ => exact absurd (show false = true from hs) Bool.false_ne_true
  | str i =>
    obtain ⟨t, rfl⟩ := rx
    cases y with
    | non => cases ry; exact PySem.EqNone.eq_str_none (fin_bl I q (by simp))
    | bl j => cases ry; exact PySem.EqMixed.eq_str_bool (fin_bl I q (by simp))
    | int j => obtain ⟨t', rfl⟩ := ry; exact PySem.EqMixed.eq_str_int (fin_bl I q (by simp))
    | str j => obtain ⟨t', rfl⟩ := ry; exact eq_str (fin_bl I q dec_str)
    | _ => exact absurd (show false = true from hs) Bool.false_ne_true
  | byt i =>
    obtain ⟨t, rfl⟩ := rx
    cases y with
    | byt j => obtain ⟨t', rfl⟩ := ry; exact PySem.W.eq_bytes (fin_bl I q dec_byt)
    | _ => exact absurd (show false = true from hs) Bool.false_ne_true
  | _ => cases y <;> exact absurd (show false = true from hs) Bool.false_ne_true
theorem op_ne : OpR X (compareOp .NotEq) rNe := by
  intro pins s σ H x y v u Q I rx ry h
  obtain ⟨hs, q⟩ := h
  cases x with
  | non =>
    cases rx
    cases y with
    | non => cases ry; exact PySem.EqNone.ne_none_none (fin_bl I q (by simp))
    | bl j => cases ry; exact PySem.EqNone.ne_none_bool (fin_bl I q (by simp))
    | int j => obtain ⟨t', rfl⟩ := ry; exact PySem.EqNone.ne_none_int (fin_bl I q (by simp))
    | str j => obtain ⟨t', rfl⟩ := ry; exact PySem.EqNone.ne_none_str (fin_bl I q (by simp))
    | _ => exact absurd (show false = true from hs) Bool.false_ne_true
  | bl i =>
    cases rx
    cases y with
    | non => cases ry; exact PySem.EqNone.ne_bool_none (fin_bl I q (by simp))
    | bl j => cases ry; exact ne_bool (fin_bl I q (congrArg not dec_bl))
    | str j => obtain ⟨t', rfl⟩ := ry; exact PySem.EqMixed.ne_bool_str (fin_bl I q (by simp))
    | _ => exact absurd (show false = true from hs) Bool.false_ne_true
  | int i =>
    obtain ⟨t, rfl⟩ := rx
    cases y with
    | non => cases ry; exact PySem.EqNone.ne_int_none (fin_bl I q (by simp))
    | int j => obtain ⟨t', rfl⟩ := ry; exact ne_int (fin_bl I q (congrArg not dec_int))
    | str j => obtain ⟨t', rfl⟩ := ry; exact PySem.EqMixed.ne_int_str (fin_bl I q (by simp))
    | _ => exact absurd (show false = true from hs) Bool.false_ne_true
  | str i =>
    obtain ⟨t, rfl⟩ := rx
    cases y with
    | non => cases ry; exact PySem.EqNone.ne_str_none (fin_bl I q (by simp))
    | bl j => cases ry; exact PySem.EqMixed.ne_str_bool (fin_bl I q (by simp))
    | int j => obtain ⟨t', rfl⟩ := ry; exact PySem.EqMixed.ne_str_int (fin_bl I q (by simp))
    | str j => obtain ⟨t', rfl⟩ := ry; exact ne_str (fin_bl I q (congrArg not dec_str))
    | _ => exact absurd (show false = true from hs) Bool.false_ne_true
  | byt i =>
    obtain ⟨t, rfl⟩ := rx
    cases y with
    | byt j => obtain ⟨t', rfl⟩ := ry; exact PySem.W.ne_bytes (fin_bl I q (congrArg not dec_byt))
    | _ => exact absurd (show false = true from hs) Bool.false_ne_true
  | _ => cases y <;> exact absurd (show false = true from hs) Bool.false_ne_true
theorem op_lt : OpR X (compareOp .Lt) (rI0 fun i j => .bl (decide (i < j))) := opB0 fun _ _ _ _ _ _ _ q => lt_int q
theorem op_le : OpR X (compareOp .LtE) (rI0 fun i j => .bl (decide (i ≤ j))) := opB0 fun _ _ _ _ _ _ _ q => le_int q
theorem op_gt : OpR X (compareOp .Gt) (rI0 fun i j => .bl (decide (j < i))) := opB0 fun _ _ _ _ _ _ _ q => gt_int q
theorem op_ge : OpR X (compareOp .GtE) (rI0 fun i j => .bl (decide (j ≤ i))) := opB0 fun _ _ _ _ _ _ _ q => ge_int q
theorem op_in_str : OpR X (compareOp .In) (fun x y H Q => ∃ i j, x = .str i ∧ y = .str j ∧ Q (.bl (!(Builtin.Str.occurrences j i 0 j.length 1).isEmpty)) H) := by
  intro pins s σ H x y v u Q I rx ry h
  obtain ⟨i, j, rfl, rfl, q⟩ := h
  obtain ⟨t, rfl⟩ := rx
  obtain ⟨t', rfl⟩ := ry
  exact in_str (fin_bl I q rfl)
theorem op_isN : OpR X (compareOp .Is) (fun x y H Q => y = .non ∧ Q (.bl (decide (x = .non))) H) := by
  intro pins s σ H x y v u Q I rx ry h
  obtain ⟨rfl, q⟩ := h
  cases ry
  refine is_none_gen (fin_bl I q ?_)
  cases x <;> first
    | (cases rx; rfl)
    | (obtain ⟨t, rfl⟩ := rx; rfl)
def isObj : HO → Bool
  | .lst _ => true
  | .ins _ _ _ => true
  | _ => false
theorem nomark (b : Expr) {op : CmpOp} (h : op ≠ .In := by decide) (h2 : op ≠ .NotIn := by decide) : behindInMarks op b = false := by
  have e1 : (op == CmpOp.In) = false := by cases op <;> first | rfl | exact absurd rfl h
  have e2 : (op == CmpOp.NotIn) = false := by cases op <;> first | rfl | exact absurd rfl h2
  cases b <;> simp [behindInMarks, e1, e2]
theorem pe_cmpR {op : CmpOp} {r : R2} (ho : OpR X (compareOp op) r) (ha : PE X a ta) (hb : PE X b tb) (hm : behindInMarks op b = false) : PE X (.Compare a [op] [b] pos) (tOp r ta tb) := by
  intro pins s σ H Q I h
  exact wpAny_Compare1 (binT ha hb I h fun v u s2 x y H2 I2 rx ry q => ho pins s2 σ H2 x y v u Q I2 rx ry q) hm
def tTest (t : TE) : TT := fun σ H Q => t σ H fun x H' => ∃ k, x = .bl k ∧ Q k H'
theorem pt_cmpR {op : CmpOp} {r : R2} (ho : OpR X (compareOp op) r) (ha : PE X a ta) (hb : PE X b tb) (hm : behindInMarks op b = false) : PT X (.Compare a [op] [b] pos) (tTest (tOp r ta tb)) := by
  intro pins s σ H Q I h
  refine wpAny_isTrue_Compare1 (thn (ha pins s σ H _ I h) fun v s1 ⟨x, H1, I1, r1, q1⟩ => thn (hb pins s1 σ H1 _ I1 q1) fun u s2 ⟨y, H2, I2, r2, q2⟩ =>
    thn (ho pins s2 σ H2 x y v u _ I2 r1 r2 q2) fun c s3 ⟨z, H3, I3, r3, k, e, q3⟩ => ?_) hm
  subst e
  cases r3
  exact wpAny_truthy_bool ⟨H3, I3, q3⟩
def tChain (r r' : R2) (ta tb tc : TE) : TE := fun σ H Q => ta σ H fun x H1 => tb σ H1 fun y H2 => r x y H2 fun z H3 => ∃ k, z = .bl k ∧
  (if k = true then tc σ H3 fun w' H4 => r' y w' H4 Q else Q (.bl false) H3)
def TruV (K : PySem.W.Frag) (x : V) (H : Hp) (k : Bool) : Prop :=
  match x with
  | .non => k = false
  | .bl b => k = b
  | .int i => k = (i != 0)
  | .str y => y.length ≤ sizeLine ∧ k = ((y.length : Int) != 0)
  | .byt y => y.size ≤ sizeLine ∧ k = ((y.size : Int) != 0)
  | .ref p => (∃ xs, SqL K H p xs ∧ k = !xs.isEmpty) ∨ (∃ xs, SqT K H p xs ∧ k = !xs.isEmpty) ∨ ∃ kvs, H p = some (.dK kvs) ∧ k = !kvs.isEmpty
  | _ => False
theorem isEmpty_kv {κ : Type} {kvs : List (κ × V)} {vs : List (κ × Value)} (r : KV kvs vs) : (!vs.isEmpty) = !kvs.isEmpty := by
  cases r <;> rfl
theorem isEmpty_of {xs : List V} {its : List Value} (r : Vals xs its) : (!its.toArray.isEmpty) = !xs.isEmpty := by
  cases r <;> simp
theorem line63 : (sizeLine : Nat) < 2 ^ 63 := by rw [sizeLine_eq]; decide
theorem tru_ok : TruR X (fun x H Q => ∃ k, TruV X.K x H k ∧ Q k H) := by
  intro pins s σ H x v Q I rx h
  obtain ⟨k, e, q⟩ := h
  have hl := line63
  have hs : sizeLine = 16777216 := sizeLine_eq
  cases x with
  | non =>
    cases rx
    have e' : k = false := e
    subst e'
    exact truthy_none ⟨H, I, q⟩
  | bl b =>
    cases rx
    have e' : k = b := e
    subst e'
    exact wpAny_truthy_bool ⟨H, I, q⟩
  | int i =>
    obtain ⟨t, rfl⟩ := rx
    have e' : k = (i != 0) := e
    subst e'
    exact PySem.P.truthy_int ⟨H, I, q⟩
  | str y =>
    obtain ⟨t, rfl⟩ := rx
    obtain ⟨hy, e'⟩ : y.length ≤ sizeLine ∧ k = ((y.length : Int) != 0) := e
    subst e'
    exact PySem.P.truthy_str (by omega) ⟨H, I.tok _, q⟩
  | byt y =>
    obtain ⟨t, rfl⟩ := rx
    obtain ⟨hy, e'⟩ : y.size ≤ sizeLine ∧ k = ((y.size : Int) != 0) := e
    subst e'
    exact PySem.W.truthy_bytes (by omega) ⟨H, I.tok _, q⟩
  | ref p =>
    cases rx
    have e' : (∃ xs, SqL X.K H p xs ∧ k = !xs.isEmpty) ∨ (∃ xs, SqT X.K H p xs ∧ k = !xs.isEmpty) ∨ ∃ kvs, H p = some (.dK kvs) ∧ k = !kvs.isEmpty := e
    rcases e' with ⟨xs, hx, e'⟩ | ⟨xs, hx, e'⟩ | ⟨kvs, hx, e'⟩
    · subst e'
      obtain ⟨its, r, pl, hz⟩ := I.list hx
      have hlen := r.length
      exact wpAny_truthy_list pl.isList (by simp only [List.size_toArray]; omega) ⟨H, I.tok _, by rw [isEmpty_of r]; exact q⟩
    · subst e'
      obtain ⟨its, r, pl, hz⟩ := I.tuple hx
      have hlen := r.length
      exact truthy_tuple pl (by simp only [List.size_toArray]; omega) ⟨H, I.tok _, by rw [isEmpty_of r]; exact q⟩
    · subst e'
      obtain ⟨hz, hS, vs, r, m⟩ : kvs.length ≤ sizeLine ∧ (p == sysModules) = false ∧ ∃ vs, KV kvs vs ∧ s.heap.DictOf (mixKind X.prog X.w) p vs := I.hok p _ hx
      have hlen : kvs.length = vs.length := Paired.length r
      exact wpAny_truthy_dict hS m (by omega) ⟨H, I.tok _, by rw [isEmpty_kv r]; exact q⟩
  | _ => exact (show False from e).elim
theorem pt_truth (ha : PE X a ta) (he : ∀ whole, isTrue a X.env whole = (do let v ← whole; standAt a.pos; holding [v] (truthy v))) :
    PT X a (fun σ H Q => ta σ H fun x H' => ∃ k, TruV X.K x H' k ∧ Q k H') := by
  intro pins s σ H Q I h
  exact isTrue_plain (thn (ha pins s σ H _ I h) fun v s1 ⟨x, H1, I1, r1, q1⟩ => tru_ok pins s1 σ H1 x v Q I1 r1 q1) (he _)
theorem op_add_str : OpR X (binaryOp .Add) (fun x y H Q => ∃ i j, x = .str i ∧ y = .str j ∧ i.length + j.length ≤ sizeLine ∧ Q (.str (i ++ j)) H) := by
  intro pins s σ H x y v u Q I rx ry h
  obtain ⟨i, j, rfl, rfl, hz, q⟩ := h
  obtain ⟨t, rfl⟩ := rx
  obtain ⟨t', rfl⟩ := ry
  exact add_str (fun t' tk => ⟨.str (i ++ j), H, I.tok _, ⟨_, rfl⟩, q⟩) hz
def PlainIxT (b : Expr) : Prop := ∀ o i, subscripted b false o i = operate [o, i] (getItem o i)
theorem vals1 {x : V} {us : List Value} (r : Vals [x] us) : ∃ u, us = [u] ∧ RelV x u := by
  cases r with
  | cons r1 r2 => cases r2; exact ⟨_, rfl, r1⟩
theorem call_abs : CallR X (.builtin "abs") (fun xs H Q => ∃ i, xs = [.int i] ∧ Q (.int (if i < 0 then -i else i)) H) := by
  intro pins s σ H xs us Q I r h
  obtain ⟨i, rfl, q⟩ := h
  obtain ⟨u, rfl, t, rfl⟩ := vals1 r
  exact call_abs_int fun u tk => ⟨.int (if i < 0 then -i else i), H, I.tok _, ⟨_, rfl⟩, q⟩
theorem call_str_int : CallR X (.type "str") (fun xs H Q => ∃ i, xs = [.int i] ∧ i.natAbs.log2 < 1920 ∧ Q (.str (toString i)) H) := by
  intro pins s σ H xs us Q I r h
  obtain ⟨i, rfl, hz, q⟩ := h
  obtain ⟨u, rfl, t, rfl⟩ := vals1 r
  exact PySem.P.str_of_int hz ⟨.str _, H, I.tok _, ⟨_, rfl⟩, q⟩
def LenV (K : PySem.W.Frag) (x : V) (H : Hp) (n : Nat) : Prop :=
  match x with
  | .str y => y.length ≤ sizeLine ∧ n = y.length
  | .byt y => y.size ≤ sizeLine ∧ n = y.size
  | .ref p => (∃ xs, SqL K H p xs ∧ n = xs.length) ∨ ∃ xs, SqT K H p xs ∧ n = xs.length
  | _ => False
end
open PySem PySem.Spec PyProof.Rows
structure ObjM (h : Heap) (x dx C : Addr) (mA : Str → Option Value) : Prop where
  obj : h.get? x = some (PySem.W.instObj C dx)
  ns : h.Ns1 dx mA
  ne : dx ≠ x
theorem lookIn_ns {h : Heap} {dx : Addr} {mA : Str → Option Value} (n : h.Ns1 dx mA) : ∃ od, h.get? dx = some od ∧ ∀ name, PySem.W.lookIn name od = some (mA name) := by
  obtain ⟨o, es, ep, ho, hd, hk, _, hm⟩ := n
  refine ⟨o, ho, fun name => ?_⟩
  have e := hm name
  unfold nsFind findBy at e
  rw [← Array.find?_toList] at e
  unfold PySem.W.lookIn
  rw [hd]
  dsimp only
  split
  · rename_i y q
    rw [q] at e
    exact congrArg some e
  · rename_i q
    rw [q] at e
    have a : es.toList.any (·.refKey) = false := by
      rw [List.any_eq_false]
      intro y hy
      obtain ⟨z, t, hkey⟩ := hk y (Array.mem_toList_iff.mp hy)
      simp [DictEntry.refKey, hkey]
    have a' : ¬ es.toList.any (·.refKey) = true := by rw [a]; exact Bool.false_ne_true
    rw [if_neg a']
    exact congrArg some e
theorem ObjM.look {h : Heap} {x dx C : Addr} {mA : Str → Option Value} (I : ObjM h x dx C mA) : ∃ od, PySem.W.InstAt h x (PySem.W.instObj C dx) C (some od) ∧ ∀ name, PySem.W.lookIn name od = some (mA name) :=
  let ⟨od, ho, hl⟩ := lookIn_ns I.ns
  ⟨od, ⟨I.obj, rfl, rfl, ho⟩, hl⟩
section
variable {prog : Program} {w : World} {A : Around} {E : Value → Shared → Prop} {s : Shared} {K : PySem.W.Frag} {x dx C f : Addr} {mA : Str → Option Value} {name : Str} {v : Value}
theorem get_map {expr : Bool} {Q : Value → Shared → Prop} (X : K.In s.heap) (I : ObjM s.heap x dx C mA) (hg : PySem.W.plainGet K C name = true) (hh : PySem.W.hasDictIn K C = true)
    (ha : PySem.W.findIn K (.ref C) name = some none) (hv : mA name = some v) (hv' : PySem.W.handedIn v = true) (h : Q v { s with toks := s.toks + 1 }) :
    wpAny (model prog w) A (getAttr (.ref x) name expr) Q E s := by
  obtain ⟨od, J, hl⟩ := I.look
  exact PySem.W.get_value X J (PySem.W.plainGet_of hg).1 (PySem.W.findObj_own hh ha rfl (by rw [hl, hv])) hv' h
theorem get_meth {pl : Sem Bool} {Q : Value × List Value → Shared → Prop} (X : K.In s.heap) (I : ObjM s.heap x dx C mA) (hg : PySem.W.plainGet K C name = true)
    (hf : PySem.W.findIn K (.ref C) name = some (some (.ref f))) (ht : PySem.W.isFn K (.ref f) = true) (hv : mA name = none) (h : Q (.ref f, [.ref x]) s) :
    wpAny (model prog w) A (getMethod (.ref x) name pl) Q E s := by
  obtain ⟨od, J, hl⟩ := I.look
  exact PySem.W.method_fn X J (PySem.W.plainGet_of hg).1 (PySem.W.plainGet_of hg).2 hf (beq_iff_eq.mp ht) (by show (PySem.W.lookIn name od).map (·.isSome) = some false; rw [hl, hv]; rfl) h
theorem set_map {ns : List Str} {Q : Unit → Shared → Prop} (X : K.In s.heap) (I : ObjM s.heap x dx C mA)
    (hs : PySem.W.findIn K (.ref C) "__setattr__" = some (some (.builtin "object.__setattr__"))) (hp : PySem.W.plainOver K C = true) (ht : PySem.W.takerIn K C name = some none) (hh : PySem.W.hasDictIn K C = true)
    (hw : PySem.Within mA ns) (hsz : ns.length ≤ sizeLine)
    (h : ∀ h', ObjM h' x dx C (fun y => if y = name then some v else mA y) → Heap.SameBut dx s.heap h' → Q () { s with heap := h', toks := s.toks + 2 }) :
    wpAny (model prog w) A (setAttr (.ref x) name v) Q E s := by
  obtain ⟨od, J, hl⟩ := I.look
  refine PySem.W.set_plain X J hs (PySem.W.osa_open (s := { s with toks := s.toks + 1 }) (r := none) X J hp ht fun b => ?_)
  obtain ⟨cd, hc, hd'⟩ := PySem.W.any_some hh
  have hx : s.heap.get? x = some ⟨.ref C, some dx, .plain, #[]⟩ := I.obj
  refine wpAny_bind (wpAny_pure (wpAny_bind (wpAny_bind (wpAny_loadPart hx (wpAny_bind (PySem.W.Looks.here (s := { s with toks := s.toks + 1 }) (PySem.W.looks_clsIn X hc) ?_))))))
  rw [hd']
  refine wpAny_pure (a := some dx) (wpAny_bind (wpAny_pure (wpAny_bind ?_)))
  refine wpAny_nsSet1 (s := { s with toks := s.toks + 1 }) I.ns fun h' hn2 hs2 => ?_
  obtain ⟨oD, esD, epD, hoD, hdD, hcD⟩ := hn2.count (PySem.Within.cons name v hw)
  refine wpAny_bind (wpAny_lookBehind hoD (by rw [hdD]; exact pastItsLine_dict (Nat.le_trans hcD (by rw [List.length_cons]; omega))) ?_)
  exact wpAny_pure (h _ ⟨(hs2.2 _ (Ne.symm I.ne)).trans I.obj, hn2, I.ne⟩ hs2)
theorem make_map {R : Result → Shared → Prop} {vs : List Value} {kw : List (Str × Value)} (X : K.In s.heap) (hm : PySem.W.makesIn K C = true)
    (hi : PySem.W.findIn K (.ref C) "__init__" = some (some (.ref f))) (hf : PySem.W.typeIn K (.ref f) = some (.type "function"))
    (h : codeAny (model prog w) (A.under (.builtin "type.__call__" ⟨.ref C :: vs, kw⟩)) (.call (.ref f) ⟨.ref (s.heap.objs.size + 1) :: vs, kw⟩) (PySem.W.InitBack (s.heap.objs.size + 1) R)
      { s with heap := (s.heap.push PySem.W.emptyDict).push (PySem.W.instObj C s.heap.objs.size) }) :
    codeAny (model prog w) A (.call (.ref C) ⟨vs, kw⟩) R s := by
  obtain ⟨hh, g, d, t, os⟩ := s
  exact PySem.W.make_core (PySem.W.makes_of X hm) (PySem.W.looks_findIn X hi) (fun self => PySem.W.bind_fn X self hf) (.inl rfl) h
end
def putF (f : Str) (v : V) : List (Str × V) → List (Str × V)
  | [] => [(f, v)]
  | (g, x) :: r => if g = f then (g, v) :: r else (g, x) :: putF f v r
theorem lookup_putF (f g : Str) (v : V) : ∀ fs : List (Str × V), (putF f v fs).lookup g = if g = f then some v else fs.lookup g
  | [] => by
    show List.lookup g [(f, v)] = _
    by_cases h : g = f
    · have hb : (g == f) = true := beq_iff_eq.mpr h
      simp only [List.lookup, hb, if_pos h]
    · have hb : (g == f) = false := beq_eq_false_iff_ne.mpr h
      simp only [List.lookup, hb, if_neg h]
  | (k, x) :: r => by
    have ih := lookup_putF f g v r
    rw [show putF f v ((k, x) :: r) = (if k = f then (k, v) :: r else (k, x) :: putF f v r) from rfl]
    by_cases hk : k = f
    · rw [if_pos hk]
      by_cases h : g = k
      · have hb : (g == k) = true := beq_iff_eq.mpr h
        simp only [List.lookup, hb, if_pos (h.trans hk)]
      · have hb : (g == k) = false := beq_eq_false_iff_ne.mpr h
        simp only [List.lookup, hb, if_neg (fun e : g = f => h (e.trans hk.symm))]
    · rw [if_neg hk]
      by_cases h : g = k
      · have hb : (g == k) = true := beq_iff_eq.mpr h
        simp only [List.lookup, hb, if_neg (fun e : g = f => hk (h.symm.trans e))]
      · have hb : (g == k) = false := beq_eq_false_iff_ne.mpr h
        simp only [List.lookup, hb]
        exact ih
theorem keys_putF (f : Str) (v : V) : ∀ fs : List (Str × V), f ∈ (putF f v fs).map (·.1) ∧ ∀ g, g ∈ fs.map (·.1) → g ∈ (putF f v fs).map (·.1)
  | [] => ⟨by simp [putF], fun g h => by simp at h⟩
  | (k, x) :: r => by
    obtain ⟨i1, i2⟩ := keys_putF f v r
    rw [show putF f v ((k, x) :: r) = (if k = f then (k, v) :: r else (k, x) :: putF f v r) from rfl]
    by_cases hk : k = f
    · rw [if_pos hk]
      subst hk
      exact ⟨by simp, fun g h => by simpa using h⟩
    · rw [if_neg hk]
      refine ⟨?_, fun g h => ?_⟩
      · rw [List.map_cons]
        exact List.mem_cons_of_mem _ i1
      · rw [List.map_cons] at h ⊢
        rcases List.mem_cons.mp h with e | e
        · exact List.mem_cons.mpr (.inl e)
        · exact List.mem_cons_of_mem _ (i2 g e)
theorem length_putF (f : Str) (v : V) : ∀ fs : List (Str × V), (putF f v fs).length ≤ fs.length + 1
  | [] => by simp [putF]
  | (k, x) :: r => by
    have ih := length_putF f v r
    rw [show putF f v ((k, x) :: r) = (if k = f then (k, v) :: r else (k, x) :: putF f v r) from rfl]
    by_cases hk : k = f
    · rw [if_pos hk, List.length_cons, List.length_cons]; omega
    · rw [if_neg hk, List.length_cons, List.length_cons]; omega
theorem RelO.some_of {v : V} {o : Option Value} (r : RelO (some v) o) : ∃ u, o = some u ∧ RelV v u := by
  cases o with
  | none => exact (show False from r).elim
  | some u => exact ⟨u, rfl, r⟩
theorem RelO.none_of {o : Option Value} (r : RelO none o) : o = none := by
  cases o with
  | none => rfl
  | some u => exact (show False from r).elim
theorem handed_of {v : V} {u : Value} (r : RelV v u) : PySem.W.handedIn u = true := by
  cases v with
  | non => cases (show u = Value.none from r); rfl
  | bl b => cases (show u = Value.bool b from r); rfl
  | int i => obtain ⟨t, e⟩ := (show ∃ t, u = Value.int i t from r); cases e; rfl
  | str x => obtain ⟨t, e⟩ := (show ∃ t, u = Value.str x t from r); cases e; rfl
  | byt b => obtain ⟨t, e⟩ := (show ∃ t, u = Value.bytes b t from r); cases e; rfl
  | flt b => obtain ⟨t, e⟩ := (show ∃ t, u = Value.float b t from r); cases e; rfl
  | ref a => cases (show u = Value.ref a from r); rfl
  | ty n => cases (show u = Value.type n from r); rfl
section
variable {P : Program} {w : World} {H H' : Hp} {h h' : Heap} {a C dx : Addr} {fs fs' : List (Str × V)}
theorem ins_get (hok : HOk P w H h) (e : H a = some (.ins C dx fs)) : ∃ mA, ObjM h a dx C mA ∧ (∀ f, RelO (fs.lookup f) (mA f)) ∧ PySem.Within mA (fs.map (·.1)) ∧ fs.length ≤ 1000 ∧ H dx = some (.own a) := by
  obtain ⟨d, z, ne, ob, mA, n, r, q⟩ := (show ObjOk P w H h a (.ins C dx fs) from hok a _ e)
  exact ⟨mA, ⟨ob, n, ne⟩, r, q, z, d⟩
end
structure Cls (K : PySem.W.Frag) (C : Addr) : Prop where
  pg : PySem.W.plainGet K C Str.empty = true
  hd : PySem.W.hasDictIn K C = true
  po : PySem.W.plainOver K C = true
  sa : PySem.W.findIn K (.ref C) "__setattr__" = some (some (.builtin "object.__setattr__"))
theorem Cls.get {K : PySem.W.Frag} {C : Addr} (c : Cls K C) (f : Str) : PySem.W.plainGet K C f = true := c.pg
def NoAttr (K : PySem.W.Frag) (C : Addr) (f : Str) : Prop := PySem.W.findIn K (.ref C) f = some none
theorem NoAttr.taker {K : PySem.W.Frag} {C : Addr} {f : Str} (n : NoAttr K C f) : PySem.W.takerIn K C f = some none := by
  unfold PySem.W.takerIn
  rw [show PySem.W.findIn K (.ref C) f = some none from n]
  rfl
structure Con (K : PySem.W.Frag) (C : Addr) (f : Str) (v : V) (u : Value) : Prop where
  at_ : PySem.W.findIn K (.ref C) f = some (some u)
  rel : RelV v u
  get : PySem.W.specialIn K u "__get__" = some none
  cp : PySem.W.copiedNames.contains f = false
structure Meth (K : PySem.W.Frag) (C : Addr) (m : Str) (f : Addr) : Prop where
  at_ : PySem.W.findIn K (.ref C) m = some (some (.ref f))
  fn : PySem.W.isFn K (.ref f) = true
  kp : PySem.W.keepIn K (.ref f) = true
section
variable {X : Cx} {pins : List (Addr × Obj)} {σ : St} {H : Hp} {s : Shared} {a C dx : Addr} {fs : List (Str × V)} {f : Str} {v : V} {A : Around} {E : Value → Shared → Prop}
theorem getattr_ok {b : Bool} {Q : Value → Shared → Prop} (I : Inv X pins σ H s) (e : H a = some (.ins C dx fs)) (c : Cls X.K C) (n : NoAttr X.K C f) (l : fs.lookup f = some v)
    (h : ∀ u s', Inv X pins σ H s' → RelV v u → Q u s') : wpAny (model X.prog X.w) A (getAttr (.ref a) f b) Q E s := by
  obtain ⟨mA, O, r, _, _, _⟩ := ins_get I.hok e
  obtain ⟨u, hu, ru⟩ := RelO.some_of (v := v) (o := mA f) (by rw [← l]; exact r f)
  exact get_map I.kIn O (c.get f) c.hd n hu (handed_of ru) (h u _ (I.tok _) ru)
theorem getmeth_ok {m : Str} {g : Addr} {pl : Sem Bool} {Q : Value × List Value → Shared → Prop} (I : Inv X pins σ H s) (e : H a = some (.ins C dx fs)) (c : Cls X.K C) (k : Meth X.K C m g) (l : fs.lookup m = none)
    (h : Q (.ref g, [.ref a]) s) : wpAny (model X.prog X.w) A (getMethod (.ref a) m pl) Q E s := by
  obtain ⟨mA, O, r, _, _, _⟩ := ins_get I.hok e
  have hn : mA m = none := RelO.none_of (by rw [← l]; exact r m)
  exact get_meth I.kIn O (c.get m) k.at_ k.fn hn h
theorem setattr_ok {y : V} {u : Value} {Q : Unit → Shared → Prop} (I : Inv X pins σ H s) (e : H a = some (.ins C dx fs)) (c : Cls X.K C) (n : NoAttr X.K C f) (hl : fs.length < 1000) (ry : RelV y u)
    (h : ∀ s', Inv X pins σ (upd H a (.ins C dx (putF f y fs))) s' → Q () s') : wpAny (model X.prog X.w) A (setAttr (.ref a) f u) Q E s := by
  obtain ⟨mA, O, r, wi, _, ho⟩ := ins_get I.hok e
  have hz : (fs.map (·.1)).length ≤ sizeLine := by rw [List.length_map, sizeLine_eq]; omega
  refine set_map I.kIn O c.sa c.po n.taker c.hd wi hz fun h' O' sb => h _ ?_
  have hd : ∃ o, h'.get? dx = some o := let ⟨o, _, _, e', _⟩ := O'.ns; ⟨o, e'⟩
  refine I.write (x := a) (e := dx) (by rw [e]; exact True.intro) (.inr ho) (fun b q hb z => (sb.2 b hb).trans z) hd ?_
  refine ⟨by rw [upd_ne O.ne]; exact ho, ?_, O.ne, O'.obj, _, O'.ns, fun g => ?_, fun g hg => ?_⟩
  · have := length_putF f y fs; omega
  · show RelO ((putF f y fs).lookup g) (if g = f then some u else mA g)
    rw [lookup_putF]
    by_cases q : g = f
    · rw [if_pos q, if_pos q]; exact ry
    · rw [if_neg q, if_neg q]; exact r g
  · by_cases q : g = f
    · rw [q]; exact (keys_putF f y fs).1
    · refine (keys_putF f y fs).2 g (wi g fun z => hg ?_)
      show (if g = f then some u else mA g) = none
      rw [if_neg q]; exact z
theorem Inv.made (I : Inv X pins σ H s) : Inv X pins σ (upd (upd H s.heap.objs.size (.own (s.heap.objs.size + 1))) (s.heap.objs.size + 1) (.ins C s.heap.objs.size []))
    { s with heap := (s.heap.push PySem.W.emptyDict).push (PySem.W.instObj C s.heap.objs.size) } := by
  have e1 : (s.heap.push PySem.W.emptyDict).get? s.heap.objs.size = some PySem.W.emptyDict := Heap.get?_push_size s.heap rfl
  have e2 : ((s.heap.push PySem.W.emptyDict).push (PySem.W.instObj C s.heap.objs.size)).get? (s.heap.objs.size + 1) = some (PySem.W.instObj C s.heap.objs.size) := by
    have := Heap.get?_push_size (s.heap.push PySem.W.emptyDict) (o := PySem.W.instObj C s.heap.objs.size) rfl
    rwa [Heap.size_push] at this
  have e3 : (s.heap.push PySem.W.emptyDict).Ns s.heap.objs.size (fun _ => none) := ⟨PySem.W.emptyDict, #[], _, e1, rfl, (fun e he => absurd he (by simp)), fun _ => rfl⟩
  have I1 := I.laid (a := s.heap.objs.size) (o := .own (s.heap.objs.size + 1)) (h' := s.heap.push PySem.W.emptyDict) (t' := s.toks) (fun b u q => Heap.get?_push_of_some _ q) (Nat.le_refl _) ⟨_, e1⟩
  refine I1.laid (a := s.heap.objs.size + 1) (o := .ins C s.heap.objs.size []) (t' := s.toks) (fun b u q => Heap.get?_push_of_some _ q) (Nat.le_of_eq (Heap.size_push _ _)) ?_
  have ne : s.heap.objs.size ≠ s.heap.objs.size + 1 := Nat.ne_of_lt (Nat.lt_succ_self _)
  refine ⟨by rw [upd_ne ne, upd_same], Nat.zero_le _, ne, e2, fun _ => none, (Heap.Ns1.of_empty e3).at fun o q => Heap.get?_push_of_some _ q, fun _ => True.intro, fun y hy => absurd rfl hy⟩
theorem attr_of {prog : Program} {w : World} {env : Env} {e : Expr} {f : Str} {pos : Pos} {s : Shared} {Q : Value → Shared → Prop} (hb : attributeBase e f env (eval e env) = eval e env)
    (h : wpAny (model prog w) A (eval e env) (fun o s₁ => wpAny (model prog w) A (getAttr o f true) Q E s₁) E s) : wpAny (model prog w) A (eval (.Attribute e f pos) env) Q E s :=
  Attribute_any_ h (by rw [arm_eval_Attribute, hb])
end
def tFld (K : PySem.W.Frag) (ta : TE) (f : Str) : TE := fun σ H Q => ta σ H fun x H1 => ∃ a C dx fs v, x = .ref a ∧ H1 a = some (.ins C dx fs) ∧ Cls K C ∧ NoAttr K C f ∧ fs.lookup f = some v ∧ Q v H1
def tCon (K : PySem.W.Frag) (ta : TE) (f : Str) : TE := fun σ H Q => ta σ H fun x H1 => ∃ a C dx fs v u, x = .ref a ∧ H1 a = some (.ins C dx fs) ∧ Cls K C ∧ Con K C f v u ∧ fs.lookup f = none ∧ Q v H1
def sFld (K : PySem.W.Frag) (ta tv : TE) (f : Str) : TS := fun D σ H => tv σ H fun y H1 => ta σ H1 fun x H2 => ∃ a C dx fs, x = .ref a ∧ H2 a = some (.ins C dx fs) ∧ Cls K C ∧ NoAttr K C f ∧ fs.length < 1000 ∧
  D.nx σ (upd H2 a (.ins C dx (putF f y fs)))
def InOp (X : Cx) (op : Operator) (rd : V → V → Hp → VK → Prop) : Prop :=
  ∀ (pins : List (Addr × Obj)) (s : Shared) (σ : St) (H : Hp) (x y : V) (u v : Value) (Q : VK), Inv X pins σ H s → RelV x u → RelV y v → rd x y H Q → wpAny (model X.prog X.w) X.A (inplaceOp op u v) (EP X pins σ Q) X.xe s
def sFldAug (K : PySem.W.Frag) (ta tv : TE) (rd : V → V → Hp → VK → Prop) (f : Str) : TS := fun D σ H => ta σ H fun x H1 => ∃ a C dx fs v, x = .ref a ∧ H1 a = some (.ins C dx fs) ∧ Cls K C ∧ NoAttr K C f ∧ fs.lookup f = some v ∧
  tv σ H1 fun y H2 => rd v y H2 fun z H3 => ∃ dx' fs', H3 a = some (.ins C dx' fs') ∧ fs'.length < 1000 ∧ D.nx σ (upd H3 a (.ins C dx' (putF f z fs')))
section
variable {X : Cx} {o e value : Expr} {f : Str} {pos pos' tpos : Pos} {ta tv : TE}
theorem pe_fld (he : PE X e ta) (hb : attributeBase e f X.env (eval e X.env) = eval e X.env) : PE X (.Attribute e f pos) (tFld X.K ta f) := by
  intro pins s σ H Q I h
  refine attr_of hb (thn (he pins s σ H _ I h) fun u s1 ⟨x, H1, I1, rx, a, C, dx, fs, v, ex, ea, c, n, l, q⟩ => ?_)
  subst ex
  obtain rfl : u = Value.ref a := rx
  exact getattr_ok I1 ea c n l fun u' s2 I2 ru => ⟨v, H1, I2, ru, q⟩
theorem ps_fld (ha : PE X o ta) (hv : PE X value tv) (hs : swapsWith value (some (.Attribute o f pos')) pos.line X.env = pure false) : PS X (.Assign [.Attribute o f pos'] value pos) (sFld X.K ta tv f) := by
  intro pins s σ H D I h
  refine plainObj_wpAny_Assign_Attribute (thn (hv pins s σ H _ I h) fun u s1 ⟨y, H1, I1, ry, q⟩ => thn (ha pins s1 σ H1 _ I1 q) fun ov s2 ⟨x, H2, I2, rx, a, C, dx, fs, ex, ea, c, n, l, q2⟩ => ?_) hs
  subst ex
  obtain rfl : ov = Value.ref a := rx
  exact setattr_ok I2 ea c n l ry fun s3 I3 => ⟨σ, _, I3, q2⟩
theorem ps_fldaug {op : Operator} {rd : V → V → Hp → VK → Prop} (ha : PE X o ta) (hv : PE X value tv) (hop : InOp X op rd) : PS X (.AugAssign (.Attribute o f tpos) op value pos) (sFldAug X.K ta tv rd f) := by
  intro pins s σ H D I h
  refine wpAny_AugAssign_AttributeAny (thn (ha pins s σ H _ I h) fun ov s1 ⟨x, H1, I1, rx, a, C, dx, fs, v, ex, ea, c, n, l, q⟩ => ?_)
  subst ex
  obtain rfl : ov = Value.ref a := rx
  refine getattr_ok I1 ea c n l fun u s2 I2 ru => thn (hv pins s2 σ H1 _ I2 q) fun w3 s3 ⟨y, H2, I3, ry, q3⟩ => thn (hop pins s3 σ H2 v y u w3 _ I3 ru ry q3) fun w4 s4 ⟨z, H3, I4, rz, dx', fs', ea', l', q4⟩ => ?_
  exact setattr_ok I4 ea' c n l' rz fun s5 I5 => ⟨σ, _, I5, q4⟩
def rAdd : V → V → Hp → VK → Prop := fun x y H Q => ∃ i j, x = .int i ∧ y = .int j ∧ Q (.int (i + j)) H
def rSub : V → V → Hp → VK → Prop := fun x y H Q => ∃ i j, x = .int i ∧ y = .int j ∧ Q (.int (i - j)) H
theorem in_add : InOp X .Add rAdd := by
  rintro pins s σ H x y u v Q I rx ry ⟨i, j, rfl, rfl, q⟩
  obtain ⟨t, rfl⟩ := (show ∃ t, u = Value.int i t from rx)
  obtain ⟨t', rfl⟩ := (show ∃ t', v = Value.int j t' from ry)
  exact PyProof.Rows.iadd_int ⟨.int (i + j), H, I.tok _, ⟨_, rfl⟩, q⟩
end
section
variable {X : Cx} {pins : List (Addr × Obj)} {σ : St} {H : Hp} {s : Shared} {A : Around} {E : Value → Shared → Prop} {Q : Value → Shared → Prop} {c : Value} {b : Bool}
inductive TyOf (K : PySem.W.Frag) (H : Hp) : V → Value → Prop where
  | non : TyOf K H .non (.type "NoneType")
  | bl (x : Bool) : TyOf K H (.bl x) (.type "bool")
  | int (i : Int) : TyOf K H (.int i) (.type "int")
  | str (x : Str) : TyOf K H (.str x) (.type "str")
  | flt (x : UInt64) : TyOf K H (.flt x) (.type "float")
  | lst {a : Addr} {xs : List V} (e : H a = some (.lst xs)) : TyOf K H (.ref a) (.type "list")
  | frz {a : Addr} {o : Obj} {xs : List V} (e : H a = some (.frz o (.lst xs))) : TyOf K H (.ref a) (.type "list")
  | tup {a : Addr} {xs : List V} (e : H a = some (.tup xs)) : TyOf K H (.ref a) (.type "tuple")
  | dK {a : Addr} {kvs : List (Key × V)} (e : H a = some (.dK kvs)) : TyOf K H (.ref a) (.type "dict")
  | dT {a : Addr} {kvs : List (List Key × V)} (e : H a = some (.dT kvs)) : TyOf K H (.ref a) (.type "dict")
  | ins {a C dx : Addr} {fs : List (Str × V)} (e : H a = some (.ins C dx fs)) (cl : Cls K C) (ha : PySem.W.findIn K (.ref C) "__class__" = some (some (.builtin "object.__class__")))
      (hn : PySem.W.specialIn K (.builtin "object.__class__") "__get__" = some (some (.builtin "getset_descriptor.__get__"))) (htk : PySem.W.takesIn K (.builtin "object.__class__") = some true)
      (hm : PySem.W.mroIn K C (.type "object") = some true) : TyOf K H (.ref a) (.ref C)
theorem isinst_ok {x : V} {u t : Value} (I : Inv X pins σ H s) (rx : RelV x u) (ty : TyOf X.K H x t) (e : PySem.W.kitOne X.K t c = some b) (h : ∀ tk, Q (.bool b) { s with toks := tk }) :
    wpAny (model X.prog X.w) A (call (.builtin "isinstance") [u, c]) Q E s := by
  cases ty with
  | non => cases (show u = Value.none from rx); exact PySem.W.kia_one PySem.W.kitx_none I.kIn True.intro e (fun z => nomatch z) h
  | bl y => cases (show u = Value.bool y from rx); exact PySem.W.kia_one PySem.W.kitx_bool I.kIn True.intro e (fun z => nomatch z) h
  | int i => obtain ⟨t, q⟩ := (show ∃ t, u = Value.int i t from rx); cases q; exact PySem.W.kia_one PySem.W.kitx_int I.kIn True.intro e (fun z => nomatch z) h
  | str y => obtain ⟨t, q⟩ := (show ∃ t, u = Value.str y t from rx); cases q; exact PySem.W.kia_one PySem.W.kitx_str I.kIn True.intro e (fun z => nomatch z) h
  | flt y => obtain ⟨t, q⟩ := (show ∃ t, u = Value.float y t from rx); cases q; exact PySem.W.kia_one PySem.W.kitx_float I.kIn True.intro e (fun z => nomatch z) h
  | @lst a xs ea =>
    cases (show u = Value.ref a from rx)
    obtain ⟨_, _, n, _, h1⟩ := (show ObjOk X.prog X.w H s.heap a (.lst xs) from I.hok a _ ea)
    exact PySem.W.kia_one PySem.W.kitx_list I.kIn ⟨_, h1, rfl⟩ e (fun z => nomatch z) h
  | @frz a ob xs ea =>
    cases (show u = Value.ref a from rx)
    obtain ⟨_, _, _, n, _, h1⟩ := (show ObjOk X.prog X.w H s.heap a (.frz ob (.lst xs)) from I.hok a _ ea)
    exact PySem.W.kia_one PySem.W.kitx_list I.kIn ⟨_, h1, rfl⟩ e (fun z => nomatch z) h
  | @tup a xs ea =>
    cases (show u = Value.ref a from rx)
    obtain ⟨_, _, _, p⟩ := (show ObjOk X.prog X.w H s.heap a (.tup xs) from I.hok a _ ea)
    obtain ⟨o, h1, h2, _⟩ := p
    exact PySem.W.kia_one PySem.W.kitx_tuple I.kIn ⟨o, h1, h2⟩ e (fun z => nomatch z) h
  | @dK a kvs ea =>
    cases (show u = Value.ref a from rx)
    obtain ⟨_, _, vs, _, p⟩ := (show ObjOk X.prog X.w H s.heap a (.dK kvs) from I.hok a _ ea)
    obtain ⟨o, es, ep, h1, h2, _⟩ := p
    exact PySem.W.kia_one PySem.W.kitx_dict I.kIn ⟨o, h1, h2.1⟩ e (fun z => nomatch z) h
  | @dT a kvs ea =>
    cases (show u = Value.ref a from rx)
    obtain ⟨_, _, xs, _, o, es, ep, h1, h2, _⟩ := (show ObjOk X.prog X.w H s.heap a (.dT kvs) from I.hok a _ ea)
    exact PySem.W.kia_one PySem.W.kitx_dict I.kIn ⟨o, h1, h2.1⟩ e (fun z => nomatch z) h
  | @ins a C dx fs ea cl ha hn htk hm =>
    cases (show u = Value.ref a from rx)
    obtain ⟨mA, O, _⟩ := ins_get I.hok ea
    obtain ⟨od, J, _⟩ := O.look
    exact PySem.W.kia_one (PySem.W.kitx_own (cl.get _) cl.hd ha hn htk hm) I.kIn J e (fun z => nomatch z) h
end
open PySem PySem.Spec PyProof.Rows
structure Room (k : Nat) (A : Around) : Prop where
  hd : A.handled = none
  dp : A.depth + 3 * k + 5 < recursionLimit
  un : A.units + 16 * k + 200 < cLine
theorem Room.mono {j k : Nat} {A : Around} (r : Room k A) (h : j ≤ k) : Room j A := ⟨r.hd, by have := r.dp; omega, by have := r.un; omega⟩
theorem Room.deeper {k : Nat} {A : Around} (r : Room (k + 1) A) (env : Env) : Room k (A.deeper env) :=
  ⟨r.hd, by have := r.dp; show A.depth + 1 + 3 * k + 5 < _; omega, by have := r.un; show A.units + 3 + 16 * k + 200 < _; omega⟩
theorem make_depth {A : Around} {C : Addr} {us : List Value} {kw : List (Str × Value)} : (A.under (.builtin "type.__call__" ⟨.ref C :: us, kw⟩)).depth = A.depth + 1 := by
  first | rfl | simp [Around.under, Code.weight, Code.isCreation, Code.isGuard, Code.isCaller, Code.frames, Code.isFrame, guardIds]
theorem make_units {A : Around} {C : Addr} {us : List Value} {kw : List (Str × Value)} : (A.under (.builtin "type.__call__" ⟨.ref C :: us, kw⟩)).units = A.units + 1 := by
  first | rfl | simp [Around.under, Code.cUnits, Code.frames, Code.isFrame]
theorem Room.make {k : Nat} {A : Around} (r : Room (k + 1) A) (C : Addr) (us : List Value) (kw : List (Str × Value)) : Room k (A.under (.builtin "type.__call__" ⟨.ref C :: us, kw⟩)) :=
  ⟨r.hd, by have := r.dp; rw [make_depth]; omega, by have := r.un; rw [make_units]; omega⟩
theorem Room.depth {k : Nat} {A : Around} (r : Room k A) : A.depth < recursionLimit := by have := r.dp; omega
theorem Room.units0 {k : Nat} {A : Around} (r : Room k A) : A.units < cLine := by have := r.un; omega
def tNil : TA := fun _ H Q => Q [] H
def tCons (ta : TE) (tr : TA) : TA := fun σ H Q => ta σ H fun x H1 => tr σ H1 fun xs H2 => Q (x :: xs) H2
section
variable {X : Cx} {e : Expr} {es : List Expr} {te : TE} {t : TA} {pos : Pos}
theorem pa_nil : PA X [] tNil := fun _ _ _ _ H Q I h => Calls.spliced_nil ⟨[], H, I, .nil, h⟩
theorem pa_cons (ha : PE X e te) (hr : PA X es t) (hs : starEach (e :: es) X.env = (false, eval e X.env) :: starEach es X.env := by rfl) : PA X (e :: es) (tCons te t) := by
  intro pos pins s σ H Q I h
  rw [hs]
  show wpAny _ _ (spliced ((false, eval e X.env) :: backTo pos (starEach es X.env))) _ _ s
  refine Calls.spliced_cons (thn (ha pins s σ H _ I h) fun u s1 ⟨x, H1, I1, r1, q1⟩ => ?_)
  exact thn (hr pos pins s1 σ H1 _ I1 q1) fun us s2 ⟨xs, H2, I2, r2, q2⟩ => ⟨x :: xs, H2, I2, .cons r1 r2, q2⟩
def tTup (t : TA) : TE := fun σ H Q => t σ H fun xs H1 => xs.length ≤ sizeLine ∧ ∀ p, H1 p = none → Q (.ref p) (upd H1 p (.tup xs))
def tLst (t : TA) : TE := fun σ H Q => t σ H fun xs H1 => xs.length ≤ sizeLine ∧ ∀ p, H1 p = none → Q (.ref p) (upd H1 p (.lst xs))
theorem pe_tup {x1} (h : PA X es t) : PE X (.Tuple es x1 pos) (tTup t) := by
  intro pins s σ H Q I hq
  refine wpAny_Tuple_spliced (thn (h pos pins s σ H _ I hq) fun us s1 ⟨xs, H1, I1, r, z, q⟩ => ⟨by rw [← r.length]; exact z, ?_⟩)
  have hf : H1 s1.heap.objs.size = none := I1.hok.fresh (Nat.le_refl _)
  refine ⟨.ref s1.heap.objs.size, upd H1 s1.heap.objs.size (.tup xs), I1.laid (t' := s1.toks) (fun b u e => Heap.get?_push_of_some _ e) (Nat.le_refl _) ?_, rfl, q _ hf⟩
  exact ⟨z, us, r, ⟨_, Heap.get?_push_size _ rfl, rfl, _, rfl⟩⟩
theorem pe_lst (h : PA X es t) : PE X (.List es pos) (tLst t) := by
  intro pins s σ H Q I hq
  refine wpAny_List_spliced (thn (h pos pins s σ H _ I hq) fun us s1 ⟨xs, H1, I1, r, z, q⟩ => ⟨by rw [← r.length]; exact z, ?_⟩)
  have hf : H1 s1.heap.objs.size = none := I1.hok.fresh (Nat.le_refl _)
  refine ⟨.ref s1.heap.objs.size, upd H1 s1.heap.objs.size (.lst xs), I1.laid (t' := s1.toks) (fun b u e => Heap.get?_push_of_some _ e) (Nat.le_refl _) ?_, rfl, q _ hf⟩
  exact ⟨z, us, 0, r, Heap.get?_push_size _ rfl⟩
end
abbrev Sp := List V → Hp → VK → XK → Prop
abbrev CXT := List Env → Hp → Shared → XK → Value → Shared → Prop
structure Env0 (P : Program) (w : World) (K : PySem.W.Frag) (mg : Str → Option Value) (base : Heap) (A : Around) (outer : List Env) (s : Shared) (H : Hp) : Prop where
  frames : A.frames = some outer
  mod : Mod K mg base
  bs : ∀ b o, base.get? b = some o → s.heap.get? b = some o ∧ H b = none
  bsz : base.objs.size ≤ s.heap.objs.size
  funs : s.heap.FunFrames base outer
  frf : ∀ b ∈ frs outer, H b = none
  hok : HOk P w H s.heap
  bare : AllBare s.gens
def CE (outer : List Env) (P : Program) (w : World) (H : Hp) (s : Shared) (Q : VK) (u : Value) (s' : Shared) : Prop :=
  ∃ v H', s'.os = s.os ∧ AllBare s'.gens ∧ Un (frs outer) [] H H' s.heap s'.heap ∧ HOk P w H' s'.heap ∧ RelV v u ∧ Q v H'
def CR (CX : CXT) (outer : List Env) (P : Program) (w : World) (H : Hp) (s : Shared) (Q : VK) (E : XK) (r : Result) (s' : Shared) : Prop :=
  match r with
  | .ok (.ret u) => CE outer P w H s Q u s'
  | .ok _ => False
  | .error e => CX outer H s E e s'
structure FnOk (P : Program) (w : World) (K : PySem.W.Frag) (mg : Str → Option Value) (base : Heap) (CX : CXT) (k : Nat) (f : Addr) (fd : FuncData) (ps : List Str) (sp : Sp) : Prop where
  len : ∀ vs H Q E, sp vs H Q E → vs.length = ps.length
  run : ∀ (A : Around) (outer : List Env) (s : Shared) (H : Hp) (args : Args) (us : List Value) (vs : List V) (Q : VK) (E : XK), Room k A → Env0 P w K mg base A outer s H → BindsTo s fd args (ps.zip us) → Vals vs us → sp vs H Q E →
    codeAny (model P w) A (.call (.ref f) args) (CR CX outer P w H s Q E) s
theorem FnOk.mono {P : Program} {w : World} {K : PySem.W.Frag} {mg : Str → Option Value} {base : Heap} {CX : CXT} {j k : Nat} {f : Addr} {fd : FuncData} {ps : List Str} {sp : Sp} (F : FnOk P w K mg base CX j f fd ps sp) (h : j ≤ k) :
    FnOk P w K mg base CX k f fd ps sp := ⟨F.len, fun A outer s H args us vs Q E hr => F.run A outer s H args us vs Q E (hr.mono h)⟩
theorem FnOk.imp {P : Program} {w : World} {K : PySem.W.Frag} {mg : Str → Option Value} {base : Heap} {CX : CXT} {k : Nat} {f : Addr} {fd : FuncData} {ps : List Str} {sp sp' : Sp} (F : FnOk P w K mg base CX k f fd ps sp)
    (h : ∀ vs H Q E, sp' vs H Q E → sp vs H Q E) : FnOk P w K mg base CX k f fd ps sp' :=
  ⟨fun vs H Q E q => F.len vs H Q E (h _ _ _ _ q), fun A outer s H args us vs Q E hr he hb hv hs => F.run A outer s H args us vs Q E hr he hb hv (h _ _ _ _ hs)⟩
theorem Env0.make {P : Program} {w : World} {K : PySem.W.Frag} {mg : Str → Option Value} {base : Heap} {A : Around} {outer : List Env} {s : Shared} {H : Hp} (e : Env0 P w K mg base A outer s H) (C : Addr) (us : List Value) (kw : List (Str × Value)) :
    Env0 P w K mg base (A.under (.builtin "type.__call__" ⟨.ref C :: us, kw⟩)) outer s H := ⟨by first | exact e.frames | (simpa [Around.under, Code.envs, Code.isFrame, pushEnvs] using e.frames), e.mod, e.bs, e.bsz, e.funs, e.frf, e.hok, e.bare⟩
section
variable {X : Cx} {pins : List (Addr × Obj)} {σ : St} {H : Hp} {s s' : Shared}
theorem Inv.env0 (I : Inv X pins σ H s) : Env0 X.prog X.w X.K X.mg X.base X.A X.stack s H :=
  ⟨I.ok.frames, I.ok.mod, I.bs, Nat.le_trans I.ok.bsz I.sz, I.stack, I.stkFree, I.hok, I.bare⟩
theorem Inv.after {Q : VK} {u : Value} (I : Inv X pins σ H s) (h : CE X.stack X.prog X.w H s Q u s') : EP X pins σ Q u s' := by
  obtain ⟨v, H', os, bare, un, hok, r, q⟩ := h
  obtain ⟨hh, g, d, t, os'⟩ := s'
  obtain rfl : os' = s.os := os
  exact ⟨v, H', I.call (h' := hh) (g' := g) (d' := d) (t' := t) (ch := []) un hok bare (fun b z => absurd z (by simp)), r, q⟩
end
def tCall (sp : Sp) (dvs : List V) (E : XK) (t : TA) : TE := fun σ H Q => t σ H fun vs H1 => sp (vs ++ dvs) H1 Q E
def tMeth (C : Addr) (m : Str) (sp : Sp) (dvs : List V) (E : XK) (ta : TE) (t : TA) : TE := fun σ H Q => ta σ H fun x H1 => ∃ a dx fs, x = .ref a ∧ H1 a = some (.ins C dx fs) ∧ fs.lookup m = none ∧
  t σ H1 fun vs H2 => sp (x :: (vs ++ dvs)) H2 Q E
def tMake (C : Addr) (sp : Sp) (dvs : List V) (E : XK) (t : TA) : TE := fun σ H Q => t σ H fun vs H1 => ∀ x dx, H1 x = none → H1 dx = none → dx ≠ x →
  sp (.ref x :: (vs ++ dvs)) (upd (upd H1 dx (.own x)) x (.ins C dx [])) (fun v H2 => v = .non ∧ Q (.ref x) H2) E
def Binds (K : PySem.W.Frag) (fd : FuncData) (ps : List Str) (ds : List Value) : Prop :=
  ∀ (s : Shared) (us : List Value), K.In s.heap → (us ++ ds).length = ps.length → BindsTo s fd ⟨us, []⟩ (ps.zip (us ++ ds))
theorem Binds.all {K : PySem.W.Frag} {fd : FuncData} {ps : List Str} (h : ∀ us : List Value, us.length = ps.length → bindArgs fd ⟨us, []⟩ = pure (ps.zip us)) : Binds K fd ps [] := fun s us _ hl => by
  rw [List.append_nil] at hl ⊢
  exact .of_eq (h us hl)
def Passes (CX : CXT) (X : Cx) (E : XK) : Prop := ∀ (pins : List (Addr × Obj)) (σ : St) (H : Hp) (s : Shared) (e : Value) (s' : Shared), Inv X pins σ H s → CX X.stack H s E e s' → X.xe e s'
section
variable {X : Cx} {CX : CXT} {k : Nat} {f C : Addr} {fd : FuncData} {ps : List Str} {sp : Sp} {dvs : List V} {ds : List Value} {E : XK} {x m : Str} {p pos apos : Pos} {e o : Expr} {es : List Expr} {ta : TE} {t : TA}
theorem run_fn {pins : List (Addr × Obj)} {σ : St} {H : Hp} {s : Shared} {Q : VK} {us : List Value} {vs : List V} (F : FnOk X.prog X.w X.K X.mg X.base CX k f fd ps sp) (hr : Room k X.A) (hb : Binds X.K fd ps ds) (hd : Vals dvs ds) (hx : Passes CX X E)
    (I : Inv X pins σ H s) (r : Vals vs us) (h : sp (vs ++ dvs) H Q E) : wpAny (model X.prog X.w) X.A (call (.ref f) us) (EP X pins σ Q) X.xe s := by
  have r2 : Vals (vs ++ dvs) (us ++ ds) := r.append hd
  have hl : (us ++ ds).length = ps.length := by rw [← r2.length]; exact F.len _ _ _ _ h
  refine wpAny_call (codeAny_mono (F.run X.A X.stack s H ⟨us, []⟩ (us ++ ds) (vs ++ dvs) Q E hr I.env0 (hb s us I.kIn hl) r2 h) fun r s' hq => ?_)
  cases r with
  | error e => exact hx pins σ H s e s' I hq
  | ok fl =>
    cases fl with
    | ret u => exact I.after hq
    | next => exact False.elim hq
    | brk => exact False.elim hq
    | cont => exact False.elim hq
theorem pe_call (F : FnOk X.prog X.w X.K X.mg X.base CX k f fd ps sp) (hr : Room k X.A) (hg : Gl X x) (hm : X.mg x = some (.ref f)) (hk : PySem.W.keepIn X.K (.ref f) = true) (hb : Binds X.K fd ps ds) (hd : Vals dvs ds) (hx : Passes CX X E)
    (ha : PA X (e :: es) t) (hdb : (x == ("__debug__" : Str)) = false := by decide) (he : starEach (e :: es) X.env = (false, eval e X.env) :: starEach es X.env := by rfl) (hpl : (backTo pos (starEach es X.env)).any (·.1) = false := by rfl) :
    PE X (.Call (.Name x p) (e :: es) [] pos) (tCall sp dvs E t) := by
  intro pins s σ H Q I h
  refine wpAny_Call_Name_kw (ld_glob I hg hm ?_ hdb)
  refine PySem.W.callWith_K (h₀ := X.base) I.ok.mod.kin hk (thn (ha pos pins s σ H _ I h) fun us s1 ⟨vs, H1, I1, r, q⟩ => ⟨I1.kIn, ?_⟩) he hpl
  exact run_fn F hr hb hd hx I1 r q
theorem pe_meth {pl : Sem Bool} (he : PE X o ta) (c : Cls X.K C) (hm : Meth X.K C m f) (F : FnOk X.prog X.w X.K X.mg X.base CX k f fd ps sp) (hr : Room k X.A) (hb : Binds X.K fd ps ds) (hd : Vals dvs ds) (hx : Passes CX X E) (ha : PA X (e :: es) t)
    (hst : starEach (e :: es) X.env = (false, eval e X.env) :: starEach es X.env := by rfl) (hpl : (backTo pos (starEach es X.env)).any (·.1) = false := by rfl)
    (ht : eval (.Call (.Attribute o m apos) (e :: es) [] pos) X.env = (do
      let ov ← eval o X.env
      standAt apos.atName
      let (f, first) ← holding [ov] (getMethod ov m pl)
      callWith pos f first (backTo pos (starEach (e :: es) X.env)) (backToKw pos (keywordEach [] X.env))) := by rfl) :
    PE X (.Call (.Attribute o m apos) (e :: es) [] pos) (tMeth C m sp dvs E ta t) := by
  intro pins s σ H Q I h
  refine PySem.W.methodCall_KW (pl := pl) (thn (he pins s σ H _ I h) fun u s1 ⟨x, H1, I1, rx, a, dx, fs, ex, ea, l, q⟩ => ?_) ht
  subst ex
  obtain rfl : u = Value.ref a := rx
  refine getmeth_ok I1 ea c hm l ?_
  refine PySem.W.callWith_K (first := [.ref a]) (h₀ := X.base) I.ok.mod.kin hm.kp (thn (ha pos pins s1 σ H1 _ I1 q) fun us s2 ⟨vs, H2, I2, r, q2⟩ => ⟨I2.kIn, ?_⟩) hst hpl
  exact run_fn (us := .ref a :: us) (vs := .ref a :: vs) F hr hb hd hx I2 (.cons rfl r) q2
theorem pe_meth0 {pl : Sem Bool} (he : PE X o ta) (c : Cls X.K C) (hm : Meth X.K C m f) (F : FnOk X.prog X.w X.K X.mg X.base CX k f fd ps sp) (hr : Room k X.A) (hb : Binds X.K fd ps ds) (hd : Vals dvs ds) (hx : Passes CX X E)
    (ht : eval (.Call (.Attribute o m apos) [] [] pos) X.env = (do
      let ov ← eval o X.env
      standAt apos.atName
      let (f, first) ← holding [ov] (getMethod ov m pl)
      callWith pos f first (backTo pos (starEach [] X.env)) (backToKw pos (keywordEach [] X.env))) := by rfl) :
    PE X (.Call (.Attribute o m apos) [] [] pos) (tMeth C m sp dvs E ta tNil) := by
  intro pins s σ H Q I h
  refine PySem.W.methodCall_KW (pl := pl) (thn (he pins s σ H _ I h) fun u s1 ⟨x, H1, I1, rx, a, dx, fs, ex, ea, l, q⟩ => ?_) ht
  subst ex
  obtain rfl : u = Value.ref a := rx
  refine getmeth_ok I1 ea c hm l ?_
  exact PySem.W.callWith_K0 (first := [.ref a]) I1.kIn hm.kp (run_fn (us := [.ref a]) (vs := [.ref a]) F hr hb hd hx I1 (.cons rfl .nil) q)
structure Mk (K : PySem.W.Frag) (C f : Addr) : Prop where
  makes : PySem.W.makesIn K C = true
  init : PySem.W.findIn K (.ref C) "__init__" = some (some (.ref f))
  fn : PySem.W.isFn K (.ref f) = true
  kp : PySem.W.keepIn K (.ref C) = true
theorem run_make {pins : List (Addr × Obj)} {σ : St} {H : Hp} {s : Shared} {Q : VK} {us : List Value} {vs : List V} (M : Mk X.K C f) (F : FnOk X.prog X.w X.K X.mg X.base CX k f fd ps sp) (hr : Room (k + 1) X.A) (hb : Binds X.K fd ps ds) (hd : Vals dvs ds)
    (hx : Passes CX X E) (I : Inv X pins σ H s) (r : Vals vs us)
    (h : ∀ x dx, H x = none → H dx = none → dx ≠ x → sp (.ref x :: (vs ++ dvs)) (upd (upd H dx (.own x)) x (.ins C dx [])) (fun v H2 => v = .non ∧ Q (.ref x) H2) E) :
    wpAny (model X.prog X.w) X.A (call (.ref C) us) (EP X pins σ Q) X.xe s := by
  have hq := h (s.heap.objs.size + 1) s.heap.objs.size (I.hok.fresh (Nat.le_succ _)) (I.hok.fresh (Nat.le_refl _)) (Nat.ne_of_lt (Nat.lt_succ_self _))
  have I2 := Inv.made (C := C) I
  have r2 : Vals (V.ref (s.heap.objs.size + 1) :: (vs ++ dvs)) (Value.ref (s.heap.objs.size + 1) :: (us ++ ds)) := .cons rfl (r.append hd)
  have hl : (Value.ref (s.heap.objs.size + 1) :: us ++ ds).length = ps.length := by
    have e := r2.length
    rw [F.len _ _ _ _ hq] at e
    exact e.symm
  refine wpAny_call (make_map (f := f) I.kIn M.makes M.init (beq_iff_eq.mp M.fn) (codeAny_mono (F.run _ X.stack _ _ ⟨Value.ref (s.heap.objs.size + 1) :: us, []⟩ (Value.ref (s.heap.objs.size + 1) :: (us ++ ds)) _ _ E (hr.make C us [])
    (I2.env0.make C us []) (hb _ (Value.ref (s.heap.objs.size + 1) :: us) I2.kIn hl) r2 hq) fun r s' hq' => ?_))
  cases r with
  | error e => exact hx pins σ _ _ e s' I2 hq'
  | ok fl =>
    cases fl with
    | ret u =>
      obtain ⟨v, H', I3, rv, ev, q3⟩ := I2.after hq'
      subst ev
      exact ⟨rv, ⟨V.ref (s.heap.objs.size + 1), H', I3, rfl, q3⟩⟩
    | next => exact False.elim hq'
    | brk => exact False.elim hq'
    | cont => exact False.elim hq'
theorem pe_make (M : Mk X.K C f) (F : FnOk X.prog X.w X.K X.mg X.base CX k f fd ps sp) (hr : Room (k + 1) X.A) (hg : Gl X x) (hm : X.mg x = some (.ref C)) (hb : Binds X.K fd ps ds) (hd : Vals dvs ds) (hx : Passes CX X E)
    (ha : PA X (e :: es) t) (hdb : (x == ("__debug__" : Str)) = false := by decide) (he : starEach (e :: es) X.env = (false, eval e X.env) :: starEach es X.env := by rfl) (hpl : (backTo pos (starEach es X.env)).any (·.1) = false := by rfl) :
    PE X (.Call (.Name x p) (e :: es) [] pos) (tMake C sp dvs E t) := by
  intro pins s σ H Q I h
  refine wpAny_Call_Name_kw (ld_glob I hg hm ?_ hdb)
  refine PySem.W.callWith_K (h₀ := X.base) I.ok.mod.kin M.kp (thn (ha pos pins s σ H _ I h) fun us s1 ⟨vs, H1, I1, r, q⟩ => ⟨I1.kIn, ?_⟩) he hpl
  exact run_make M F hr hb hd hx I1 r q
end
def PK (X : Cx) (kws : List Keyword) (t : TA) : Prop :=
  ∀ (pos : Pos) (pins : List (Addr × Obj)) (s : Shared) (σ : St) (H : Hp) (Q : List V → Hp → Prop), Inv X pins σ H s → t σ H Q → wpAny (model X.prog X.w) X.A (evalAll ((backToKw pos (keywordEach kws X.env)).map (·.2))) (AP X pins σ Q) X.xe s
section
variable {X : Cx} {CX : CXT} {k : Nat} {f C : Addr} {fd : FuncData} {ps ks : List Str} {sp : Sp} {E : XK} {x m : Str} {p pos apos kpos : Pos} {e o : Expr} {es : List Expr} {kws : List Keyword} {te ta : TE} {t tk : TA} {nm : Option Str}
structure KBinds (K : PySem.W.Frag) (fd : FuncData) (ps ks : List Str) (g : List Value → List Value → List Value) (gV : List V → List V → List V) : Prop where
  to : ∀ (s : Shared) (us ws : List Value), K.In s.heap → (g us ws).length = ps.length → BindsTo s fd ⟨us, ks.zip ws⟩ (ps.zip (g us ws))
  rel : ∀ {vs : List V} {us : List Value} {zs : List V} {ws : List Value}, Vals vs us → Vals zs ws → Vals (gV vs zs) (g us ws)
def tCallK (sp : Sp) (gV : List V → List V → List V) (E : XK) (t tk : TA) : TE := fun σ H Q => t σ H fun vs H1 => tk σ H1 fun zs H2 => sp (gV vs zs) H2 Q E
variable {g : List Value → List Value → List Value} {gV : List V → List V → List V}
end
structure FnScope (N P : List Str) (sc : Scope) : Prop where
  kind : sc.kind = .function
  co : sc.isCoroutine = false
  gen : sc.isGenerator = false
  nd : N.Nodup
  pre : N.take P.length = P
  par : ∀ x ∈ P, sc.names.lookup x = some .local ∨ sc.names.lookup x = some .cell
  nofree : ∀ y ∈ sc.names, y.2 ≠ .free
theorem bindL_out {kindOf : Str → Option NameKind} {x : Str} : ∀ {binds : List (Str × Value)} {m : Str → Option Value}, (∀ v, (x, v) ∉ binds) → bindL kindOf binds m x = m x
  | [], _, _ => rfl
  | (n, v) :: r, m, h => by
    unfold bindL
    rw [bindL_out fun w hw => h w (List.mem_cons_of_mem _ hw)]
    split
    · have : x ≠ n := by rintro rfl; exact h v List.mem_cons_self
      simp [this]
    · rfl
theorem bindC_out {kindOf : Str → Option NameKind} {x : Str} : ∀ {binds : List (Str × Value)} {m : Str → Option Value}, (∀ v, (x, v) ∉ binds) → bindC kindOf binds m x = m x
  | [], _, _ => rfl
  | (n, v) :: r, m, h => by
    unfold bindC
    rw [bindC_out fun w hw => h w (List.mem_cons_of_mem _ hw)]
    split
    · rfl
    · have : x ≠ n := by rintro rfl; exact h v List.mem_cons_self
      simp [this]
theorem bindL_get {kindOf : Str → Option NameKind} {x : Str} {v : Value} : ∀ {P : List Str} {vs : List Value} {i : Nat} {m : Str → Option Value}, P.Nodup → P[i]? = some x → vs[i]? = some v → kindOf x = some .local →
    bindL kindOf (P.zip vs) m x = some v
  | [], _, _, _, _, h, _, _ => by simp at h
  | _ :: _, [], _, _, _, _, h, _ => by simp at h
  | p :: P, w :: vs, 0, m, nd, h1, h2, hk => by
    simp at h1 h2; subst h1; subst h2
    show bindL kindOf ((p, w) :: P.zip vs) m p = _
    unfold bindL
    rw [bindL_out fun v hv => (List.nodup_cons.mp nd).1 (List.of_mem_zip hv).1, if_pos hk]
    simp
  | p :: P, w :: vs, i + 1, m, nd, h1, h2, hk => by
    show bindL kindOf ((p, w) :: P.zip vs) m x = _
    unfold bindL
    exact bindL_get (i := i) (List.nodup_cons.mp nd).2 (by simpa using h1) (by simpa using h2) hk
theorem bindC_get {kindOf : Str → Option NameKind} {x : Str} {v : Value} : ∀ {P : List Str} {vs : List Value} {i : Nat} {m : Str → Option Value}, P.Nodup → P[i]? = some x → vs[i]? = some v → kindOf x ≠ some .local →
    bindC kindOf (P.zip vs) m x = some v
  | [], _, _, _, _, h, _, _ => by simp at h
  | _ :: _, [], _, _, _, _, h, _ => by simp at h
  | p :: P, w :: vs, 0, m, nd, h1, h2, hk => by
    simp at h1 h2; subst h1; subst h2
    show bindC kindOf ((p, w) :: P.zip vs) m p = _
    unfold bindC
    rw [bindC_out fun v hv => (List.nodup_cons.mp nd).1 (List.of_mem_zip hv).1, if_neg hk]
    simp
  | p :: P, w :: vs, i + 1, m, nd, h1, h2, hk => by
    show bindC kindOf ((p, w) :: P.zip vs) m x = _
    unfold bindC
    exact bindC_get (i := i) (List.nodup_cons.mp nd).2 (by simpa using h1) (by simpa using h2) hk
def start (N : List Str) (vs : List V) : St := vs.map some ++ List.replicate (N.length - vs.length) none
def cxOf (CX : CXT) (P : Program) (w : World) (K : PySem.W.Frag) (mg : Str → Option Value) (base : Heap) (N : List Str) (qual : Str) (scope : Scope) (f : Addr) (cd : Value) (A : Around) (outer : List Env) (s : Shared) (H : Hp) (E : XK) : Cx where
  prog := P
  w := w
  K := K
  mg := mg
  base := base
  A := A.deeper (envOfC qual scope s.heap.objs.size f cd)
  N := N
  s₀ := s
  H₀ := H
  env := envOfC qual scope s.heap.objs.size f cd
  outer := outer
  stack := envOfC qual scope s.heap.objs.size f cd :: outer
  ex := []
  calm := true
  fn := fun _ => true
  pn := []
  xe := fun e s' => wpAny (model P w) (A.deeper (envOfC qual scope s.heap.objs.size f cd)) (leaving (envOfC qual scope s.heap.objs.size f cd) e) (fun _ s'' => CX outer H s E e s'') (fun e' s'' => CX outer H s E e' s'') s'
theorem cell_has {sc : Scope} {n : Nat} {x : Str} (h : sc.names.lookup x = some .cell) : ∃ c, (cellsFrom n sc.names []).lookup x = some c := by
  have q := PySem.W.cellsFrom_some sc.names n [] (.inl h)
  exact Option.isSome_iff_exists.mp q
theorem inv_start {CX : CXT} {P : Program} {w : World} {K : PySem.W.Frag} {mg : Str → Option Value} {base : Heap} {N ps : List Str} {qual : Str} {scope : Scope} {f : Addr} {cd : Value} {A : Around} {outer : List Env} {s s1 : Shared} {H : Hp} {E : XK} {us : List Value} {vs : List V}
    (S : FnScope N ps scope) (hd : A.handled = none) (e0 : Env0 P w K mg base A outer s H) (hl : vs.length = ps.length) (r : Vals vs us)
    (x : InCallC s s.heap.objs.size (bindL (envOfC qual scope s.heap.objs.size f cd).kindOf (ps.zip us) fun _ => none) (cellsFrom (s.heap.objs.size + 1) scope.names []) (bindC (envOfC qual scope s.heap.objs.size f cd).kindOf (ps.zip us) fun _ => none) s1) :
    Inv (cxOf CX P w K mg base N qual scope f cd A outer s H E) [] (start N vs) H s1 := by
  have hpl : ps.length ≤ N.length := by have := congrArg List.length S.pre; rw [List.length_take] at this; omega
  obtain ⟨h1, tk, rfl, hk⟩ := x.done
  have noA : ∀ b : Addr, b ∉ (cxOf CX P w K mg base N qual scope f cd A outer s H E).ex := fun b z => absurd (show b ∈ ([] : List Addr) from z) (by simp)
  refine ⟨⟨e0.mod, S.kind, rfl, rfl, Nat.le_refl _, fun y z c h1 h2 => ?_, fun y hy => ?_, fun y c _ h => ?_, fun _ => hd, Around.frames_deeper e0.frames, .inr ⟨rfl, rfl⟩, fun b z => absurd z (noA b), e0.bs, e0.bsz, fun b _ _ => noA b, fun b z => absurd z (noA b), e0.funs, e0.frf⟩,
    rfl, e0.bare, Un.kept hk, ⟨_, x.toInCall.ns, fun i y v h1 h2 h3 => ?_⟩, fun y c h => ⟨_, x.cell y c h⟩, e0.hok.fresh (Nat.le_refl _), fun y c h => ?_, fun p hp => absurd (show p ∈ ([] : List (Addr × Obj)) from hp) (by simp), e0.hok.kept hk, ?_⟩
  · exact name_of_addr x.apart (PySem.mem_of_lookup h1) (PySem.mem_of_lookup h2)
  · have hy : scope.names.lookup y = some .cell ∨ scope.names.lookup y = some .free := hy
    rcases hy with hy | hy
    · exact cell_has hy
    · exact absurd rfl (S.nofree _ (PySem.mem_of_lookup hy))
  · exact Nat.le_of_lt (x.above y c (PySem.mem_of_lookup h))
  · have hi : i < vs.length := by
      unfold start at h2
      by_cases hi : i < vs.length
      · exact hi
      · rw [List.getElem?_append_right (by simpa using hi)] at h2
        rw [List.getElem?_replicate] at h2
        split at h2 <;> cases h2
    have ha : vs[i]? = some v := by
      unfold start at h2
      rw [List.getElem?_append_left (by simpa using hi), List.getElem?_map] at h2
      cases e : vs[i]? with
      | none => rw [e] at h2; cases h2
      | some a => rw [e] at h2; cases h2; rfl
    obtain ⟨u, hu, rv⟩ := r.get ha
    have hp : ps[i]? = some y := by
      rw [← S.pre, List.getElem?_take_of_lt (by omega)]; exact h1
    have ndP : ps.Nodup := by rw [← S.pre]; exact S.nd.sublist (List.take_sublist _ _)
    refine ⟨u, rv, ?_⟩
    rcases S.par y (List.mem_of_getElem? hp) with k | k
    · exact .inl ⟨k, bindL_get ndP hp hu k⟩
    · obtain ⟨c, e⟩ := cell_has (n := s.heap.objs.size + 1) k
      refine .inr ⟨.inl k, c, e, ?_⟩
      have q := x.cell y c e
      rw [bindC_get ndP hp hu (by show scope.names.lookup y ≠ _; rw [k]; decide)] at q
      exact q
  · exact e0.hok.fresh (Nat.le_of_lt (x.above y c (PySem.mem_of_lookup h)))
  · unfold start
    show _ = N.length
    rw [List.length_append, List.length_map, List.length_replicate]
    omega
theorem fn_of {CX : CXT} {P : Program} {w : World} {K : PySem.W.Frag} {mg : Str → Option Value} {base : Heap} {k : Nat} {f : Addr} {name qual : Str} {params : Arguments} {body : List Stmt} {scope : Scope} {dV kV doc pm cdv ct oc : Value} {an od : Option Addr}
    {osl : Array (Option Value)} {N ps : List Str} {sp : Sp} (lk : K.lookup f = some ⟨oc, od, .func (PySem.W.fnOf name qual params body scope dV kV doc pm an cdv ct), osl⟩) (hcd : PySem.W.codeIn K cdv qual = true) (S : FnScope N ps scope)
    (len : ∀ vs H Q E, sp vs H Q E → vs.length = ps.length)
    (hbody : ∀ (A : Around) (outer : List Env) (s : Shared) (H : Hp) (vs : List V) (Q : VK) (E : XK), Room k (A.deeper (envOfC qual scope s.heap.objs.size f cdv)) → sp vs H Q E →
      ∃ t, PSs (cxOf CX P w K mg base N qual scope f cdv A outer s H E) body t ∧ t { nx := fun _ H' => Q .non H', rt := Q } (start N vs) H) :
    FnOk P w K mg base CX (k + 1) f (PySem.W.fnOf name qual params body scope dV kV doc pm an cdv ct) ps sp := by
  refine ⟨len, fun A outer s H args us vs Q E hr e0 hb r hsp => ?_⟩
  have hl := len _ _ _ _ hsp
  have KX : K.In s.heap := e0.mod.kin.keeps fun b o e => (e0.bs b o e).1
  have lim : s.heap.NoLimit := e0.mod.nolimit.keeps fun b o e => (e0.bs b o e).1
  have hkind : ∀ y ∈ ps.zip us, scope.names.lookup y.1 = some .local ∨ (scope.names.lookup y.1 = some .cell ∧ ((cellsFrom (s.heap.objs.size + 1) scope.names []).lookup y.1).isSome = true) := fun ⟨n, v⟩ hy => by
    rcases S.par n (List.of_mem_zip hy).1 with q | q
    · exact .inl q
    · exact .inr ⟨q, PySem.W.cellsFrom_some _ _ _ (.inl q)⟩
  refine codeAny_call_function hr.depth (KX _ _ lk) rfl S.co S.gen rfl (PySem.W.codeRec_of KX hcd) (hb _ _ _ _ ?_)
  refine wpAny_newFunctionEnv_cells S.kind hkind fun env he s1 x => ?_
  subst he
  refine ⟨lim.keeps x.toInCall.keep, codeAny_func ?_⟩
  obtain ⟨t, ht, hq⟩ := hbody A outer s H vs Q E (hr.deeper _) hsp
  have I : Inv (cxOf CX P w K mg base N qual scope f cdv A outer s H E) [] (start N vs) H s1 := inv_start S hr.hd e0 hl r x
  refine wpAny_mono (ht [] s1 (start N vs) H _ I hq) (fun fl s' hs => ?_) fun e s' hs => hs
  have fin : ∀ {σ' : St} {H' : Hp} {v : V} {u : Value}, Inv (cxOf CX P w K mg base N qual scope f cdv A outer s H E) [] σ' H' s' → RelV v u → Q v H' → CE outer P w H s Q u s' :=
    fun {σ' H' v u} J rv q => ⟨v, H', J.os, J.bare, J.base, J.hok, rv, q⟩
  cases fl with
  | ret u =>
    obtain ⟨v, σ', H', J, rv, q⟩ := hs
    exact fin J rv q
  | next =>
    obtain ⟨σ', H', J, q⟩ := hs
    exact fin (v := V.non) (u := Value.none) J rfl q
  | brk =>
    obtain ⟨_, _, _, q⟩ := hs
    exact False.elim q
  | cont =>
    obtain ⟨_, _, _, q⟩ := hs
    exact False.elim q
open PySem PySem.Spec PyProof.Rows
section
variable {X : Cx} {x : Str} {p pos : Pos} {e : Expr} {es : List Expr} {t : TA} {id T : String} {r : List V → Hp → VK → Prop}
def tCB (r : List V → Hp → VK → Prop) (t : TA) : TE := fun σ H Q => t σ H fun vs H1 => r vs H1 Q
theorem pe_callB (hc : CallR X (.builtin id) r) (hg : Gl X x) (hm : X.mg x = none) (hv : bootBuiltins x = some (.builtin id)) (ha : PA X (e :: es) t) (hn : x ≠ "__name__" := by decide) (hdb : (x == ("__debug__" : Str)) = false := by decide)
    (he : starEach (e :: es) X.env = (false, eval e X.env) :: starEach es X.env := by rfl) (hpl : (backTo pos (starEach es X.env)).any (·.1) = false := by rfl) : PE X (.Call (.Name x p) (e :: es) [] pos) (tCB r t) := by
  intro pins s σ H Q I h
  refine wpAny_Call_Name_kw (ld_blt I hg hm hv ?_ hn hdb)
  exact PyProof.Rows.callWith_builtin1 (thn (ha pos pins s σ H _ I h) fun us s1 ⟨vs, H1, I1, r1, q1⟩ => hc pins s1 σ H1 vs us Q I1 r1 q1) he hpl
theorem pe_callTy (hc : CallR X (.type T) r) (hg : Gl X x) (hm : X.mg x = none) (hv : bootBuiltins x = some (.type T)) (ha : PA X (e :: es) t) (hn : x ≠ "__name__" := by decide) (hdb : (x == ("__debug__" : Str)) = false := by decide)
    (he : starEach (e :: es) X.env = (false, eval e X.env) :: starEach es X.env := by rfl) (hpl : (backTo pos (starEach es X.env)).any (·.1) = false := by rfl) : PE X (.Call (.Name x p) (e :: es) [] pos) (tCB r t) := by
  intro pins s σ H Q I h
  refine wpAny_Call_Name_kw (ld_blt I hg hm hv ?_ hn hdb)
  exact PyProof.Rows.callWith_type1 (thn (ha pos pins s σ H _ I h) fun us s1 ⟨vs, H1, I1, r1, q1⟩ => hc pins s1 σ H1 vs us Q I1 r1 q1) he hpl
end
end L2
namespace HT
open PySem PyProof.Rows
def lexLt : List Int → List Int → Bool
  | [], [] => false
  | [], _ :: _ => true
  | _ :: _, [] => false
  | x :: xs, y :: ys => if x = y then lexLt xs ys else decide (x < y)
section
open PySem.SeqAt
open PySem.AutoSeq1 (wpAny_loadPart')
open PySem.MeetsSeq PySem.MeetsSeq2 PySem.MeetsSeq3
end
section
variable {prog : Program} {w : World} {A : Around} {E : Value → Shared → Prop} {s : Shared}
def sIx (n d : Nat) : Option Int → Nat
  | none => d
  | some v => if v < 0 then (v + (n : Int)).toNat else min v.toNat n
theorem sIx_none (n d : Nat) : sIx n d none = d := rfl
theorem sIx_nat (n d k : Nat) : sIx n d (some (k : Int)) = min k n := by
  show (if (k : Int) < 0 then ((k : Int) + (n : Int)).toNat else min (k : Int).toNat n) = min k n
  rw [if_neg (by omega), Int.toNat_natCast]
theorem sIx_le (n d : Nat) (hd : d ≤ n) (o : Option Int) : sIx n d o ≤ n := by
  cases o with
  | none => exact hd
  | some v =>
    show (if v < 0 then (v + (n : Int)).toNat else min v.toNat n) ≤ n
    by_cases hv : v < 0
    · rw [if_pos hv]; omega
    · rw [if_neg hv]; exact Nat.min_le_right _ _
end
end HT
namespace L2
open PySem PySem.Spec PyProof.Rows
abbrev TO := St → Hp → (Option Int → Hp → Prop) → Prop
def PO (X : Cx) (e : Option Expr) (t : TO) : Prop :=
  ∀ (pins : List (Addr × Obj)) (s : Shared) (σ : St) (H : Hp) (Q : Option Int → Hp → Prop), Inv X pins σ H s → t σ H Q →
    wpAny (model X.prog X.w) X.A (evalPart e X.env) (fun u s' => ∃ o H', Inv X pins σ H' s' ∧ IsPart u o ∧ Q o H') X.xe s
def tNoPart : TO := fun _ H Q => Q none H
def tPart (t : TE) : TO := fun σ H Q => t σ H fun x H1 => ∃ i, x = .int i ∧ Q (some i) H1
theorem intsAre_of {ns : List Int} : ∀ {us : List Value}, Vals (ns.map V.int) us → IntsAre us ns := by
  induction ns with
  | nil => intro us r; rw [List.map_nil] at r; cases r; exact .nil
  | cons n ns ih =>
    intro us r
    rw [List.map_cons] at r
    cases r with
    | cons r1 r2 =>
      obtain ⟨t, e⟩ := r1
      subst e
      exact .cons n t (ih r2)
section
variable {X : Cx} {e : Expr} {te : TE} {lo hi : Option Expr} {tl th : TO} {pos p2 : Pos}
theorem po_none : PO X none tNoPart := by
  intro pins s σ H Q I h
  rw [evalPart_none]
  exact wpAny_pure ⟨none, H, I, .none, h⟩
theorem po_some (h : PE X e te) : PO X (some e) (tPart te) := by
  intro pins s σ H Q I hw
  rw [evalPart_some]
  refine thn (h pins s σ H _ I hw) fun u s1 ⟨x, H1, I1, r1, q1⟩ => ?_
  obtain ⟨i, rfl, q⟩ := q1
  obtain ⟨t, rfl⟩ := r1
  exact ⟨some i, H1, I1, .int i t, q⟩
def SlR (X : Cx) (r : V → Option Int → Option Int → Hp → VK → Prop) : Prop :=
  ∀ (pins : List (Addr × Obj)) (s : Shared) (σ : St) (H : Hp) (x : V) (v vl vu : Value) (lo hi : Option Int) (sl : Addr) (Q : VK), Inv X pins σ H s → RelV x v → s.heap.IsSliceOf sl vl vu .none → IsPart vl lo → IsPart vu hi → r x lo hi H Q →
    ∃ T id, typeLookup (.type T) "__getitem__" = pure (some (.builtin id)) ∧ s.TypeIs v T ∧ wpAny (model X.prog X.w) X.A (getItem v (.ref sl)) (EP X pins σ Q) X.xe s
def tSl (r : V → Option Int → Option Int → Hp → VK → Prop) (te : TE) (tl th : TO) : TE := fun σ H Q => te σ H fun x H1 => tl σ H1 fun l H2 => th σ H2 fun u H3 => r x l u H3 Q
theorem pe_slice {r : V → Option Int → Option Int → Hp → VK → Prop} (hr : SlR X r) (he : PE X e te) (hl : PO X lo tl) (hu : PO X hi th) : PE X (.Subscript e (.Slice lo hi none p2) pos) (tSl r te tl th) := by
  intro pins s σ H Q I h
  refine Subscript_ (thn (he pins s σ H _ I h) fun v s1 ⟨x, H1, I1, r1, q1⟩ => ?_)
  refine wpAny_Slice (thn (hl pins s1 σ H1 _ I1 q1) fun vl s2 ⟨l, H2, I2, pl, q2⟩ => thn (hu pins s2 σ H2 _ I2 q2) fun vu s3 ⟨u, H3, I3, pu, q3⟩ => ?_)
  rw [evalPart_none]
  refine wpAny_pure ?_
  have I4 : Inv X pins σ H3 { s3 with heap := s3.heap.push { cls := .type "slice", data := .fields #[vl, vu, .none] } } := I3.kept (t' := s3.toks) fun b ob q => Heap.get?_push_of_some _ q
  obtain ⟨T, id, hT, ht, hg⟩ := hr pins { s3 with heap := s3.heap.push { cls := .type "slice", data := .fields #[vl, vu, .none] } } σ H3 x v vl vu l u s3.heap.objs.size Q I4 r1 (Heap.IsSliceOf.new ..) pl pu q3
  show wpAny (model X.prog X.w) X.A (subscriptTail e (.Slice lo hi none p2) v (.ref s3.heap.objs.size)) (EP X pins σ Q) X.xe { s3 with heap := s3.heap.push { cls := .type "slice", data := .fields #[vl, vu, .none] } }
  exact tail_any (ops := [.ref s3.heap.objs.size, v]) ht hT hg (by with_unfolding_all rfl)
def cutV (xs : List V) (lo hi : Option Int) : List V := (xs.drop (HT.sIx xs.length 0 lo)).take (HT.sIx xs.length xs.length hi - HT.sIx xs.length 0 lo)
theorem cutV_length (xs : List V) (lo hi : Option Int) : (cutV xs lo hi).length ≤ xs.length := by
  unfold cutV
  rw [List.length_take, List.length_drop]
  omega
def rSlT (K : PySem.W.Frag) : V → Option Int → Option Int → Hp → VK → Prop := fun x lo hi H Q => ∃ a xs, x = .ref a ∧ SqT K H a xs ∧
  ¬ (HT.sIx xs.length 0 lo = 0 ∧ HT.sIx xs.length xs.length hi = xs.length) ∧ ∀ p, H p = none → Q (.ref p) (upd H p (.tup (cutV xs lo hi)))
def rLtT (K : PySem.W.Frag) : R2 := fun x y H Q => ∃ a b ns ms, x = .ref a ∧ y = .ref b ∧ SqT K H a (ns.map V.int) ∧ SqT K H b (ms.map V.int) ∧ Q (.bl (HT.lexLt ns ms)) H
def rCatT (K : PySem.W.Frag) : R2 := fun x y H Q => ∃ a b xs ys, x = .ref a ∧ y = .ref b ∧ SqT K H a xs ∧ SqT K H b ys ∧ xs ≠ [] ∧ xs.length + ys.length ≤ sizeLine ∧
  (ys = [] → Q (.ref a) H) ∧ (ys ≠ [] → ∀ p, H p = none → Q (.ref p) (upd H p (.tup (xs ++ ys))))
end
open PySem PySem.Spec PyProof.Rows
def ixN (n : Nat) (i : Int) : Option Nat := if 0 ≤ i then (if i < n then some i.toNat else none) else if -(n : Int) ≤ i then some (i + n).toNat else none
def atI {α : Type} (xs : List α) (i : Int) : Option α := (ixN xs.length i).bind fun j => xs[j]?
theorem ixN_seq {n : Nat} {i : Int} {j : Nat} (h : ixN n i = some j) : seqIndex? i n = some j ∧ j < n ∧ -(n : Int) ≤ i ∧ i < n := by
  unfold ixN at h
  by_cases h0 : 0 ≤ i
  · rw [if_pos h0] at h
    by_cases h1 : i < n
    · rw [if_pos h1] at h
      have e : i.toNat = j := Option.some.inj h
      exact ⟨by rw [seqIndex_of h0 h1, e], by omega, by omega, h1⟩
    · rw [if_neg h1] at h; cases h
  · rw [if_neg h0] at h
    by_cases h1 : -(n : Int) ≤ i
    · rw [if_pos h1] at h
      have e : (i + n).toNat = j := Option.some.inj h
      exact ⟨by rw [seqIndex_neg (by omega) h1, e], by omega, h1, by omega⟩
    · rw [if_neg h1] at h; cases h
theorem atI_get {α : Type} {xs : List α} {i : Int} {v : α} (h : atI xs i = some v) : ∃ j, seqIndex? i xs.length = some j ∧ xs[j]? = some v ∧ j < xs.length ∧ -(xs.length : Int) ≤ i ∧ i < xs.length := by
  unfold atI at h
  cases e : ixN xs.length i with
  | none => rw [e] at h; cases h
  | some j =>
    rw [e] at h
    obtain ⟨h1, h2, h3, h4⟩ := ixN_seq e
    exact ⟨j, h1, h, h2, h3, h4⟩
theorem atI_nat {α : Type} {xs : List α} {j : Nat} {v : α} (h : xs[j]? = some v) : atI xs (j : Int) = some v := by
  have hj : j < xs.length := (List.getElem?_eq_some_iff.mp h).1
  have e : ixN xs.length (j : Int) = some j := by
    unfold ixN
    rw [if_pos (by omega), if_pos (by omega)]; simp
  unfold atI; rw [e]; exact h
theorem atI_last {α : Type} (xs : List α) (v : α) : atI (xs ++ [v]) (-1) = some v := by
  have hl : (xs ++ [v]).length = xs.length + 1 := by simp
  have e : ixN (xs ++ [v]).length (-1) = some xs.length := by
    unfold ixN
    rw [hl, if_neg (by decide), if_pos (by omega)]
    congr 1
    omega
  unfold atI
  rw [e]
  show (xs ++ [v])[xs.length]? = some v
  simp
def PlainIx (b : Expr) : Prop := ∀ o i, subscripted b false o i = operate [o, i] (getItem o i)
def IxR (X : Cx) (r : R2) : Prop :=
  ∀ (value slice : Expr) (pins : List (Addr × Obj)) (s : Shared) (σ : St) (H : Hp) (x y : V) (v u : Value) (Q : VK), Inv X pins σ H s → RelV x v → RelV y u → r x y H Q →
    subscripted slice false v u = operate [v, u] (getItem v u) → wpAny (model X.prog X.w) X.A (subscriptTail value slice v u) (EP X pins σ Q) X.xe s
def MtR (X : Cx) (id : String) (r : V → List V → Hp → VK → Prop) : Prop :=
  ∀ (pins : List (Addr × Obj)) (s : Shared) (σ : St) (H : Hp) (x : V) (xs : List V) (v : Value) (us : List Value) (Q : VK), Inv X pins σ H s → RelV x v → Vals xs us → r x xs H Q →
    wpAny (model X.prog X.w) X.A (call (.builtin id) (v :: us)) (EP X pins σ Q) X.xe s
section
variable {X : Cx} {a b : Expr} {ta tb : TE} {pos : Pos}
theorem pe_ix {r : R2} (hr : IxR X r) (ha : PE X a ta) (hb : PE X b tb) (hs : PlainIx b) : PE X (.Subscript a b pos) (tOp r ta tb) := by
  intro pins s σ H Q I h
  exact Subscript_ (binT ha hb I h fun v u s2 x y H2 I2 rx ry q => hr a b pins s2 σ H2 x y v u Q I2 rx ry q (hs _ _))
def rIxL (K : PySem.W.Frag) : R2 := fun x y H Q => ∃ p xs i v, x = .ref p ∧ y = .int i ∧ SqL K H p xs ∧ atI xs i = some v ∧ Q v H
def rIxT (K : PySem.W.Frag) : R2 := fun x y H Q => ∃ p xs i v, x = .ref p ∧ y = .int i ∧ SqT K H p xs ∧ atI xs i = some v ∧ Q v H
def rIxS : R2 := fun x y H Q => ∃ z i c, x = .str z ∧ y = .int i ∧ z.length ≤ sizeLine ∧ atI z.cps.toList i = some c ∧ Q (.str ⟨#[c]⟩) H
theorem ix_list : IxR X (rIxL X.K) := by
  intro value slice pins s σ H x y v u Q I rx ry h hs
  obtain ⟨p, xs, i, z, rfl, rfl, hq, he, q⟩ := h
  cases rx
  obtain ⟨t, rfl⟩ := ry
  obtain ⟨its, r, pl, hz⟩ := I.list hq
  obtain ⟨j, h1, h2, h3, h4, h5⟩ := atI_get he
  obtain ⟨w, ew, rw'⟩ := r.get h2
  have hl := r.length
  have hn := line63
  have fin : EP X pins σ Q w s := ⟨z, H, I, rw', q⟩
  by_cases h0 : 0 ≤ i
  · have hj : i.toNat = j := by
      rw [seqIndex_of h0 h5] at h1
      exact Option.some.inj h1
    exact item_listR pl.isList h0 (by omega) (by rw [hj]; simpa using ew) fin hs
  · have hj : (i + (its.toArray.size : Int)).toNat = j := by
      rw [seqIndex_neg (by omega) h4] at h1
      rw [List.size_toArray, ← hl]
      exact Option.some.inj h1
    exact subscriptTail_builtinR (x := w) pl.isList.typeIs slot_list_getitem.lookup
      (wpAny_getItem_list_neg (Q := fun r s' => r = w ∧ EP X pins σ Q r s') pl.isList (by omega) (by rw [List.size_toArray] <;> omega) (by omega) (by rw [hj]; simpa using ew) ⟨rfl, fin⟩) hs
theorem ix_tup : IxR X (rIxT X.K) := by
  intro value slice pins s σ H x y v u Q I rx ry h hs
  obtain ⟨p, xs, i, z, rfl, rfl, hq, he, q⟩ := h
  cases rx
  obtain ⟨t, rfl⟩ := ry
  obtain ⟨its, r, pl, hz⟩ := I.tuple hq
  obtain ⟨j, h1, h2, h3, h4, h5⟩ := atI_get he
  obtain ⟨w, ew, rw'⟩ := r.get h2
  have hl := r.length
  have hn := line63
  have fin : EP X pins σ Q w s := ⟨z, H, I, rw', q⟩
  exact subscriptTail_builtinR (x := w) pl.typeIs slot_tuple_getitem.lookup
    (getItem_tuple (j := j) (Q := fun r s' => r = w ∧ EP X pins σ Q r s') pl (by omega) (by omega) (by rw [List.size_toArray, ← hl]; exact h1) (by simpa using ew) ⟨rfl, fin⟩) hs
theorem ix_str : IxR X rIxS := by
  intro value slice pins s σ H x y v u Q I rx ry h hs
  obtain ⟨z, i, c, rfl, rfl, hz, he, q⟩ := h
  obtain ⟨t, rfl⟩ := rx
  obtain ⟨t', rfl⟩ := ry
  obtain ⟨j, h1, h2, h3, h4, h5⟩ := atI_get he
  have hl : z.cps.toList.length = z.length := by simp [Str.length]
  rw [hl] at h1 h4 h5
  have hn := line63
  exact tail_any (typeIs_str s z t) slot_str_getitem.lookup (getItem_str (c := c) (by
    have e1 : decide (i < -(2 ^ 63 : Int)) = false := decide_eq_false (by omega)
    have e2 : decide (i ≥ 2 ^ 63) = false := decide_eq_false (by omega)
    rw [e1, e2, Bool.or_false]) (by rw [h1]; simpa using h2) ⟨.str ⟨#[c]⟩, H, I.tok _, ⟨_, rfl⟩, q⟩) hs
def rIx (K : PySem.W.Frag) : R2 := fun x y H Q => rIxL K x y H Q ∨ rIxT K x y H Q ∨ rIxS x y H Q
theorem mapSeq_set (its : List Value) (n j : Nat) (u : Value) : Obj.mapSeq (·.setIfInBounds j u) { cls := .type "list", data := .seq its.toArray n } = { cls := .type "list", data := .seq (its.set j u).toArray n } := by
  simp [Obj.mapSeq]
theorem Inv.lst {pins : List (Addr × Obj)} {σ : St} {H : Hp} {s : Shared} {p : Addr} {xs : List V} (I : Inv X pins σ H s) (h : H p = some (.lst xs)) :
    ∃ (its : List Value) (n : Nat), Vals xs its ∧ s.heap.get? p = some { cls := .type "list", data := .seq its.toArray n } ∧ xs.length ≤ sizeLine := by
  obtain ⟨z, its, n, r, e⟩ := I.hok p _ h
  exact ⟨its, n, r, e, z⟩
theorem Inv.lstUpd {pins : List (Addr × Obj)} {σ : St} {H : Hp} {s : Shared} {p : Addr} {xs ys : List V} {its its' : List Value} {n n' : Nat} {f : Obj → Obj} (I : Inv X pins σ H s) (h : H p = some (.lst xs))
    (ho : s.heap.get? p = some { cls := .type "list", data := .seq its.toArray n }) (hf : f { cls := .type "list", data := .seq its.toArray n } = { cls := .type "list", data := .seq its'.toArray n' }) (r : Vals ys its') (hz : ys.length ≤ sizeLine) (t : Nat) :
    Inv X pins σ (upd H p (.lst ys)) { s with heap := s.heap.update p f, toks := t } := by
  have e : (s.heap.update p f).get? p = some { cls := .type "list", data := .seq its'.toArray n' } := by
    rw [Heap.get?_update_self f ho (by rw [hf] <;> rfl), hf]
  refine I.write (x := p) (e := p) (by rw [h]; trivial) (.inl rfl) (fun b u hb q => (Heap.get?_update_other _ _ (Ne.symm hb)).trans q) ⟨_, e⟩ ?_
  exact ⟨hz, its', n', r, e⟩
def rSetL : V → V → V → Hp → (Hp → Prop) → Prop := fun o i v H Q => ∃ p xs k j, o = .ref p ∧ i = .int k ∧ H p = some (.lst xs) ∧ ixN xs.length k = some j ∧ Q (upd H p (.lst (xs.set j v)))
theorem set_list : PSet X rSetL := by
  intro pins s σ H o i v ov iv u Q I ro ri rv h
  obtain ⟨p, xs, k, j, rfl, rfl, hp, hj, q⟩ := h
  cases ro
  obtain ⟨t, rfl⟩ := ri
  obtain ⟨its, n, r, ho, hz⟩ := I.lst hp
  obtain ⟨h1, h2, h3, h4⟩ := ixN_seq hj
  have hl := r.length
  have hn := line63
  have I' : Inv X pins σ (upd H p (.lst (xs.set j v))) { s with heap := s.heap.update p (Obj.mapSeq (·.setIfInBounds j u)) } :=
    I.lstUpd hp ho (mapSeq_set its n j u) (r.set rv j) (by rw [List.length_set]; exact hz) s.toks
  by_cases h0 : 0 ≤ k
  · have hk : k.toNat = j := by
      rw [seqIndex_of h0 h4] at h1
      exact Option.some.inj h1
    exact PySem.W.ki_setAt ho h0 (by omega) (by rw [List.size_toArray, ← hl]; exact h4) (by rw [hk]; exact ⟨_, I', q⟩)
  · have hk : (k + (its.toArray.size : Int)).toNat = j := by
      rw [seqIndex_neg (by omega) h3] at h1
      rw [List.size_toArray, ← hl]
      exact Option.some.inj h1
    exact PySem.W.ki_setBack ho (by omega) (by rw [List.size_toArray, ← hl]; exact h3) (by omega) (by rw [hk]; exact ⟨_, I', q⟩)
theorem slice_bounds (lo hi : Option Int) (n : Nat) : (sliceBounds lo hi none n).1 = ((HT.sIx n 0 lo : Nat) : Int) ∧ (sliceBounds lo hi none n).2.1 = ((HT.sIx n n hi : Nat) : Int) ∧ (sliceBounds lo hi none n).2.2 = 1 := by
  refine ⟨?_, ?_, rfl⟩
  · cases lo with
    | none => simp [sliceBounds, HT.sIx]
    | some i =>
      simp only [sliceBounds, HT.sIx, Option.getD_none, show (1 : Int) > 0 by decide, if_true]
      by_cases h : i < 0
      · simp only [h, if_true] <;> omega
      · simp only [h, if_false] <;> omega
  · cases hi with
    | none => simp [sliceBounds, HT.sIx]
    | some i =>
      simp only [sliceBounds, HT.sIx, Option.getD_none, show (1 : Int) > 0 by decide, if_true]
      by_cases h : i < 0
      · simp only [h, if_true] <;> omega
      · simp only [h, if_false] <;> omega
theorem slicePick_cut (its : List Value) (lo hi : Option Int) : slicePick its.toArray lo hi none = ((its.drop (HT.sIx its.length 0 lo)).take (HT.sIx its.length its.length hi - HT.sIx its.length 0 lo)).toArray := by
  obtain ⟨h1, h2, h3⟩ := slice_bounds lo hi its.toArray.size
  unfold slicePick
  rw [h1, h2, h3]
  simp only [sliceRange_one, pick_run, List.size_toArray] <;> rfl
def rSlL (K : PySem.W.Frag) : V → Option Int → Option Int → Hp → VK → Prop := fun x lo hi H Q => ∃ a xs, x = .ref a ∧ SqL K H a xs ∧ ∀ p, H p = none → Q (.ref p) (upd H p (.lst (cutV xs lo hi)))
theorem sl_list : SlR X (rSlL X.K) := by
  intro pins s σ H x v vl vu lo hi sl Q I rx hs pl pu h
  obtain ⟨a, xs, rfl, hx, q⟩ := h
  cases rx
  obtain ⟨its, r, ht, hz⟩ := I.list hx
  have hlen := r.length
  refine ⟨"list", _, slot_list_getitem.lookup, ht.isList.typeIs, ?_⟩
  refine wpAny_getItem_list_slice ht.isList hs pl pu .none (by simp) ?_ (by rw [List.size_toArray] <;> omega)
  rw [slicePick_cut, ← hlen]
  refine ⟨.ref s.heap.objs.size, _, I.laid (t' := s.toks) (o := .lst (cutV xs lo hi)) (fun b ob q => Heap.get?_push_of_some _ q) (Nat.le_refl _) ?_, rfl, q _ (I.hok.fresh (Nat.le_refl _))⟩
  exact ⟨Nat.le_trans (cutV_length xs lo hi) hz, _, 0, (r.drop (HT.sIx xs.length 0 lo)).take (HT.sIx xs.length xs.length hi - HT.sIx xs.length 0 lo), Heap.get?_push_size _ rfl⟩
def flatV : V → Bool
  | .non => true
  | .bl _ => true
  | .int _ => true
  | .str _ => true
  | _ => false
def eqV : V → V → Bool
  | .non, .non => true
  | .bl a, .bl b => a == b
  | .bl a, .int b => (if a then 1 else 0) == b
  | .int a, .bl b => a == (if b then 1 else 0)
  | .int a, .int b => a == b
  | .str a, .str b => a == b
  | _, _ => false
theorem eqAt_V {A : Around} {s : Shared} {y x : V} {u v : Value} (ry : RelV y u) (rx : RelV x v) (fy : flatV y = true) (fx : flatV x = true) : SeqAt.EqAt A s u v (eqV y x) := by
  cases y with
  | non =>
    cases ry
    cases x with
    | non => cases rx; exact SeqAt.EqAt.same _
    | bl b => cases rx; exact SeqAt.EqAt.none_bool b
    | int b => obtain ⟨t, rfl⟩ := rx; exact SeqAt.EqAt.none_int b t
    | str b => obtain ⟨t, rfl⟩ := rx; exact SeqAt.EqAt.none_str b t
    | _ => exact absurd (show false = true from fx) Bool.false_ne_true
  | bl a =>
    cases ry
    cases x with
    | non => cases rx; exact SeqAt.EqAt.bool_none a
    | bl b => cases rx; exact SeqAt.EqAt.bool_bool a b
    | int b => obtain ⟨t, rfl⟩ := rx; exact SeqAt.EqAt.bool_int a b t
    | str b => obtain ⟨t, rfl⟩ := rx; exact SeqAt.EqAt.bool_str a b t
    | _ => exact absurd (show false = true from fx) Bool.false_ne_true
  | int a =>
    obtain ⟨t', rfl⟩ := ry
    cases x with
    | non => cases rx; exact SeqAt.EqAt.int_none a t'
    | bl b => cases rx; exact SeqAt.EqAt.int_bool a t' b
    | int b => obtain ⟨t, rfl⟩ := rx; exact SeqAt.EqAt.int_int a t' b t
    | str b => obtain ⟨t, rfl⟩ := rx; exact SeqAt.EqAt.int_str a t' b t
    | _ => exact absurd (show false = true from fx) Bool.false_ne_true
  | str a =>
    obtain ⟨t', rfl⟩ := ry
    cases x with
    | non => cases rx; exact SeqAt.EqAt.str_none a t'
    | bl b => cases rx; exact SeqAt.EqAt.str_bool a t' b
    | int b => obtain ⟨t, rfl⟩ := rx; exact SeqAt.EqAt.str_int a t' b t
    | str b => obtain ⟨t, rfl⟩ := rx; exact SeqAt.EqAt.str_str a t' b t
    | _ => exact absurd (show false = true from fx) Bool.false_ne_true
  | _ => exact absurd (show false = true from fy) Bool.false_ne_true
def eqU (x : V) (u : Value) : Bool := match u with
  | .none => eqV .non x
  | .bool b => eqV (.bl b) x
  | .int i _ => eqV (.int i) x
  | .str z _ => eqV (.str z) x
  | _ => false
def inV (x : V) (xs : List V) : Bool := xs.any fun y => eqV y x
def rIn (K : PySem.W.Frag) (neg : Bool) : R2 := fun x y H Q => ∃ p xs, y = .ref p ∧ (SqL K H p xs ∨ SqT K H p xs) ∧ flatV x = true ∧ xs.all flatV = true ∧ Q (.bl (if neg then !inV x xs else inV x xs)) H
theorem call_len_seq : CallR X (.builtin "len") (fun xs H Q => ∃ p ys, xs = [.ref p] ∧ (SqL X.K H p ys ∨ SqT X.K H p ys) ∧ Q (.int ys.length) H) := by
  intro pins s σ H xs us Q I r h
  obtain ⟨p, ys, rfl, hq, q⟩ := h
  obtain ⟨u, rfl, rx⟩ := vals1 r
  cases rx
  have hn := line63
  rcases hq with hq | hq
  · obtain ⟨its, r', pl, hz⟩ := I.list hq
    have hlen := r'.length
    exact Calls.call_len_list pl.isList (by simp only [List.size_toArray] <;> omega) ⟨.int ys.length, H, I.tok _, ⟨s.toks + 1, by rw [List.size_toArray, hlen]⟩, q⟩
  · obtain ⟨its, r', pl, hz⟩ := I.tuple hq
    have hlen := r'.length
    exact len_tuple pl (by simp only [List.size_toArray] <;> omega) ⟨.int ys.length, H, I.tok _, ⟨s.toks + 1, by rw [List.size_toArray, hlen]⟩, q⟩
theorem call_len_str : CallR X (.builtin "len") (fun xs H Q => ∃ z, xs = [.str z] ∧ z.length ≤ sizeLine ∧ Q (.int z.length) H) := by
  intro pins s σ H xs us Q I r h
  obtain ⟨z, rfl, hz, q⟩ := h
  obtain ⟨u, rfl, t, rfl⟩ := vals1 r
  have hn := line63
  exact len_str (by omega) ⟨.int z.length, H, I.tok _, ⟨_, rfl⟩, q⟩
theorem call_list_of : CallR X (.type "list") (fun xs H Q => ∃ p ys, xs = [.ref p] ∧ (SqL X.K H p ys ∨ SqT X.K H p ys) ∧ ∀ l, H l = none → Q (.ref l) (upd H l (.lst ys))) := by
  intro pins s σ H xs us Q I r h
  obtain ⟨p, ys, rfl, hq, q⟩ := h
  obtain ⟨u, rfl, rx⟩ := vals1 r
  cases rx
  have fin : ∀ (its : List Value), Vals ys its → ys.length ≤ sizeLine → ∀ (h' : Heap) (c' : Nat), (∀ b o', s.heap.get? b = some o' → h'.get? b = some o') →
      h'.get? s.heap.objs.size = some { cls := .type "list", dict := none, data := .seq its.toArray c', slots := #[] } → EP X pins σ Q (.ref s.heap.objs.size) { s with heap := h' } := fun its r' hz h' c' kp e =>
    ⟨.ref s.heap.objs.size, _, I.laid (t' := s.toks) kp (Nat.le_refl _) (show ObjOk X.prog X.w _ h' _ (.lst ys) from ⟨hz, its, c', r', e⟩), rfl, q _ (I.hok.fresh (Nat.le_refl _))⟩
  rcases hq with hq | hq
  · obtain ⟨its, r', pl, hz⟩ := I.list hq
    have hlen := r'.length
    obtain ⟨o, ho, hc, n, hd⟩ := pl.isList
    exact call_list_seq p (.inl rfl) ho hc hd (fun h' c' kp e => fin its r' hz h' c' kp e) (by simp only [List.size_toArray] <;> omega)
  · obtain ⟨its, r', pl, hz⟩ := I.tuple hq
    have hlen := r'.length
    obtain ⟨o, ho, hc, n, hd⟩ := pl
    exact call_list_seq p (.inr rfl) ho hc hd (fun h' c' kp e => fin its r' hz h' c' kp e) (by simp only [List.size_toArray] <;> omega)
def tyV (K : PySem.W.Frag) (T : String) (x : V) (H : Hp) : Prop := match x with
  | .str _ => T = "str"
  | .int _ => T = "int"
  | .ref p => (T = "list" ∧ ∃ xs, SqL K H p xs) ∨ (T = "tuple" ∧ ∃ o, K.lookup p = some o ∧ o.cls = .type "tuple" ∧ o.dict = none) ∨
      (T = "dict" ∧ ((∃ kvs, H p = some (.dK kvs)) ∨ ∃ kvs, H p = some (.dT kvs))) ∨ (T = "set" ∧ ∃ S n, H p = some (.set S n))
  | _ => False
theorem tyV_is {pins : List (Addr × Obj)} {σ : St} {H : Hp} {s : Shared} {T : String} {x : V} {v : Value} (I : Inv X pins σ H s) (r : RelV x v) (ty : tyV X.K T x H) :
    s.TypeIs v T ∧ ∀ a, v = .ref a → ∃ ob, s.heap.get? a = some ob ∧ ob.dict = none := by
  cases x with
  | str z =>
    obtain ⟨t, rfl⟩ := r
    cases (show T = "str" from ty)
    exact ⟨typeIs_str s z t, fun _ e => nomatch e⟩
  | int i =>
    obtain ⟨t, rfl⟩ := r
    cases (show T = "int" from ty)
    exact ⟨typeIs_int s i t, fun _ e => nomatch e⟩
  | ref p =>
    cases r
    rcases ty with ⟨rfl, xs, hq⟩ | ⟨rfl, o, hk, hc, hd⟩ | ⟨rfl, hk⟩ | ⟨rfl, S, n, hk⟩
    · obtain ⟨its, _, pl, _⟩ := I.list hq
      refine ⟨pl.isList.typeIs, fun a e => ?_⟩
      cases e
      obtain ⟨o, n, e, c, hd, _⟩ := pl
      exact ⟨o, e, hd⟩
    · refine ⟨⟨o, I.kIn p o hk, hc⟩, fun a e => ?_⟩
      cases e
      exact ⟨o, I.kIn _ o hk, hd⟩
    · have z : ∃ o, s.heap.get? p = some o ∧ o.ExactDict := by
        rcases hk with ⟨kvs, hk⟩ | ⟨kvs, hk⟩
        · obtain ⟨_, _, _, _, o, _, _, e, ex, _⟩ := I.hok p _ hk
          exact ⟨o, e, ex⟩
        · obtain ⟨_, _, _, _, o, _, _, e, ex, _⟩ := I.hok p _ hk
          exact ⟨o, e, ex⟩
      obtain ⟨o, e, ex⟩ := z
      refine ⟨⟨o, e, ex.1⟩, fun a e2 => ?_⟩
      cases e2
      exact ⟨o, e, ex.2.1⟩
    · obtain ⟨o, _, _, _, e, ex, _⟩ := I.hok p _ hk
      refine ⟨⟨o, e, ex.1⟩, fun a e2 => ?_⟩
      cases e2
      exact ⟨o, e, ex.2.1⟩
  | _ => exact False.elim ty
def tBM0 (K : PySem.W.Frag) (T : String) (r : V → List V → Hp → VK → Prop) (to : TE) : TE := fun σ H Q => to σ H fun x H1 => tyV K T x H1 ∧ r x [] H1 Q
def tBM (K : PySem.W.Frag) (T : String) (r : V → List V → Hp → VK → Prop) (to : TE) (t : TA) : TE := fun σ H Q => to σ H fun x H1 => tyV K T x H1 ∧ t σ H1 fun xs H2 => r x xs H2 Q
variable {o e : Expr} {es : List Expr} {to : TE} {t : TA} {name : Str} {apos cpos : Pos} {T id : String} {r : V → List V → Hp → VK → Prop}
theorem pe_bm (pa : PlainAttrs T) (slot : Slot T name id) (hty : typeOf (.builtin id) = pure (.type "method_descriptor")) (hm : MtR X id r) (ho : PE X o to) (ha : PA X (e :: es) t)
    (hbase : attributeBase o name X.env (eval o X.env) = eval o X.env := by rfl)
    (hfew : ((backTo cpos (starEach (e :: es) X.env)).all (fun x => !x.1) && (backToKw cpos (keywordEach [] X.env)).all (fun x => x.1.isSome)
      && decide ((e :: es).length + ([] : List Keyword).length + (if ([] : List Keyword).isEmpty then 0 else 1) < 30)) = true := by rfl)
    (hline : (apos.endLine == cpos.line) = true := by rfl) (hs : starEach (e :: es) X.env = (false, eval e X.env) :: starEach es X.env := by rfl) (hplain : (backTo cpos (starEach es X.env)).any (·.1) = false := by rfl) :
    PE X (.Call (.Attribute o name apos) (e :: es) [] cpos) (tBM X.K T r to t) := by
  intro pins s σ H Q I h
  refine wpAny_Call_method_late hbase hfew hline rfl (thn (ho pins s σ H _ I h) fun v s1 ⟨x, H1, I1, r1, ty, q1⟩ => ?_)
  obtain ⟨h1, h2⟩ := tyV_is I1 r1 ty
  refine ⟨T, id, pa, slot, hty, h1, h2, ?_⟩
  have hA := ha cpos pins s1 σ H1 _ I1 q1
  rw [hs] at hA ⊢
  refine Calls.callWith_builtin (by show (false || (backTo cpos (starEach es X.env)).any (·.1)) = false; rw [hplain] <;> rfl) (Calls.evalArgs_plain ?_)
  exact thn hA fun us s2 ⟨vs, H2, I2, r2, q2⟩ => hm pins s2 σ H2 x vs v us Q I2 r1 r2 q2
end
open PySem PySem.Spec PyProof.Rows
def MtM (X : Cx) (id : String) (r : V → List V → Hp → VK → Prop) : Prop :=
  ∀ (pins : List (Addr × Obj)) (s : Shared) (σ : St) (H : Hp) (x : V) (xs : List V) (v : Value) (us : List Value) (Q : VK), Inv X pins σ H s → RelV x v → Vals xs us → r x xs H Q →
    wpAny (model X.prog X.w) X.A (call (.builtin id) (v :: us)) (EP X pins σ Q) X.xe s
theorem Vals.one : ∀ {x : V} {us : List Value}, Vals [x] us → ∃ u, us = [u] ∧ RelV x u
  | _, _, .cons r .nil => ⟨_, rfl, r⟩
theorem Vals.two : ∀ {x y : V} {us : List Value}, Vals [x, y] us → ∃ u v, us = [u, v] ∧ RelV x u ∧ RelV y v
  | _, _, _, .cons r (.cons q .nil) => ⟨_, _, rfl, r, q⟩
theorem Vals.rep {xs : List V} {us : List Value} (h : Vals xs us) : ∀ k : Nat, Vals (List.replicate k xs).flatten (List.replicate k us).flatten
  | 0 => .nil
  | k + 1 => by
    rw [List.replicate_succ, List.replicate_succ, List.flatten_cons, List.flatten_cons]
    exact Vals.append h (Vals.rep h k)
theorem foldl_rep (its : List Value) : ∀ (k : Nat) (acc : List Value),
    List.foldl (fun x1 x2 => x1 ++ x2) acc.toArray (List.replicate k its.toArray) = (acc ++ (List.replicate k its).flatten).toArray
  | 0, acc => by simp
  | k + 1, acc => by
    have e : acc.toArray ++ its.toArray = (acc ++ its).toArray := by simp
    have e2 : (acc ++ its) ++ (List.replicate k its).flatten = acc ++ (List.replicate (k + 1) its).flatten := by
      rw [List.replicate_succ, List.flatten_cons, List.append_assoc]
    rw [← e2, ← foldl_rep its k (acc ++ its), ← e, List.replicate_succ, List.foldl_cons]
section
variable {X : Cx} {pins : List (Addr × Obj)} {σ : St} {H : Hp} {s : Shared} {l b : Addr} {xs ys zs : List V}
theorem Inv.lset {its its' : List Value} {n : Nat} {f : Array Value → Array Value} {t' : Nat} (I : Inv X pins σ H s) (hH : H l = some (.lst xs))
    (e : s.heap.get? l = some { cls := .type "list", data := .seq its.toArray n }) (hf : f its.toArray = its'.toArray) (hv : Vals ys its') (hz : ys.length ≤ sizeLine) :
    Inv X pins σ (upd H l (.lst ys)) { s with heap := s.heap.update l (Obj.mapSeq f), toks := t' } := by
  have q := PySem.IsL.update e f
  rw [hf] at q
  refine I.write (x := l) (e := l) (by rw [hH]; exact trivial) (.inl rfl) (fun b' u hb hu => (Heap.get?_update_other s.heap (Obj.mapSeq f) (Ne.symm hb)).trans hu) ⟨_, q⟩ ?_
  exact ⟨hz, its', _, hv, q⟩
theorem Inv.lnew {its : List Value} {t' : Nat} (I : Inv X pins σ H s) (hv : Vals ys its) (hz : ys.length ≤ sizeLine) :
    Inv X pins σ (upd H s.heap.objs.size (.lst ys)) { s with heap := s.heap.push { cls := .type "list", data := .seq its.toArray }, toks := t' } :=
  I.laid (fun _ _ q => Heap.get?_push_of_some _ q) (Nat.le_refl _) ⟨hz, its, 0, hv, Heap.get?_push_size _ rfl⟩
theorem Inv.fresh (I : Inv X pins σ H s) : H s.heap.objs.size = none := I.hok.fresh (Nat.le_refl _)
theorem Inv.lstM (I : Inv X pins σ H s) (hH : H l = some (.lst xs)) : xs.length ≤ sizeLine ∧ ∃ (its : List Value) (n : Nat), Vals xs its ∧ xs.length = its.length ∧ s.heap.get? l = some { cls := .type "list", data := .seq its.toArray n } := by
  obtain ⟨z, its, n, r, e⟩ := I.hok l _ hH
  exact ⟨z, its, n, r, r.length, e⟩
theorem notLongL {n : Nat} (h : n ≤ sizeLine) : Builtin.List.listTooLong n = false := by
  unfold Builtin.List.listTooLong
  exact decide_eq_false (by omega)
end
section
variable {X : Cx}
def rAppend : V → List V → Hp → VK → Prop := fun x vs H Q => ∃ l xs y, x = .ref l ∧ vs = [y] ∧ H l = some (.lst xs) ∧ xs.length < sizeLine ∧ Q .non (upd H l (.lst (xs ++ [y])))
theorem mt_append : MtM X "list.append" rAppend := by
  intro pins s σ H x vs v us Q I rx rv h
  obtain ⟨l, xs, y, rfl, rfl, hH, hz, q⟩ := h
  cases rx
  obtain ⟨u, rfl, ru⟩ := rv.one
  obtain ⟨z, its, n, r, hl, e⟩ := I.lstM hH
  refine call_meets F.slot_list_append ⟨_, e, rfl⟩ F.entry_list_append (F.args_list_append_2 _ _) (PySem.list_append l its.toArray n u (by rw [List.size_toArray]; omega)) ⟨e, ?_⟩
  refine ⟨.non, _, I.lset (its' := its ++ [u]) hH e (by simp) (r.append (.cons ru .nil)) ?_, rfl, q⟩
  rw [List.length_append, List.length_singleton]
  omega
def rExtend : V → List V → Hp → VK → Prop := fun x vs H Q => ∃ l b xs zs, x = .ref l ∧ vs = [.ref b] ∧ H l = some (.lst xs) ∧ H b = some (.lst zs) ∧ xs.length + zs.length ≤ sizeLine ∧ Q .non (upd H l (.lst (xs ++ zs)))
theorem mt_extend : MtM X "list.extend" rExtend := by
  intro pins s σ H x vs v us Q I rx rv h
  obtain ⟨l, b, xs, zs, rfl, rfl, hH, hB, hz, q⟩ := h
  cases rx
  obtain ⟨u, rfl, ru⟩ := rv.one
  cases ru
  obtain ⟨z, its, n, r, hl, e⟩ := I.lstM hH
  obtain ⟨z2, its2, n2, r2, hl2, e2⟩ := I.lstM hB
  have hsz : its.toArray.size + its2.toArray.size ≤ sizeLine := by rw [List.size_toArray, List.size_toArray]; omega
  have hlong : ¬ (!its.toArray.isEmpty && Builtin.List.listTooLong (its.toArray.size + its2.toArray.size)) = true := by
    rw [notLongL hsz, Bool.and_false]
    exact Bool.false_ne_true
  refine call_meets F.slot_list_extend ⟨_, e, rfl⟩ F.entry_list_extend (F.args_list_extend_2 _ _)
    (AutoSeq1.list_extend_list_list_0 l its.toArray n b its2.toArray n2 hlong (by rw [List.size_toArray]; omega) (by omega)) ⟨e, e2, ?_⟩
  refine ⟨.non, _, I.lset (its' := its ++ its2) hH e (by simp) (r.append r2) ?_, rfl, q⟩
  rw [List.length_append]
  omega
def rPop : V → List V → Hp → VK → Prop := fun x vs H Q => ∃ l xs y, x = .ref l ∧ vs = [] ∧ H l = some (.lst xs) ∧ xs[xs.length - 1]? = some y ∧ Q y (upd H l (.lst xs.dropLast))
def rPopAt : V → List V → Hp → VK → Prop := fun x vs H Q => ∃ l xs i k y, x = .ref l ∧ vs = [.int i] ∧ H l = some (.lst xs) ∧ -(2 ^ 63) ≤ i ∧ i < 2 ^ 63 ∧ seqIndex? i xs.length = some k ∧ xs[k]? = some y ∧ Q y (upd H l (.lst (xs.eraseIdx k)))
def rReverse : V → List V → Hp → VK → Prop := fun x vs H Q => ∃ l xs, x = .ref l ∧ vs = [] ∧ H l = some (.lst xs) ∧ Q .non (upd H l (.lst xs.reverse))
def rClear : V → List V → Hp → VK → Prop := fun x vs H Q => ∃ l xs, x = .ref l ∧ vs = [] ∧ H l = some (.lst xs) ∧ Q .non (upd H l (.lst []))
def rCat : R2 := fun x y H Q => ∃ l b xs zs, x = .ref l ∧ y = .ref b ∧ H l = some (.lst xs) ∧ H b = some (.lst zs) ∧ xs.length + zs.length ≤ sizeLine ∧ ∀ p, H p = none → Q (.ref p) (upd H p (.lst (xs ++ zs)))
def rRep : R2 := fun x y H Q => ∃ l k xs, x = .ref l ∧ y = .int k ∧ H l = some (.lst xs) ∧ -(2 ^ 63) ≤ k ∧ k < 2 ^ 63 ∧ xs.length * k.toNat ≤ sizeLine ∧
  ∀ p, H p = none → Q (.ref p) (upd H p (.lst (List.replicate k.toNat xs).flatten))
theorem len_rep {α : Type} (xs : List α) (k : Nat) : (List.replicate k xs).flatten.length = k * xs.length := by
  induction k with
  | zero => simp
  | succ k ih => rw [List.replicate_succ, List.flatten_cons, List.length_append, ih, Nat.succ_mul, Nat.add_comm]
theorem op_rep : OpR X (binaryOp .Mult) rRep := by
  intro pins s σ H x y v u Q I rx ry h
  obtain ⟨l, k, xs, rfl, rfl, hH, h1, h2, hz, q⟩ := h
  cases rx
  obtain ⟨t, rfl⟩ := ry
  obtain ⟨z, its, n, r, hl, e⟩ := I.lstM hH
  have hlen : its.toArray.size * k.toNat ≤ sizeLine := by rw [List.size_toArray, ← hl]; exact hz
  have hcap : ¬ its.toArray.size * k.toNat > (2 ^ 63 - 1) / 8 := by
    have : (sizeLine : Nat) ≤ (2 ^ 63 - 1) / 8 := by decide
    omega
  have hfit : ¬ (!Builtin.List.listFitsIndex k) = true := by
    rw [fitsIndex_both h1 h2]
    exact Bool.false_ne_true
  have hlong : ¬ Builtin.List.listTooLong (its.toArray.size * k.toNat) = true := by
    rw [notLongL hlen]
    exact Bool.false_ne_true
  have hnew : List.foldl (fun x1 x2 => x1 ++ x2) #[] (List.replicate (if its.toArray.isEmpty = true then 0 else k.toNat) its.toArray) = (List.replicate k.toNat its).flatten.toArray := by
    have f0 : ∀ m : Nat, List.foldl (fun x1 x2 => x1 ++ x2) #[] (List.replicate m its.toArray) = (List.replicate m its).flatten.toArray := fun m => by
      have := foldl_rep its m []
      rw [List.nil_append] at this
      exact this
    rw [f0]
    cases its with
    | nil => simp
    | cons a r' => rw [if_neg (by simp)]
  refine wpAny_binaryOp_repeat_ref (T := "list") (U := "int") (by decide) ⟨_, e, rfl⟩ (fun s' => typeIs_int s' k t) noFill_list_mul F.fills_int_mul F.slot_int_rmul repeat_list F.slot_int_index.lookup
    (call_meets F.slot_int_rmul (typeIs_int s k t) F.entry_int_rmul (F.args_int_rmul_2 _ _) (int___rmul___int_list k t l its.toArray n)
      ⟨e, rfl, ⟨_, e, rfl⟩, call_meets F.slot_list_mul ⟨_, e, rfl⟩ F.entry_list_mul (F.args_list_mul_2 _ _) (AutoListH.list___mul___list_int_3 l its.toArray n k t hfit hcap hlong) ⟨e, ?_⟩⟩)
  rw [hnew]
  exact ⟨.ref _, _, I.lnew (t' := s.toks) (r.rep k.toNat) (by rw [len_rep, Nat.mul_comm]; exact hz), rfl, q _ I.fresh⟩
end
section
variable {prog : Program} {w : World} {A : Around} {E : Value → Shared → Prop} {s : Shared}
end
section
variable {X : Cx}
end
end L2
namespace Att
open PySem PySem.W PySem.Calls PyProof.Rows
theorem ints_of_wellAll {P : Params} {h : Heap} : ∀ (ns : List Int) (vs : List Value), WellAll P h vs (ns.map WData.int) → IntsAre vs ns := by
  intro ns
  induction ns with
  | nil =>
    intro vs w
    rw [List.map_nil] at w
    cases w
    exact .nil
  | cons n ns ih =>
    intro vs w
    rw [List.map_cons] at w
    cases w with
    | cons a b =>
      cases a
      exact .cons _ _ (ih _ b)
theorem script_of {l : OpenLaw} {n : Nat} (hn : l.most = some n) {P : Params} {h : Heap} {args : List WData} {vals : List Value}
    (hpre : l.row.toRowW.claim.pre args = true) (hwl : WellAll P h vals args) :
    ∃ a vs ns, vals = [Value.ref a] ∧ args = [WData.list (ns.map WData.int)] ∧ h.get? a = some { cls := .type "list", data := .seq vs.toArray } ∧ IntsAre vs ns ∧ ns.length ≤ n := by
  have hsh : WShape.hasAll [] args [.list .int] = true := (pre_splitW hpre).1
  have hc : l.pre.holds [] { args := args } = true := (pre_splitW hpre).2
  obtain ⟨d, r, rfl, h1, h2⟩ := hasAllW_cons hsh
  obtain rfl := hasAllW_nil h2
  obtain ⟨xs, rfl, h3⟩ := hasW_list h1
  obtain ⟨ns, rfl⟩ := items_int h3
  have hlen : ns.length ≤ n := by
    unfold OpenLaw.pre at hc
    have h4 : (WTm.not (.lt (.lit (.int (n : Int))) (.len (.arg 0)))).holds [] { args := [.list (ns.map .int)] } = true := by
      have h4 := (holds_andW hc).1
      rw [hn] at h4
      exact h4
    have h5 := condW_of h4 (w_not (w_lt w_lit (w_len_list (w_arg rfl))))
    rw [List.length_map] at h5
    refine Nat.le_of_not_lt fun q => ?_
    have q' : (n : Int) < ((ns.length : Nat) : Int) := by omega
    first
      | (rw [decide_eq_true q'] at h5; exact absurd h5 (by decide))
      | (simp at h5; omega)
  cases hwl with
  | cons w1 w2 =>
    cases w2
    cases w1 with
    | list ho hall => exact ⟨_, _, ns, rfl, rfl, ho, ints_of_wellAll ns _ hall, hlen⟩
theorem post_true (l : OpenLaw) (args : List WData) : l.row.toRowW.claim.post args (.bool true) args = true :=
  postW_of (r := l.row.toRowW) (X := (true == true))
    (show WShape.has [] (.bool true) .bool = true by first | rfl | decide | simp [WShape.has, WShape.arms, WShape.armsAll])
    (show (WTm.eq .res (.lit (.bool true))).value [] { args := args, res := some (.bool true), after := args } = some (.bool (true == true)) from w_eq_bool (w_res rfl) w_lit) rfl
theorem attach_call {l : OpenLaw} {n : Nat} {q : Program} {loose : List Str} {XP : (Str → Option Value) → Heap → Prop} {YP : World → Heap → Prop} {d : DefRec}
    (hn : l.most = some n) (hdf : d.params.defaults = [])
    (call : ∀ (w : World) (s₀ s₁ : Shared) (mg mb : Str → Option Value) (fa : Addr) (o : Obj) (pm cd doc : Value) (a : Addr) (vs : List Value) (ns : List Int),
      Ground q loose [] XP w s₀ mg mb s₁.heap → YP w s₁.heap →
      s₁.heap.get? fa = some o → o.data = .func (docDef d.name d.params d.body d.scope pm cd doc) → s₁.heap.CodeRec cd d.name → mg d.name = some (.ref fa) →
      s₁.heap.get? a = some { cls := .type "list", data := .seq vs.toArray } → IntsAre vs ns → ns.length ≤ n → s₁.gens = #[] →
      codeAny (model l.prog w) callerA (.call (.ref fa) ⟨[.ref a], []⟩) (fun r s' => r = .ok (.ret (.bool true)) ∧ OldK s₁.heap s'.heap ∧ s'.os = s₁.os ∧ AllBare s'.gens) s₁) :
    WalkO q loose XP YP l.row.toRowW d [] (fun f vs => PySem.call f vs) := by
  intro w s₀ s₁ mg mb G Y fa o pm cd doc dV kV ho hd hcd hD hmg hg args vals as hpre hlay hrd hwl hlo
  obtain rfl : dV = .none := Dflts.none hD hdf
  obtain rfl : kV = .none := Dflts.noKw hD
  obtain ⟨a, vs, ns, rfl, rfl, hobj, hints, hlen⟩ := script_of hn hpre hwl
  refine enter_call (codeAny_mono (call w s₀ s₁ mg mb fa o pm cd doc a vs ns G Y ho (fd_plain hd) hcd hmg hobj hints hlen hg) fun r s' hq => ?_)
  obtain ⟨rfl, h2, h3, h4⟩ := hq
  exact ⟨.inl ⟨.bool true, .bool true, [], rfl, fun _ => rfl, .bool true, post_true l _, fun _ => ⟨List.Pairwise.nil, fun _ hm => (nomatch hm)⟩⟩, h2, h3, h4⟩
section
variable {prog : Program} {w : World} {A : Around} {E : Value → Shared → Prop} {s : Shared} {K : Frag}
def noObjs (h : Heap) : Heap := { h with objs := #[] }
def ledger (h : Heap) (L d : Addr) : List (Addr × Obj) := (List.range h.objs.size).filterMap fun a => if a = L ∨ a = d then none else (h.get? a).map fun o => (a, o)
end
end Att
namespace L2
open PySem PySem.Spec PyProof.Rows
theorem vals_ints : ∀ {vs : List Value} {ns : List Int}, IntsAre vs ns → Vals (ns.map V.int) vs
  | _, _, .nil => .nil
  | _, _, .cons n t h => .cons ⟨t, rfl⟩ (vals_ints h)
def Only (H : Hp) : Prop := ∀ b, H b = none ∨ ∃ o xs, H b = some (.frz o (.lst xs))
theorem law_call {P : Program} {w : World} {K : PySem.W.Frag} {mg mb : Str → Option Value} {CX : CXT} {k : Nat} {fa a : Addr} {fd : FuncData} {x : Str} {sp : Sp} {s₁ : Shared} {vs : List Value} {ns : List Int}
    (KX : K.In s₁.heap) (hns : s₁.heap.Ns mainGlobals mg) (hb : s₁.heap.Ns builtinsNs mb) (hbb : ∀ x : Str, x ≠ "__name__" → mb x = bootBuiltins x) (hlim : s₁.heap.NoLimit) (hg : s₁.gens = #[])
    (ha : s₁.heap.get? a = some { cls := .type "list", data := .seq vs.toArray }) (hi : IntsAre vs ns) (hl : ns.length ≤ sizeLine) (hr : Room k callerA)
    (F : ∀ base : Heap, K.In base → base.Ns mainGlobals mg → FnOk P w K mg base CX k fa fd [x] sp) (hbind : ∀ (s : Shared) (u : Value), BindsTo s fd ⟨[u], []⟩ [(x, u)])
    (hsp : ∀ H : Hp, Only H → SqL K H a (ns.map V.int) → sp [.ref a] H (fun v _ => v = .bl true) fun _ _ _ => False)
    (hCX : ∀ H e s', CX [] H s₁ (fun _ _ _ => False) e s' → False) :
    codeAny (model P w) callerA (.call (.ref fa) ⟨[.ref a], []⟩) (fun r s' => r = .ok (.ret (.bool true)) ∧ OldK s₁.heap s'.heap ∧ s'.os = s₁.os ∧ AllBare s'.gens) s₁ := by
  have rv := vals_ints hi
  have lenV := hi.length
  have core : ∀ H : Hp, Only H → SqL K H a (ns.map V.int) → HOk P w H s₁.heap → (∀ b, H b ≠ none → b = a) → (H a ≠ none → K.lookup a = none) →
      codeAny (model P w) callerA (.call (.ref fa) ⟨[.ref a], []⟩) (fun r s' => r = .ok (.ret (.bool true)) ∧ OldK s₁.heap s'.heap ∧ s'.os = s₁.os ∧ AllBare s'.gens) s₁ := by
    intro H hO hS hok hA hK
    have base_of : ∀ {b : Addr} {o : Obj}, s₁.heap.get? b = some o → H b = none → (hidT s₁.heap H).get? b = some o := fun e n => hidT_get e n
    have noA : ∀ {b : Addr} {o : Obj} {es : Array DictEntry} {ep : Nat}, s₁.heap.get? b = some o → o.data = .dict es ep → H b = none := fun {b o es ep} e d => by
      cases q : H b with
      | none => rfl
      | some u =>
        have e' : b = a := hA b (by rw [q]; simp)
        subst e'
        rw [ha] at e; cases e
        have d' : Data.seq vs.toArray _ = Data.dict es ep := d
        cases d'
    have nsK : ∀ {b : Addr} {m : Str → Option Value}, s₁.heap.Ns b m → (hidT s₁.heap H).Ns b m := fun {b m} ⟨o, es, ep, e, d, r⟩ => ⟨o, es, ep, base_of e (noA e d), d, r⟩
    have hKb : K.In (hidT s₁.heap H) := fun b o e => base_of (KX b o e) (by
      cases q : H b with
      | none => rfl
      | some u =>
        have e' : b = a := hA b (by rw [q]; simp)
        subst e'
        rw [hK (by rw [q]; simp)] at e; cases e)
    have hM : Mod K mg (hidT s₁.heap H) := ⟨hKb, nsK hns, ⟨mb, nsK hb, hbb⟩, let ⟨mc, h1, h2⟩ := hlim; ⟨mc, nsK h1, h2⟩⟩
    have e0 : Env0 P w K mg (hidT s₁.heap H) callerA [] s₁ H := ⟨rfl, hM, fun b o e => of_hidT e, Nat.le_of_eq (hidT_size _ _), trivial, fun b hb => absurd (show b ∈ ([] : List Addr) from hb) (by simp), hok, .of_eq hg⟩
    refine codeAny_mono ((F _ hKb (nsK hns)).run callerA [] s₁ H ⟨[.ref a], []⟩ [.ref a] [.ref a] _ _ hr e0 (hbind s₁ (.ref a)) (.cons rfl .nil) (hsp H hO hS)) fun r s' h => ?_
    cases r with
    | error e => exact (hCX H e s' h).elim
    | ok fl =>
      cases fl with
      | next => exact False.elim h
      | brk => exact False.elim h
      | cont => exact False.elim h
      | ret u =>
        obtain ⟨v, H', os, bare, un, hok', r', q⟩ := h
        have q' : v = .bl true := q
        subst q'
        obtain rfl : u = Value.bool true := r'
        refine ⟨rfl, OldK.of_keep fun b o e => ?_, os, bare⟩
        cases q : H b with
        | none => exact un.keep b o e q (by intro z; exact absurd (show b ∈ ([] : List Addr) from z) (by simp)) (by simp)
        | some u =>
          rcases hO b with z | ⟨ob, xs, z⟩
          · rw [q] at z; cases z
          · have z2 := un.frzs b ob _ z
            obtain ⟨e1, _⟩ := hok b _ z
            obtain ⟨e2, _⟩ := hok' b _ z2
            rw [e] at e1; cases e1
            exact e2
  cases hk : K.lookup a with
  | some o =>
    have e := KX a o hk
    rw [ha] at e
    cases e
    refine core (fun _ => none) (fun _ => .inl rfl) (.inr ⟨_, vs.toArray, _, hk, rfl, rfl, rfl, by rw [List.size_toArray, lenV]; exact hl, by simpa using rv⟩) (fun b u z => by have z' : (none : Option HO) = some u := z; cases z') (fun b z => absurd rfl z) fun z => absurd rfl z
  | none =>
    refine core (fun b => if b = a then some (.frz { cls := .type "list", data := .seq vs.toArray } (.lst (ns.map V.int))) else none) (fun b => ?_) (.inl (.inr ⟨{ cls := .type "list", data := .seq vs.toArray }, if_pos rfl⟩)) (fun b u z => ?_) (fun b z => ?_) fun _ => hk
    · by_cases hb : b = a
      · exact .inr ⟨_, _, if_pos hb⟩
      · exact .inl (if_neg hb)
    · by_cases hb : b = a
      · have z' := (if_pos hb).symm.trans z
        cases z'
        subst hb
        exact ⟨ha, by rw [List.length_map]; exact hl, vs, _, rv, ha⟩
      · have z' := (if_neg hb).symm.trans z
        cases z'
    · by_cases hb : b = a
      · exact hb
      · exact absurd (if_neg hb) z
open PySem PySem.Spec PyProof.Rows
abbrev KOf {K : PySem.W.Frag} {h : Heap} (_ : K.In h) : PySem.W.Frag := K
theorem walk_of {l : PySem.W.OpenLaw} {n k : Nat} {q : Program} {loose : List Str} {XP : (Str → Option Value) → Heap → Prop} {YP : World → Heap → Prop} {d : DefRec} {K : Params → PySem.W.Frag} {CX : World → CXT} {sp : World → Sp} {x : Str}
    (hn : l.most = some n) (hn2 : n ≤ sizeLine) (hdf : d.params.defaults = []) (hr : Room k callerA)
    (hY : ∀ (w : World) (h : Heap), YP w h → (K w.params).In h)
    (F : ∀ (w : World) (mg : Str → Option Value) (fa : Addr) (h : Heap), (K w.params).In h → h.Ns mainGlobals mg → mg d.name = some (.ref fa) →
      ∃ fd : FuncData, (∀ (s : Shared) (u : Value), BindsTo s fd ⟨[u], []⟩ [(x, u)]) ∧
        ∀ base : Heap, (K w.params).In base → base.Ns mainGlobals mg → FnOk l.prog w (K w.params) mg base (CX w) k fa fd [x] (sp w))
    (hsp : ∀ (w : World) (H : Hp) (a : Addr) (ns : List Int), ns.length ≤ n → Only H → SqL (K w.params) H a (ns.map V.int) → sp w [.ref a] H (fun v _ => v = .bl true) fun _ _ _ => False)
    (hCX : ∀ (w : World) (H : Hp) (s : Shared) (e : Value) (s' : Shared), CX w [] H s (fun _ _ _ => False) e s' → False) :
    PySem.W.WalkO q loose XP YP l.row.toRowW d [] (fun f vs => PySem.call f vs) := by
  refine Att.attach_call hn hdf fun w s₀ s₁ mg mb fa o pm cd doc a vs ns G Y ho hd hcd hmg hobj hints hlen hg => ?_
  have KX := hY w _ Y
  obtain ⟨fd, hb, hF⟩ := F w mg fa _ KX G.T.g hmg
  exact law_call KX G.T.g G.T.b G.T.builtins G.T.nolimit hg hobj hints (Nat.le_trans hlen hn2) hr hF hb (fun H hO hS => hsp w H a ns hlen hO hS) fun H e s' => hCX w H s₁ e s'
theorem walk_ofK {l : PySem.W.OpenLaw} {n k : Nat} {q : Program} {loose : List Str} {XP : (Str → Option Value) → Heap → Prop} {YP : World → Heap → Prop} {d : DefRec} {K : Params → PySem.W.Frag} {CX : CXT} {sp : PySem.W.Frag → Sp} {x : Str}
    (hn : l.most = some n) (hn2 : n ≤ sizeLine) (hdf : d.params.defaults = []) (hr : Room k callerA)
    (hY : ∀ (w : World) (h : Heap), YP w h → (K w.params).In h)
    (F : ∀ (w : World) (mg : Str → Option Value) (fa : Addr) (h : Heap), (K w.params).In h → h.Ns mainGlobals mg → mg d.name = some (.ref fa) →
      ∃ fd : FuncData, (∀ (s : Shared) (u : Value), BindsTo s fd ⟨[u], []⟩ [(x, u)]) ∧
        ∀ base : Heap, (K w.params).In base → base.Ns mainGlobals mg → FnOk l.prog w (K w.params) mg base CX k fa fd [x] (sp (K w.params)))
    (hsp : ∀ (K : PySem.W.Frag) (H : Hp) (a : Addr) (ns : List Int), ns.length ≤ n → Only H → SqL K H a (ns.map V.int) → sp K [.ref a] H (fun v _ => v = .bl true) fun _ _ _ => False)
    (hCX : ∀ (H : Hp) (s : Shared) (e : Value) (s' : Shared), CX [] H s (fun _ _ _ => False) e s' → False) :
    PySem.W.WalkO q loose XP YP l.row.toRowW d [] (fun f vs => PySem.call f vs) :=
  walk_of (K := K) (CX := fun _ => CX) (sp := fun w => sp (K w.params)) hn hn2 hdf hr hY F (fun w H a ns h1 h2 h3 => hsp (K w.params) H a ns h1 h2 h3) fun _ H s e s' => hCX H s e s'
open PySem PySem.Spec PyProof.Rows
def inClass (s : Stmt) (j : Nat) : Stmt := match s with
  | .ClassDef _ _ _ body _ _ _ _ _ _ _ => body.getD j (.Pass ⟨0, 0, 0, 0⟩)
  | _ => .Pass ⟨0, 0, 0, 0⟩
def defArgs (s : Stmt) : Arguments := match s with
  | .FunctionDef _ a _ _ _ _ _ _ _ _ => a
  | _ => { posonlyargs := [], args := [], vararg := none, kwonlyargs := [], kw_defaults := [], kwarg := none, defaults := [] }
def defBody (s : Stmt) : List Stmt := match s with
  | .FunctionDef _ _ b _ _ _ _ _ _ _ => b
  | _ => []
def defScope (s : Stmt) : Scope := match s with
  | .FunctionDef _ _ _ _ _ _ sc _ _ _ => sc
  | _ => { kind := .function, names := [], isGenerator := false, isCoroutine := false }
abbrev CX0 : CXT := fun _ _ _ _ _ _ => False
abbrev E0 : XK := fun _ _ _ => False
theorem pass0 {X : Cx} : Passes CX0 X E0 := fun _ _ _ _ _ _ _ h => h.elim
structure Fun (K : PySem.W.Frag) (x qual : Str) (st : Stmt) (f : Addr) (fd : FuncData) : Prop where
  ex : ∃ (oc : Value) (od : Option Addr) (kV doc pm : Value) (an : Option Addr) (cdv ct : Value) (osl : Array (Option Value)),
    fd = PySem.W.fnOf x qual (defArgs st) (defBody st) (defScope st) .none kV doc pm an cdv ct ∧ K.lookup f = some ⟨oc, od, .func fd, osl⟩ ∧ PySem.W.codeIn K cdv qual = true
  kp : PySem.W.keepIn K (.ref f) = true
section
variable {P : Program} {w : World} {K : PySem.W.Frag} {mg : Str → Option Value} {base : Heap}
theorem Fun.ok {x qual : Str} {st : Stmt} {f : Addr} {fd : FuncData} {N ps : List Str} {k : Nat} {sp : Sp} (F : Fun K x qual st f fd) (S : FnScope N ps (defScope st)) (len : ∀ vs H Q E, sp vs H Q E → vs.length = ps.length)
    (hbody : ∀ (cdv : Value) (A : Around) (outer : List Env) (s : Shared) (H : Hp) (vs : List V) (Q : VK) (E : XK), Room k (A.deeper (envOfC qual (defScope st) s.heap.objs.size f cdv)) → sp vs H Q E →
      ∃ t, PSs (cxOf CX0 P w K mg base N qual (defScope st) f cdv A outer s H E).nox (defBody st) t ∧ t { nx := fun _ H' => Q .non H', rt := Q } (start N vs) H) : FnOk P w K mg base CX0 (k + 1) f fd ps sp := by
  obtain ⟨oc, od, kV, doc, pm, an, cdv, ct, osl, rfl, lk, hcd⟩ := F.ex
  refine fn_of lk hcd S len fun A outer s H vs Q E hr hsp => ?_
  obtain ⟨t, h, q⟩ := hbody cdv A outer s H vs Q E hr hsp
  exact ⟨t, h.nox, q⟩
theorem Fun.binds {x qual : Str} {st : Stmt} {f : Addr} {fd : FuncData} {ps : List Str} (F : Fun K x qual st f fd)
    (h : ∀ (kV doc pm : Value) (an : Option Addr) (cdv ct : Value) (us : List Value), us.length = ps.length → bindArgs (PySem.W.fnOf x qual (defArgs st) (defBody st) (defScope st) .none kV doc pm an cdv ct) ⟨us, []⟩ = pure (ps.zip us)) : Binds K fd ps [] := by
  obtain ⟨oc, od, kV, doc, pm, an, cdv, ct, osl, rfl, lk, hcd⟩ := F.ex
  exact .all (h kV doc pm an cdv ct)
theorem fun_mk {x qual : Str} {st : Stmt} {f : Addr} {oc : Value} {od an : Option Addr} {osl : Array (Option Value)} {kV doc pm cdv ct : Value} (l : K.lookup f = some ⟨oc, od, .func (PySem.W.fnOf x qual (defArgs st) (defBody st) (defScope st) .none kV doc pm an cdv ct), osl⟩)
    (c : PySem.W.codeIn K cdv qual = true) (k : PySem.W.keepIn K (.ref f) = true) : Fun K x qual st f (PySem.W.fnOf x qual (defArgs st) (defBody st) (defScope st) .none kV doc pm an cdv ct) := ⟨⟨oc, od, kV, doc, pm, an, cdv, ct, osl, rfl, l, c⟩, k⟩
end
theorem small1000 {n : Nat} (h : n ≤ 1000) : n < sizeLine := Nat.lt_of_le_of_lt h (by decide)
section
variable {X : Cx}
theorem pv (i : Nat) {x : Str} {pos : Pos} (hN : X.N[i]? = some x := by rfl) (hv : Vis X.env.scope x := by first | exact Or.inl rfl | exact Or.inr (Or.inl rfl) | exact Or.inr (Or.inr rfl)) (hd : (x == ("__debug__" : Str)) = false := by decide)
    (hcd : (x == ("__classdict__" : Str)) = false := by decide) : PE X (.Name x pos) (tVar i) := pe_var hN hv hd hcd
end
theorem iteF {A B : Prop} (h : B) : if false = true then A else B := by
  rw [if_neg Bool.false_ne_true]
  exact h
theorem iteT {A B : Prop} (h : A) : if true = true then A else B := by
  rw [if_pos rfl]
  exact h
theorem iteNS {c A B : Prop} [Decidable c] (hc : c) (h : B) : if (!decide c) = true then A else B := by
  rw [decide_eq_true hc]
  exact iteF h
def Same (H H' : Hp) : Prop := ∀ b o, H b = some o → H' b = some o
theorem Same.refl (H : Hp) : Same H H := fun _ _ h => h
theorem Same.trans {H H1 H2 : Hp} (a : Same H H1) (b : Same H1 H2) : Same H H2 := fun c o h => b c o (a c o h)
theorem Same.free {H H' : Hp} (e : Same H H') {l : Addr} (h : H' l = Option.none) : H l = Option.none := by
  cases q : H l with
  | none => rfl
  | some o =>
    rw [e l o q] at h
    cases h
theorem Same.seq {K : PySem.W.Frag} {H H' : Hp} {a : Addr} {xs : List V} (e : Same H H') (h : SqL K H a xs) : SqL K H' a xs := by
  rcases h with (h | ⟨o, h⟩) | h
  · exact .inl (.inl (e _ _ h))
  · exact .inl (.inr ⟨o, e _ _ h⟩)
  · exact .inr h
open PySem PySem.Spec PyProof.Rows
theorem closure_is {scope : Scope} {env : Env} (h : ∀ y ∈ scope.names, y.2 = .free → ∃ c, env.cells.lookup y.1 = some c) :
    ∃ cl, closureFor scope env = pure cl ∧ (∀ x c, cl.lookup x = some c → env.cells.lookup x = some c ∧ (x, NameKind.free) ∈ scope.names) ∧
      ∀ x, (x, NameKind.free) ∈ scope.names → cl.lookup x = env.cells.lookup x := by
  have key : ∀ (l : List (Str × NameKind)) (cs : List (Str × Addr)), (∀ y ∈ l, y.2 = .free → ∃ c, env.cells.lookup y.1 = some c) →
      ∃ cl, (forIn l cs (fun (x : Str × NameKind) (cs : List (Str × Addr)) => do
          if x.2 == .free then
            let c ← cellOf env x.1
            pure (ForInStep.yield ((x.1, c) :: cs))
          else pure (ForInStep.yield cs)) : Sem (List (Str × Addr))) = pure cl ∧
        (∀ x c, cl.lookup x = some c → (env.cells.lookup x = some c ∧ (x, NameKind.free) ∈ l) ∨ cs.lookup x = some c) ∧
        ∀ x, ((x, NameKind.free) ∈ l → cl.lookup x = env.cells.lookup x) ∧ ((cs.lookup x = env.cells.lookup x) → cl.lookup x = env.cells.lookup x) := by
    intro l
    induction l with
    | nil => intro cs _; exact ⟨cs, rfl, fun x c e => .inr e, fun x => ⟨fun z => absurd z (by simp), fun z => z⟩⟩
    | cons y r ih =>
      intro cs hl
      obtain ⟨n, k⟩ := y
      by_cases hk : k = .free
      · subst hk
        obtain ⟨c, hc⟩ := hl (n, .free) List.mem_cons_self rfl
        obtain ⟨cl, e1, e2, e3⟩ := ih ((n, c) :: cs) fun y hy => hl y (List.mem_cons_of_mem _ hy)
        refine ⟨cl, ?_, fun x d e => ?_, fun x => ⟨fun z => ?_, fun z => ?_⟩⟩
        · rw [List.forIn_cons]
          simp only [beq_self_eq_true, if_true, cellOf, hc]
          exact e1
        · rcases e2 x d e with ⟨z1, z2⟩ | z
          · exact .inl ⟨z1, List.mem_cons_of_mem _ z2⟩
          · rw [List.lookup_cons] at z
            by_cases hx : x == n
            · rw [hx] at z
              have hx' : x = n := by simpa using hx
              subst hx'
              refine .inl ⟨?_, List.mem_cons_self⟩
              rw [hc]; exact z
            · have hx' : (x == n) = false := by simpa using hx
              rw [hx'] at z
              exact .inr z
        · rcases List.mem_cons.mp z with z | z
          · injection z with z1 _
            subst z1
            refine (e3 x).2 ?_
            rw [List.lookup_cons, hc]
            simp
          · exact (e3 x).1 z
        · by_cases hx : x = n
          · subst hx
            refine (e3 x).2 ?_
            rw [List.lookup_cons, hc]
            simp
          · refine (e3 x).2 ?_
            rw [List.lookup_cons]
            have hx' : (x == n) = false := by simpa using hx
            rw [hx']
            exact z
      · obtain ⟨cl, e1, e2, e3⟩ := ih cs fun y hy => hl y (List.mem_cons_of_mem _ hy)
        have hb : (k == NameKind.free) = false := by simpa using hk
        refine ⟨cl, ?_, fun x d e => ?_, fun x => ⟨fun z => ?_, (e3 x).2⟩⟩
        · rw [List.forIn_cons]
          simp only [hb, Bool.false_eq_true, if_false]
          exact e1
        · rcases e2 x d e with ⟨z1, z2⟩ | z
          · exact .inl ⟨z1, List.mem_cons_of_mem _ z2⟩
          · exact .inr z
        · rcases List.mem_cons.mp z with z | z
          · injection z with _ z2
            exact absurd z2.symm hk
          · exact (e3 x).1 z
  obtain ⟨cl, e1, e2, e3⟩ := key scope.names [] h
  refine ⟨cl, ?_, fun x c e => ?_, fun x z => (e3 x).1 z⟩
  · unfold closureFor
    have := e1
    simpa using this
  · rcases e2 x c e with z | z
    · exact z
    · simp at z
theorem lookup_relabel {env : Env} (hk : env.scope.kind = .function) : ∀ {names : List (Str × NameKind)} {x : Str} {k : NameKind}, names.lookup x = some k → k ≠ .free →
    (names.map fun (n, k) => if (k == NameKind.free && env.scope.kind == .function && env.kindOf n == some .cell) then (n, NameKind.cell) else (n, k)).lookup x = some k
  | [], _, _, h, _ => by simp at h
  | (n, k') :: r, x, k, h, hf => by
    have ih := @lookup_relabel env hk r x k
    show List.lookup x ((if (k' == NameKind.free && env.scope.kind == .function && env.kindOf n == some .cell) = true then (n, NameKind.cell) else (n, k')) :: _) = _
    cases hx : x == n with
    | true =>
      simp only [List.lookup_cons, hx] at h
      cases h
      have : (k' == NameKind.free) = false := by simpa using hf
      simp [List.lookup_cons, hx, this]
    | false =>
      simp only [List.lookup_cons, hx] at h
      by_cases hc : (k' == NameKind.free && env.scope.kind == .function && env.kindOf n == some .cell) = true
      · rw [if_pos hc]; simp only [List.lookup_cons, hx]; exact ih h hf
      · rw [if_neg hc]; simp only [List.lookup_cons, hx]; exact ih h hf
theorem lookup_relabel_free {env : Env} (hk : env.scope.kind = .function) : ∀ {names : List (Str × NameKind)} {x : Str}, names.lookup x = some .free → env.kindOf x = some .cell →
    (names.map fun (n, k) => if (k == NameKind.free && env.scope.kind == .function && env.kindOf n == some .cell) then (n, NameKind.cell) else (n, k)).lookup x = some .cell
  | [], _, h, _ => by simp at h
  | (n, k') :: r, x, h, hc => by
    have ih := @lookup_relabel_free env hk r x
    show List.lookup x ((if (k' == NameKind.free && env.scope.kind == .function && env.kindOf n == some .cell) = true then (n, NameKind.cell) else (n, k')) :: _) = _
    cases hx : x == n with
    | true =>
      simp only [List.lookup_cons, hx] at h
      cases h
      have hxn : x = n := by simpa using hx
      subst hxn
      simp [List.lookup_cons, hk, hc]
    | false =>
      simp only [List.lookup_cons, hx] at h
      by_cases hd : (k' == NameKind.free && env.scope.kind == .function && env.kindOf n == some .cell) = true
      · rw [if_pos hd]; simp only [List.lookup_cons, hx]; exact ih h hc
      · rw [if_neg hd]; simp only [List.lookup_cons, hx]; exact ih h hc
def cxComp (X : Cx) (Nc : List Str) (scope : Scope) (cl : List (Str × Addr)) (C : Addr) (fp : List Addr) (s : Shared) (H : Hp) : Cx where
  prog := X.prog
  w := X.w
  K := X.K
  mg := X.mg
  base := X.base
  A := X.A
  N := Nc
  s₀ := s
  H₀ := H
  env := compEnvC scope cl C X.env
  outer := X.stack
  stack := X.stack
  ex := fp
  fn := fun _ => false
  calm := X.calm
  pn := []
  xe := fun _ _ => False
def capV (σ : St) (caps : List Nat) : St := caps.map fun j => (σ[j]?).join
structure CompOk (X : Cx) (x : Str) (Nc : List Str) (caps : List Nat) (scope : Scope) : Prop where
  kind : scope.kind = .function
  cell : ∀ y ∈ scope.names, y.2 ≠ .cell
  names : ∀ y ∈ scope.names, y.2 = .local → scope.names.lookup y.1 = some .local
  fr : ∀ y ∈ scope.names, y.2 = .free → X.env.scope.names.lookup y.1 = some .cell ∧ scope.names.lookup y.1 = some .free
  loc : scope.names.lookup x = some .local
  len : Nc.length = caps.length + 1
  hd : Nc[0]? = some x
  nd : Nc.Nodup
  cap : ∀ k j, caps[k]? = some j → ∃ y, Nc[k + 1]? = some y ∧ X.N[j]? = some y ∧ scope.names.lookup y = some .free
theorem compLoop_any {prog : Program} {w : World} {A : Around} {R : Result → Shared → Prop} {s : Shared} {elt target iter : Expr} {ifs : List Expr} {scope : Scope} {pos : Pos} {it acc : Value} {env : Env} (I : Nat → Shared → Prop)
    (turn : ∀ n s, I n s → wpAny (model prog w) A (pyNext it) (fun r s₁ => match r with
      | none => R (.ok .next) s₁
      | some v => wpAny (model prog w) A (letOwnedTupleGo target it v) (fun _ s1' => wpAny (model prog w) A (assign target env v) (fun _ s₂ =>
          wpAny (model prog w) A (forIn ifs true fun c r => if r = true then do let ok ← isTrue c env (eval c env); pure (ForInStep.yield ok) else pure (ForInStep.yield r)) (fun ok s₃ =>
            if ok = true then wpAny (model prog w) A (eval elt env) (fun x s₄ =>
              wpAny (model prog w) A (call (.builtin "list.append") [acc, x]) (fun _ s₅ => ∃ m, m < n ∧ I m s₅) (notedBy (model prog w) A env fun e s' => R (.error e) s') s₄) (notedBy (model prog w) A env fun e s' => R (.error e) s') s₃
            else ∃ m, m < n ∧ I m s₃) (notedBy (model prog w) A env fun e s' => R (.error e) s') s₂) (notedBy (model prog w) A env fun e s' => R (.error e) s') s1') (notedBy (model prog w) A env fun e s' => R (.error e) s') s₁) (notedBy (model prog w) A env fun e s' => R (.error e) s') s)
    (n : Nat) (h : I n s) :
    codeAny (model prog w) A (.compLoop (.ListComp elt [⟨target, iter, ifs, 0⟩] scope pos) 0 it acc env) R s := by
  refine codeAny_loop rfl I (fun n s hI => ?_) n h
  show wpAny _ A ((compTurn (.ListComp elt [⟨target, iter, ifs, 0⟩] scope pos) 0 it acc env).onRaise (fun x => do noteFrame x env; theTreesLotGoes x)) _ _ s
  refine wpAny_noted ?_
  rw [compTurn_list]
  refine wpAny_bind (wpAny_standAt (wpAny_bind (wpAny_mono (turn n s hI) (fun r s₁ h₁ => ?_) fun _ _ h' => h')))
  cases r with
  | none => exact wpAny_pure h₁
  | some v =>
    refine wpAny_bind (wpAny_mono h₁ (fun _ s1' h₁ => ?_) fun _ _ h' => h')
    refine wpAny_bind (wpAny_mono h₁ (fun _ s₂ h₂ => wpAny_bind (wpAny_mono h₂ (fun ok s₃ h₃ => ?_) fun _ _ h' => h')) fun _ _ h' => h')
    cases ok with
    | false => exact wpAny_pure ⟨rfl, h₃⟩
    | true =>
      exact wpAny_bind (wpAny_bind (wpAny_mono h₃ (fun x s₄ h₄ => wpAny_bind (wpAny_mono h₄ (fun _ s₅ h₅ => wpAny_pure (wpAny_pure ⟨rfl, h₅⟩)) fun _ _ h' => h')) fun _ _ h' => h'))
def tNoTest : TT := fun _ H Q => Q true H
inductive PIf (X : Cx) : List Expr → TT → Prop where
  | nil : PIf X [] tNoTest
  | one {c : Expr} {t : TT} (h : PT X c t) : PIf X [c] t
theorem PIf.run {X : Cx} {ifs : List Expr} {t : TT} (h : PIf X ifs t) {pins : List (Addr × Obj)} {s : Shared} {σ : St} {H : Hp} {Q : Bool → Hp → Prop} (I : Inv X pins σ H s) (ht : t σ H Q) :
    wpAny (model X.prog X.w) X.A (forIn ifs true fun c r => if r = true then do let ok ← isTrue c X.env (eval c X.env); pure (ForInStep.yield ok) else pure (ForInStep.yield r)) (TP X pins σ Q) X.xe s := by
  cases h with
  | nil => exact wpAny_tests_nil ⟨H, I, ht⟩
  | one h => exact wpAny_tests_one (h pins s σ H Q I ht)
def tCompW (caps : List Nat) (tc : TT) (te : TE) (J : It) (σ : St) (H : Hp) (Q : VK) : Prop :=
  ∃ W : Nat → Nat → List V → Hp → Prop, (∃ m, W 0 m [] H) ∧ ∀ i m ys H, W i m ys H →
    (J.stop i H ∧ ys.length ≤ sizeLine ∧ ∀ p, H p = none → Q (.ref p) (upd H p (.lst ys))) ∨
    (J.go i H ∧ ys.length < sizeLine ∧ ∀ x H', J.yld i H x H' → tc (some x :: capV σ caps) H' fun b H2 =>
      if b = true then te (some x :: capV σ caps) H2 fun y H3 => ∃ m', m' < m ∧ W (i + 1) m' (ys ++ [y]) H3 else ∃ m', m' < m ∧ W (i + 1) m' ys H2)
def tComp (wi : TI) (caps : List Nat) (tc : TT) (te : TE) : TE := fun σ H Q => wi σ H fun J H1 => tCompW caps tc te J σ H1 Q
section
variable {X : Cx} {pins : List (Addr × Obj)} {σ : St} {H : Hp} {s : Shared}
theorem Un.track {fs ex : List Addr} {H H' : Hp} {h h' : Heap} {a : Addr} {o : HO} (u : Un fs ex H H' h h') (ha : h.objs.size ≤ a) (hn : H' a = none) : Un fs ex H (upd H' a o) h h' where
  keep := u.keep
  slot := u.slot
  free := fun b ob q n hx => by rw [upd_ne (Nat.ne_of_lt (Nat.lt_of_lt_of_le (Heap.lt_size q) ha))]; exact u.free b ob q n hx
  there := u.there
  tups := fun b xs q => by rw [upd_ne (ne_of_none (u.tups b xs q) hn)]; exact u.tups b xs q
  frzs := fun b ob xs q => by rw [upd_ne (ne_of_none (u.frzs b ob xs q) hn)]; exact u.frzs b ob xs q
  tbls := fun b ps q => by
    obtain ⟨m, e⟩ := u.tbls b ps q
    exact ⟨m, by rw [upd_ne (ne_of_none e hn)]; exact e⟩
theorem HOk.track {P : Program} {w : World} {H : Hp} {h : Heap} {a : Addr} {o : HO} (x : HOk P w H h) (hn : H a = none) (new : ObjOk P w (upd H a o) h a o) : HOk P w (upd H a o) h := fun b u e => by
  by_cases hb : b = a
  · subst hb; rw [upd_same] at e; cases e; exact new
  · rw [upd_ne hb] at e
    exact (x b u e).stay (fun c v _ q => q) (fun c q => by rw [upd_ne (ne_of_none q hn)]; exact q) fun c xs q => by rw [upd_ne (ne_of_none q hn)]; exact q
theorem comp_ok {x : Str} {Nc : List Str} {caps : List Nat} {scope : Scope} {cl : List (Str × Addr)} {C : Addr} {fp : List Addr} (I : Inv X pins σ H s) (O : CompOk X x Nc caps scope)
    (hcl : ∀ x c, cl.lookup x = some c → X.env.cells.lookup x = some c ∧ (x, NameKind.free) ∈ scope.names) (hcl2 : ∀ x, (x, NameKind.free) ∈ scope.names → cl.lookup x = X.env.cells.lookup x)
    (hC : s.heap.objs.size ≤ C) (hfp : ∀ b ∈ fp, FpOk X pins H b) (hfo : ∀ b ∈ fp, b < s.heap.objs.size) : (cxComp X Nc scope cl C fp s H).Ok where
  mod := I.ok.mod
  kind := O.kind
  glob := I.ok.glob
  blt := I.ok.blt
  above := hC
  inj := fun a b c e1 e2 => I.ok.inj a b c (hcl a c e1).1 (hcl b c e2).1
  has := fun y hy => by
    have mem : (y, NameKind.free) ∈ scope.names := by
      have hy' : ((relabel scope X.env).names.lookup y = some .cell) ∨ ((relabel scope X.env).names.lookup y = some .free) := hy
      have hm : ∃ k, (y, k) ∈ (relabel scope X.env).names ∧ (k = .cell ∨ k = .free) := by
        rcases hy' with h | h
        · exact ⟨_, PySem.mem_of_lookup h, .inl rfl⟩
        · exact ⟨_, PySem.mem_of_lookup h, .inr rfl⟩
      obtain ⟨k, hm, hk⟩ := hm
      obtain ⟨⟨n, k'⟩, hm', e⟩ := List.mem_map.mp hm
      dsimp only at e
      by_cases hc : (k' == NameKind.free && X.env.scope.kind == .function && X.env.kindOf n == some .cell) = true
      · rw [if_pos hc] at e
        injection e with e1 _
        subst e1
        have : k' = .free := by
          have := (Bool.and_eq_true _ _ ▸ (Bool.and_eq_true _ _ ▸ hc).1).1
          simpa using this
        subst this
        exact hm'
      · rw [if_neg hc] at e
        injection e with e1 e2
        subst e1 e2
        rcases hk with hk | hk
        · subst hk; exact absurd rfl (O.cell _ hm')
        · subst hk; exact hm'
    obtain ⟨c, e⟩ := I.ok.has y (.inl (O.fr _ mem rfl).1)
    exact ⟨c, (hcl2 y mem).trans e⟩
  cab := fun _ _ z => nomatch z
  hd := I.ok.hd
  frames := I.ok.frames
  stk := .inl rfl
  exf := fun b hb => ⟨Nat.ne_of_lt (Nat.lt_of_lt_of_le (hfo b hb) hC), fun y c e => (hfp b hb).2.2.2.2.1 y c (hcl y c e).1⟩
  bs := I.bs
  bsz := Nat.le_trans I.ok.bsz I.sz
  noex := fun b o e hb => by
    rcases (hfp b hb).2.2.2.1 with z | z
    · exact I.ok.noex b o e z
    · exact absurd (Nat.lt_of_lt_of_le (Heap.lt_size e) (Nat.le_trans I.ok.bsz z)) (Nat.lt_irrefl _)
  exfs := fun b hb z => by
    rcases List.mem_cons.mp (I.stkSub b z) with e | e
    · exact (hfp b hb).2.1 e
    · exact (hfp b hb).2.2.1 e
  funs := I.stack
  frf := I.stkFree
end
open PySem PySem.Spec PyProof.Rows
section
variable {X : Cx} {pins : List (Addr × Obj)} {σ : St} {H : Hp} {s : Shared}
theorem capV_len (σ : St) (caps : List Nat) : (capV σ caps).length = caps.length := by unfold capV; rw [List.length_map]
theorem capV_get {σ : St} {caps : List Nat} {k : Nat} {v : V} (e : (capV σ caps)[k]? = some (some v)) : ∃ j, caps[k]? = some j ∧ σ[j]? = some (some v) := by
  unfold capV at e
  rw [List.getElem?_map] at e
  cases hk : caps[k]? with
  | none => rw [hk] at e; cases e
  | some j =>
    rw [hk] at e
    have e' : (σ[j]?).join = some v := Option.some.inj e
    refine ⟨j, rfl, ?_⟩
    cases hj : σ[j]? with
    | none => rw [hj] at e'; cases e'
    | some o => rw [hj] at e'; rw [show o = some v from e']
theorem Un.but {fs ex : List Addr} {H H' : Hp} {h h1 h2 : Heap} {C : Addr} (u : Un fs ex H H' h h1) (hs : Heap.SameBut C h1 h2) (hC : h.objs.size ≤ C) : Un fs ex H H' h h2 where
  keep := fun b o q n hb hx => (hs.2 b (Nat.ne_of_lt (Nat.lt_of_lt_of_le (Heap.lt_size q) hC))).trans (u.keep b o q n hb hx)
  slot := fun b o q n hb hx => by
    obtain ⟨sl, e⟩ := u.slot b o q n hb hx
    exact ⟨sl, (hs.2 b (Nat.ne_of_lt (Nat.lt_of_lt_of_le (Heap.lt_size q) hC))).trans e⟩
  free := u.free
  there := fun b o q hx => by
    obtain ⟨o', e⟩ := u.there b o q hx
    exact ⟨o', (hs.2 b (Nat.ne_of_lt (Nat.lt_of_lt_of_le (Heap.lt_size q) hC))).trans e⟩
  tups := u.tups
  frzs := u.frzs
  tbls := u.tbls
theorem comp_start {x : Str} {Nc : List Str} {caps : List Nat} {scope : Scope} {cl : List (Str × Addr)} {C : Addr} {fp : List Addr} {h' : Heap} {tk : Nat} {m0 : Str → Option Value} (I : Inv X pins σ H s) (O : CompOk X x Nc caps scope)
    (hcl : ∀ x c, cl.lookup x = some c → X.env.cells.lookup x = some c ∧ (x, NameKind.free) ∈ scope.names) (hcl2 : ∀ x, (x, NameKind.free) ∈ scope.names → cl.lookup x = X.env.cells.lookup x)
    (hC : s.heap.objs.size ≤ C) (hfp : ∀ b ∈ fp, FpOk X pins H b) (hfo : ∀ b ∈ fp, b < s.heap.objs.size)
    (old : ∀ b o, s.heap.get? b = some o → h'.get? b = some o) (hns : h'.Ns C m0) :
    Inv (cxComp X Nc scope cl C fp s H) [] (none :: capV σ caps) H { s with heap := h', toks := tk } where
  ok := comp_ok I O hcl hcl2 hC hfp hfo
  os := rfl
  bare := I.bare
  base := Un.kept old
  loc := by
    refine ⟨m0, hns, fun i y v hN hσ hv => ?_⟩
    cases i with
    | zero => simp at hσ
    | succ k =>
      rw [List.getElem?_cons_succ] at hσ
      obtain ⟨j, hj, hs⟩ := capV_get hσ
      obtain ⟨z, hz1, hz2, hz3⟩ := O.cap k j hj
      have hN' : Nc[k + 1]? = some y := hN
      rw [hz1] at hN'
      cases hN'
      have mem : (y, NameKind.free) ∈ scope.names := PySem.mem_of_lookup hz3
      have hk := (O.fr _ mem rfl).1
      obtain ⟨m, hn, hl⟩ := I.loc
      obtain ⟨u, r, l⟩ := hl j y v hz2 hs (.inr (.inl hk))
      refine ⟨u, r, ?_⟩
      rcases l with ⟨k', _⟩ | ⟨_, c, hc, z⟩
      · have k'' : X.env.scope.names.lookup y = some .local := k'
        rw [hk] at k''; cases k''
      · obtain ⟨o, ho, hd⟩ := z
        exact .inr ⟨.inl (lookup_relabel_free I.ok.kind hz3 hk), c, (hcl2 y mem).trans hc, o, old _ _ ho, hd⟩
  cell := fun y c e => by
    obtain ⟨v, o, ho, hd⟩ := I.cell y c (hcl y c e).1
    exact ⟨v, o, old _ _ ho, hd⟩
  free := I.hok.fresh hC
  freeC := fun y c e => I.freeC y c (hcl y c e).1
  pin := fun p hp => absurd (show p ∈ ([] : List (Addr × Obj)) from hp) (by simp)
  hok := I.hok.kept old
  len := by
    show (none :: capV σ caps).length = Nc.length
    rw [List.length_cons, capV_len, O.len]
abbrev rawL (us : List Value) (n : Nat) : Obj := { cls := .type "list", data := .seq us.toArray n }
theorem comp_fr {X : Cx} {sc0 scope : Scope} (h : X.env.scope = sc0) (hd : ∀ y ∈ scope.names, y.2 = .free → sc0.names.lookup y.1 = some .cell ∧ scope.names.lookup y.1 = some .free) :
    ∀ y ∈ scope.names, y.2 = .free → X.env.scope.names.lookup y.1 = some .cell ∧ scope.names.lookup y.1 = some .free := by
  rw [h]
  exact hd
theorem comp_block {x : Str} {px : Pos} {Nc : List Str} {caps : List Nat} {scope : Scope} {cl : List (Str × Addr)} {iter elt : Expr} {ifs : List Expr} {pos : Pos} {tc : TT} {te : TE} {Q : VK} {it : Addr} {fp : List Addr} {tn : Nat → Heap → Prop} {J : It}
    {RR : Value → Addr → Result → Shared → Prop} {E : Value → Shared → Prop}
    (O : CompOk X x Nc caps scope) (hc : X.calm = true)
    (hcl : ∀ x c, cl.lookup x = some c → X.env.cells.lookup x = some c ∧ (x, NameKind.free) ∈ scope.names) (hcl2 : ∀ x, (x, NameKind.free) ∈ scope.names → cl.lookup x = X.env.cells.lookup x)
    (hte : ∀ C fp s H, PE (cxComp X Nc scope cl C fp s H) elt te) (htc : ∀ C fp s H, PIf (cxComp X Nc scope cl C fp s H) ifs tc)
    (I : Inv X pins σ H s) (T : Turn X.prog X.w X.K (.Name x px) J fp it tn) (st : tn 0 s.heap) (hfp : ∀ b ∈ fp, FpOk X pins H b) (h : tCompW caps tc te J σ H Q)
    (hRR : ∀ (D C : Addr) (s' : Shared) (m : Str → Option Value), s'.heap.Ns C m → (∀ h', Heap.SameBut C s'.heap h' → ∃ H', Inv X pins σ H' { s' with heap := h' } ∧ H' C = none ∧ Q (.ref D) H') →
      s.heap.objs.size ≤ C → RR (.ref D) C (.ok .next) s') :
    wpAny (model X.prog X.w) X.A (newList []) (fun acc s₃ => wpAny (model X.prog X.w) X.A (newFunctionEnv scope X.env.globals cl [] X.env.qual none .none (some X.env)) (fun cenv s₄ =>
      codeAny (model X.prog X.w) X.A (.compStart (.ListComp elt [⟨.Name x px, iter, ifs, 0⟩] scope pos) 0 (.ref it) acc { cenv with scope := relabel scope X.env }) (RR acc cenv.locals) s₄) E s₃) E s := by
  refine wpAny_newObj_type (wpAny_newFunctionEnv O.cell (by intro y hy; simp at hy) (fun h₁ hns₁ hsb₁ => ?_) O.kind)
  dsimp only at hns₁ hsb₁ ⊢
  generalize hH2 : s.heap.push { cls := .type "list", dict := none, data := .seq ([] : List Value).toArray } = H2 at hns₁ hsb₁ ⊢
  have hC : H2.objs.size = s.heap.objs.size + 1 := by rw [← hH2, Heap.size_push]
  have hCle : s.heap.objs.size ≤ H2.objs.size := by rw [hC]; exact Nat.le_succ _
  have hDC : s.heap.objs.size ≠ H2.objs.size := by rw [hC]; exact Nat.ne_of_lt (Nat.lt_succ_self _)
  have below : ∀ b, b < s.heap.objs.size → b ≠ H2.objs.size ∧ b ≠ s.heap.objs.size := fun b hb => ⟨by rw [hC]; exact Nat.ne_of_lt (Nat.lt_succ_of_lt hb), Nat.ne_of_lt hb⟩
  have old : ∀ b o, s.heap.get? b = some o → h₁.get? b = some o := fun b o e => hsb₁.extBut b o (below b (Heap.lt_size e)).1 (Heap.get?_push_of_some _ (hH2 ▸ Heap.get?_push_of_some _ e))
  have hacc : h₁.get? s.heap.objs.size = some (rawL [] 0) := hsb₁.extBut _ _ hDC (Heap.get?_push_of_some _ (hH2 ▸ Heap.get?_push_size _ rfl))
  have hfo : ∀ b ∈ fp, b < s.heap.objs.size := fun b hb => by
    obtain ⟨o, e, _⟩ := T.obj _ _ st b hb
    exact Heap.lt_size e
  have st1 : tn 0 h₁ := T.keep _ _ _ st fun b _ o e => old b o e
  generalize hDD : s.heap.objs.size = D at *
  generalize hCC : H2.objs.size = C at *
  have DleC : D ≤ C := hCle
  let Y : Cx := cxComp X Nc scope cl C fp s H
  have I0 : Inv Y [] (none :: capV σ caps) H { s with heap := h₁, toks := s.toks + ([] : List (Str × Value)).length } := comp_start I O hcl hcl2 (by rw [hDD]; exact hCle) hfp (fun b hb => by rw [hDD]; exact hfo b hb) old hns₁
  have Dfree : H D = none := by rw [← hDD]; exact I.hok.fresh (Nat.le_refl _)
  have DneC : D ≠ C := hDC
  have Dfs : D ∉ Y.fs := fun z => by
    have := I.stack.mem (show D ∈ frs X.stack from z)
    obtain ⟨_, o, e, _⟩ := this
    have := Heap.lt_size e
    rw [hDD] at this
    exact Nat.lt_irrefl _ this
  have Dcell : ∀ y c, Y.env.cells.lookup y = some c → c ≠ D := fun y c e z => by
    obtain ⟨v, q⟩ := I.cell y c (hcl y c e).1
    have := q.lt
    rw [z, hDD] at this
    exact Nat.lt_irrefl _ this
  have Dfp : ∀ b ∈ fp, b ≠ D := fun b hb => Nat.ne_of_lt (hfo b hb)
  have fpY : ∀ {H' : Hp}, (∀ b ∈ fp, H' b = none) → ∀ b ∈ fp, FpOk Y [] H' b := fun hn b hb =>
    ⟨hn b hb, Nat.ne_of_lt (Nat.lt_of_lt_of_le (hfo b hb) DleC), fun z => I0.ok.exfs b hb z, .inl hb, fun y c e => (I0.ok.exf b hb).2 y c e, fun p hp => absurd (show p ∈ ([] : List (Addr × Obj)) from hp) (by simp)⟩
  obtain ⟨W, ⟨m0, w0⟩, turn⟩ := h
  have loop : ∀ s₃ : Shared, s₃ = { s with heap := h₁, toks := s.toks + ([] : List (Str × Value)).length } →
      codeAny (model X.prog X.w) X.A (.compLoop (.ListComp elt [⟨.Name x px, iter, ifs, 0⟩] scope pos) 0 (.ref it) (.ref D) (compEnvC scope cl C X.env)) (RR (.ref D) C) s₃ := by
    rintro s₃ rfl
    refine compLoop_any (fun n s' => ∃ (i : Nat) (o : Option V) (H' : Hp) (ys : List V) (us : List Value) (k : Nat), Inv Y [] (o :: capV σ caps) H' s' ∧ tn i s'.heap ∧ (∀ b ∈ fp, H' b = none) ∧ s'.heap.get? D = some (rawL us k) ∧ H' D = none ∧ Vals ys us ∧ W i n ys H')
      ?_ m0 ⟨0, none, H, [], [], 0, I0, st1, fun b hb => (hfp b hb).1, hacc, Dfree, .nil, w0⟩
    rintro n s3 ⟨i, o3, H3, ys, us, k, I3, st3, fr3, hD3, nD3, rv, w3⟩
    have fpP : ∀ {H' : Hp} {ob : Obj}, (∀ b ∈ fp, H' b = none) → ∀ b ∈ fp, FpOk Y [(D, ob)] H' b := fun hn b hb => by
      obtain ⟨g0, g1, g2, g3, g4, _⟩ := fpY hn b hb
      refine ⟨g0, g1, g2, g3, g4, fun p hp => ?_⟩
      have e : p = (D, _) := List.mem_singleton.mp (show p ∈ [(D, _)] from hp)
      rw [e]
      exact Ne.symm (Dfp b hb)
    have IP : Inv Y [(D, rawL us k)] (o3 :: capV σ caps) H3 s3 := I3.pins_of fun p hp => by
      have e : p = (D, rawL us k) := List.mem_singleton.mp hp
      subst e
      exact ⟨hD3, nD3, DneC, Dfs, fun v z => by cases z⟩
    have pinD : ∀ {σ' : St} {H' : Hp} {s' : Shared} {pl : List (Addr × Obj)}, Inv Y ([(D, rawL us k)] ++ pl) σ' H' s' → s'.heap.get? D = some (rawL us k) ∧ H' D = none := fun I' => by
      have z := I'.pin (D, rawL us k) (List.mem_append_right _ (List.mem_append_left _ List.mem_cons_self))
      exact ⟨z.1, z.2.1⟩
    rcases turn i n ys H3 w3 with ⟨stop, hlen, fin⟩ | ⟨go, hlen, step⟩
    ·
      refine wpAny_mono (T.done Y rfl rfl rfl hc i _ s3 _ H3 (fun _ _ => False) IP (fpP fr3) st3 stop) (fun r s4 hr => ?_) fun _ _ z => z.elim
      obtain ⟨hr, I4⟩ := hr
      subst hr
      obtain ⟨gD, nD⟩ := pinD (pl := []) (by simpa using I4)
      obtain ⟨m, hn, _⟩ := I4.loc
      refine hRR D C s4 m hn (fun h' hs' => ⟨upd H3 D (.lst ys), ?_, (upd_ne (Ne.symm DneC)).trans I4.free, fin D nD⟩) hCle
      have nt : ∀ b ob, H3 b = some ob → b ≠ C := fun b ob e z => by
        have := I4.free
        rw [z] at e
        rw [show H3 C = none from this] at e
        cases e
      have u1 : Un (frs X.stack) fp H H3 s.heap h' := Un.but I4.base hs' (show s.heap.objs.size ≤ C by rw [hDD]; exact hCle)
      have ok1 : HOk X.prog X.w H3 h' := fun b ob e => (I4.hok b ob e).stay (fun c v hc q => (hs'.2 c (by
        rcases hc with z | z
        · rw [z]; exact nt b ob e
        · exact nt c _ z)).trans q) (fun _ q => q) fun _ _ q => q
      have gD' : h'.get? D = some (rawL us k) := (hs'.2 D DneC).trans gD
      exact I.call' (s' := { s4 with heap := h' }) (ch := fp) I4.os (u1.track (Nat.le_of_eq hDD) nD) (ok1.track nD ⟨hlen, us, k, rv, gD'⟩) I4.bare fun b hb => by
        obtain ⟨_, g1, _, g3, g4, g5⟩ := hfp b hb
        exact ⟨g3, g1, g4, g5⟩
    ·
      refine wpAny_mono (T.item Y rfl rfl rfl hc i _ s3 _ H3 (fun _ _ => False) IP (fpP fr3) st3 go) (fun r s4 hr => ?_) fun _ _ z => z.elim
      obtain ⟨u0, hr, h4⟩ := hr
      subst hr
      refine wpAny_mono h4 (fun _ s5 h5 => ?_) fun _ _ z => z.elim
      obtain ⟨x5, H5, I5, r5, y5, st5, fr5⟩ := h5
      have I5' := I5.pinned (fpP fr5) (T.obj _ _ st5)
      have tgt : PG Y (.Name x px) (gName 0) := pg_name (i := 0) O.nd O.hd (.inl (lookup_relabel I.ok.kind O.loc (by intro z; cases z))) (.inr (lookup_relabel I.ok.kind O.loc (by intro z; cases z)))
      refine wpAny_mono (tgt _ s5 _ H5 x5 u0 (fun σ2 H2 => σ2 = some x5 :: capV σ caps ∧ H2 = H5) I5' r5 ⟨rfl, rfl⟩) (fun _ s6 h6 => ?_) fun _ _ z => z.elim
      obtain ⟨_, _, I6, rfl, rfl⟩ := h6
      refine wpAny_mono ((htc C fp s H).run I6 (step x5 _ y5)) (fun b s7 h7 => ?_) fun _ _ z => z.elim
      obtain ⟨H7, I7, q7⟩ := h7
      have keepT : ∀ {σ' : St} {H' : Hp} {s' : Shared}, Inv Y ([(D, rawL us k)] ++ pinsAt fp s5.heap) σ' H' s' → tn (i + 1) s'.heap ∧ ∀ b ∈ fp, H' b = none := fun I' =>
        ⟨T.keep _ _ _ st5 fun b hb o e => (I'.pin (b, o) (List.mem_append_right _ (List.mem_append_right _ (mem_pinsAt hb e)))).1, fun b hb => by
          obtain ⟨o, e, d⟩ := T.obj _ _ st5 b hb
          exact (I'.pin (b, o) (List.mem_append_right _ (List.mem_append_right _ (mem_pinsAt hb e)))).2.1⟩
      cases b with
      | false =>
        rw [if_neg Bool.false_ne_true] at q7
        rw [if_neg Bool.false_ne_true]
        obtain ⟨m', hm, w7⟩ := q7
        obtain ⟨gD, nD⟩ := pinD I7
        obtain ⟨k1, k2⟩ := keepT I7
        exact ⟨m', hm, i + 1, some x5, H7, ys, us, k, I7.pins_of (fun p hp => nomatch hp), k1, k2, gD, nD, rv, w7⟩
      | true =>
        rw [if_pos rfl] at q7
        rw [if_pos rfl]
        refine wpAny_mono (hte C fp s H _ s7 _ H7 _ I7 q7) (fun u8 s8 h8 => ?_) fun _ _ z => z.elim
        obtain ⟨y8, H8, I8, r8, m', hm, w8⟩ := h8
        obtain ⟨gD, nD⟩ := pinD I8
        obtain ⟨k1, k2⟩ := keepT I8
        refine call_meets F.slot_list_append ⟨_, gD, rfl⟩ F.entry_list_append (F.args_list_append_2 _ _) (PySem.list_append D us.toArray k u8 (by rw [List.size_toArray, ← rv.length]; omega)) ⟨gD, ?_⟩
        have q := PySem.IsL.update gD (·.push u8)
        have e1 : us.toArray.push u8 = (us ++ [u8]).toArray := by simp
        rw [e1] at q
        have I8' : Inv Y [] (some x5 :: capV σ caps) H8 s8 := I8.pins_of (fun p hp => nomatch hp)
        have I9 : Inv Y [] (some x5 :: capV σ caps) H8 { s8 with heap := s8.heap.update D (Obj.mapSeq (·.push u8)), toks := s8.toks } :=
          I8'.turned (it := D) (fun b o hb e => (Heap.get?_update_other s8.heap (Obj.mapSeq (·.push u8)) (Ne.symm hb)).trans e) nD DneC (.inr (Nat.le_of_eq hDD)) Dcell (fun p hp => nomatch hp)
        refine ⟨m', hm, i + 1, some x5, H8, ys ++ [y8], us ++ [u8], _, I9, T.keep _ _ _ k1 fun b hb o e => (Heap.get?_update_other s8.heap (Obj.mapSeq (·.push u8)) (Ne.symm (Dfp b hb))).trans e, k2, q, nD, rv.append (.cons r8 .nil), w8⟩
  exact codeAny_compStart_list (loop _ rfl) (T.self X.A 0 _ _ _ st1 (loop _ rfl))
theorem pe_comp {x : Str} {px pos : Pos} {Nc : List Str} {caps : List Nat} {scope : Scope} {iter elt : Expr} {ifs : List Expr} {wi : TI} {tc : TT} {te : TE} (O : CompOk X x Nc caps scope) (hc : X.calm = true) (hi : PI X (.Name x px) iter wi)
    (htc : ∀ cl C fp s H, PIf (cxComp X Nc scope cl C fp s H) ifs tc) (hte : ∀ cl C fp s H, PE (cxComp X Nc scope cl C fp s H) elt te) (hs : ∀ x, foldedSetIterable iter X.env x = pure x := by intro _; rfl) :
    PE X (.ListComp elt [⟨.Name x px, iter, ifs, 0⟩] scope pos) (tComp wi caps tc te) := by
  intro pins s σ H Q I h
  rw [eval_ListComp]
  obtain ⟨cl, e1, e2, e3⟩ := closure_is (scope := scope) (env := X.env) fun y hy hf => I.ok.has y.1 (.inl (O.fr y hy hf).1)
  refine wpAny_comprehension_free (use := none) rfl hs e1 O.kind O.names (thn (hi pins s σ H _ I h) fun v s1 h1 => thn h1 fun itv s2 h2 => ?_)
  obtain ⟨it, fp, tn, J, H2, e, I2, T, st2, f2, w2⟩ := h2
  subst e
  refine comp_block (RR := fun acc C => compPost (model X.prog X.w) X.A X.xe none (EP X pins σ Q) acc C) O hc e2 e3 (hte cl) (htc cl) I2 T st2 f2 w2 ?_
  intro D C s' m hn hq hC
  refine ⟨m, hn, fun h' hs' => ?_⟩
  obtain ⟨H', I', _, q⟩ := hq h' hs'
  exact ⟨.ref D, H', I', rfl, q⟩
theorem ps_setC {i : Nat} {y x : Str} {px py pos spos : Pos} {Nc : List Str} {caps : List Nat} {scope : Scope} {iter elt : Expr} {ifs : List Expr} {wi : TI} {tc : TT} {te : TE} (O : CompOk X x Nc caps scope) (hc : X.calm = true)
    (hN : X.N.Nodup) (hy : X.N[i]? = some y) (hx : X.env.scope.names.lookup y = some .local) (hi : PI X (.Name x px) iter wi)
    (htc : ∀ cl C fp s H, PIf (cxComp X Nc scope cl C fp s H) ifs tc) (hte : ∀ cl C fp s H, PE (cxComp X Nc scope cl C fp s H) elt te)
    (hsw : swapsWith (.ListComp elt [⟨.Name x px, iter, ifs, 0⟩] scope pos) (some (.Name y py)) spos.line X.env = pure true) (hs : ∀ x, foldedSetIterable iter X.env x = pure x := by intro _; rfl) :
    PS X (.Assign [.Name y py] (.ListComp elt [⟨.Name x px, iter, ifs, 0⟩] scope pos) spos) (tAsg (tComp wi caps tc te) (gName i)) := by
  intro pins s σ H Dn I h
  rw [exec_Assign_Name_used _ _ _ _ hsw]
  refine wpAny_bind (wpAny_standAt (wpAny_bind ?_))
  obtain ⟨cl, e1, e2, e3⟩ := closure_is (scope := scope) (env := X.env) fun y hy hf => I.ok.has y.1 (.inl (O.fr y hy hf).1)
  show wpAny _ X.A (do let _ ← comprehension (.ListComp elt [⟨.Name x px, iter, ifs, 0⟩] scope pos) scope X.env _ (newList []) false (eval iter X.env) (some (assign (.Name y py) X.env))) _ _ s
  refine wpAny_bind (wpAny_mono (wpAny_comprehension_free (use := some (assign (.Name y py) X.env)) (Q := fun _ s' => SP X pins Dn .next s') rfl hs e1 O.kind O.names
    (thn (hi pins s σ H _ I h) fun v s1 h1 => thn h1 fun itv s2 h2 => ?_)) (fun _ s' hq => wpAny_pure (wpAny_pure hq)) fun _ _ e => e)
  obtain ⟨it, fp, tn, J, H2, e, I2, T, st2, f2, w2⟩ := h2
  subst e
  refine comp_block (RR := fun acc C => compPost (model X.prog X.w) X.A X.xe (some (assign (.Name y py) X.env)) (fun _ s' => SP X pins Dn .next s') acc C) O hc e2 e3 (hte cl) (htc cl) I2 T st2 f2 w2 ?_
  intro D C s' m hn hq hC
  show wpAny _ X.A (assign (.Name y py) X.env (.ref D)) _ _ _
  obtain ⟨H', I', nC, q⟩ := hq s'.heap (.refl ..)
  have I'' : Inv X pins σ H' s' := I'
  have CL : C ≠ X.env.locals := Nat.ne_of_gt (Nat.lt_of_lt_of_le I2.lt hC)
  have Ccell : ∀ y c, X.env.cells.lookup y = some c → c ≠ C := fun y c e z => by
    obtain ⟨v, q⟩ := I2.cell y c e
    have := Nat.lt_of_lt_of_le q.lt hC
    rw [z] at this
    exact Nat.lt_irrefl _ this
  refine wpAny_assign_Name (store_ok2 I'' hN hy (.inl hx) (show RelV (.ref D) (.ref D) from rfl) (fun s3 I3 hsb => ?_) (.inr hx))
  obtain ⟨a, hsb, ha⟩ := hsb
  have aC : C ≠ a := by
    rcases ha with z | z
    · rw [z]; exact CL
    · exact Ne.symm (Ccell _ _ z)
  refine ⟨m, hn.sameBut hsb aC, fun h4 hs4 => ?_⟩
  refine ⟨_, H', I3.turned (it := C) (t' := s3.toks) (fun b o hb e => (hs4.2 b hb).trans e) nC CL (.inr (Nat.le_trans I2.sz hC)) Ccell (fun p hp z => ?_), q⟩
  · have := Nat.lt_of_lt_of_le (Heap.lt_size (I2.pin p hp).1) hC
    rw [z] at this
    exact Nat.lt_irrefl _ this
end
open PySem PySem.Spec PyProof.Rows
def Its (x : Str) : It := ⟨fun i _ => i < x.cps.size, fun i H v H' => H' = H ∧ ∃ c, x.cps[i]? = some c ∧ v = .str ⟨#[c]⟩, fun i _ => x.cps.size ≤ i⟩
section
variable {X : Cx} {tg : Expr}
def iStr (tl : TE) : TI := fun σ H R => tl σ H fun x H1 => ∃ z, x = .str z ∧ R (Its z) H1
end
def CN (n : Nat) (Pv : Nat → List V → Hp → Prop) (i : Nat) (ys : List V) (H : Hp) : Prop := ∃ m', m' < n - i ∧ m' = n - (i + 1) ∧ i + 1 ≤ n ∧ Pv (i + 1) ys H
theorem CN.of {n : Nat} {Pv : Nat → List V → Hp → Prop} {i : Nat} {ys : List V} {H : Hp} (h : i < n) (p : Pv (i + 1) ys H) : CN n Pv i ys H := ⟨n - (i + 1), by omega, rfl, h, p⟩
def CTurn (n : Nat) (Pv : Nat → List V → Hp → Prop) (tc : TT) (te : TE) (σ : St) (i : Nat) (ys : List V) (H : Hp) : Prop :=
  tc σ H fun b H2 => if b = true then te σ H2 fun y H3 => CN n Pv i (ys ++ [y]) H3 else CN n Pv i ys H2
theorem CTurn.no {n : Nat} {Pv : Nat → List V → Hp → Prop} {te : TE} {σ : St} {i : Nat} {ys : List V} {H : Hp} (h : te σ H fun y H3 => CN n Pv i (ys ++ [y]) H3) : CTurn n Pv tNoTest te σ i ys H := by
  unfold CTurn tNoTest
  exact iteT h
theorem comp_list {K : PySem.W.Frag} {a : Addr} {xs : List V} {caps : List Nat} {tc : TT} {te : TE} {σ : St} {H : Hp} {Q : VK} (Pv : Nat → List V → Hp → Prop) (h0 : Pv 0 [] H) (hl : ∀ i ys H, i ≤ xs.length → Pv i ys H → SqL K H a xs ∧ ys.length ≤ i)
    (hz : xs.length ≤ sizeLine) (hs : ∀ i x ys H, i < xs.length → xs[i]? = some x → Pv i ys H → CTurn xs.length Pv tc te (some x :: capV σ caps) i ys H)
    (hd : ∀ ys H p, Pv xs.length ys H → H p = none → Q (.ref p) (upd H p (.lst ys))) : tCompW caps tc te (Itl K a) σ H Q := by
  refine ⟨fun i m ys H => m = xs.length - i ∧ i ≤ xs.length ∧ Pv i ys H, ⟨xs.length, by simp, Nat.zero_le _, h0⟩, ?_⟩
  rintro i m ys H ⟨rfl, hi, p⟩
  obtain ⟨q, hy⟩ := hl i ys H hi p
  by_cases hlt : i < xs.length
  · refine .inr ⟨⟨xs, xs[i], q, by simp [hlt]⟩, by omega, fun x H' y => ?_⟩
    obtain ⟨e, y⟩ := y
    subst e
    exact hs i x ys _ hlt (y xs q) p
  · have e : i = xs.length := by omega
    subst e
    exact .inl ⟨⟨xs, q, Nat.le_refl _⟩, by omega, fun p' hp => hd ys H p' p hp⟩
theorem comp_range {lo : Int} {n : Nat} {caps : List Nat} {tc : TT} {te : TE} {σ : St} {H : Hp} {Q : VK} (Pv : Nat → List V → Hp → Prop) (h0 : Pv 0 [] H) (hl : ∀ i ys H, i ≤ n → Pv i ys H → ys.length ≤ i)
    (hz : n ≤ sizeLine) (hs : ∀ i ys H, i < n → Pv i ys H → CTurn n Pv tc te (some (.int (lo + i)) :: capV σ caps) i ys H)
    (hd : ∀ ys H p, Pv n ys H → H p = none → Q (.ref p) (upd H p (.lst ys))) : tCompW caps tc te (Itr lo n) σ H Q := by
  refine ⟨fun i m ys H => m = n - i ∧ i ≤ n ∧ Pv i ys H, ⟨n, by simp, Nat.zero_le _, h0⟩, ?_⟩
  rintro i m ys H ⟨rfl, hi, p⟩
  have hy := hl i ys H hi p
  by_cases hlt : i < n
  · refine .inr ⟨hlt, by omega, fun x H' y => ?_⟩
    obtain ⟨e, y⟩ := y
    subst e y
    exact hs i ys _ hlt p
  · have e : i = n := by omega
    subst e
    exact .inl ⟨Nat.le_refl _, by omega, fun p' hp => hd ys H p' p hp⟩
theorem strsAre_of {ys : List Str} : ∀ {us : List Value}, Vals (ys.map V.str) us → StrsAre us ys := by
  induction ys with
  | nil => intro us r; rw [List.map_nil] at r; cases r; exact .nil
  | cons n ns ih =>
    intro us r
    rw [List.map_cons] at r
    cases r with
    | cons r1 r2 =>
      obtain ⟨t, e⟩ := r1
      subst e
      exact .cons n t (ih r2)
def rJoin (K : PySem.W.Frag) : V → List V → Hp → VK → Prop := fun x vs H Q => ∃ z a ys, x = .str z ∧ vs = [.ref a] ∧ SqL K H a (ys.map V.str) ∧ (ys.map (·.length)).sum + ys.length * z.length ≤ 16777216 ∧ Q (.str (Txt.join z ys)) H
section
variable {X : Cx}
theorem mt_join : MtR X "str.join" (rJoin X.K) := by
  intro pins s σ H x vs v us Q I rx rv h
  obtain ⟨z, a, ys, rfl, rfl, hq, hz, q⟩ := h
  obtain ⟨t, rfl⟩ := rx
  obtain ⟨u, rfl, ru⟩ := rv.one
  cases ru
  obtain ⟨its, r, pl, hl⟩ := I.list hq
  exact join_list pl.isList (strsAre_of (by simpa using r)) hz fun t' k => ⟨.str _, H, I.tok _, ⟨_, rfl⟩, q⟩
def rIsi (K : PySem.W.Frag) : List V → Hp → VK → Prop := fun vs H Q => ∃ x t b, TyOf K H x t ∧
  ((∃ n, vs = [x, .ty n] ∧ PySem.W.kitOne K t (.type n) = some b) ∨ (∃ a, vs = [x, .ref a] ∧ PySem.W.kitOne K t (.ref a) = some b)) ∧ Q (.bl b) H
theorem call_isi : CallR X (.builtin "isinstance") (rIsi X.K) := by
  intro pins s σ H xs us Q I rv h
  obtain ⟨x, t, b, ty, hv, q⟩ := h
  rcases hv with ⟨n, rfl, e⟩ | ⟨a, rfl, e⟩
  · obtain ⟨u1, u2, rfl, r1, r2⟩ := rv.two
    cases r2
    exact isinst_ok I r1 ty e fun tk => ⟨.bl b, H, I.tok _, rfl, q⟩
  · obtain ⟨u1, u2, rfl, r1, r2⟩ := rv.two
    cases r2
    exact isinst_ok I r1 ty e fun tk => ⟨.bl b, H, I.tok _, rfl, q⟩
def eqL : List V → List V → Bool
  | [], [] => true
  | x :: xs, y :: ys => eqV x y && eqL xs ys
  | _, _ => false
theorem eqL_len : ∀ {xs ys : List V}, xs.length ≠ ys.length → eqL xs ys = false
  | [], [], h => absurd rfl h
  | [], _ :: _, _ => rfl
  | _ :: _, [], _ => rfl
  | x :: xs, y :: ys, h => by
    rw [eqL, eqL_len (xs := xs) (ys := ys) (fun z => h (by rw [List.length_cons, List.length_cons, z])), Bool.and_false]
theorem eqL_range : ∀ {xs ys : List V}, xs.length = ys.length → (List.range xs.length).all (fun j => eqV (xs.getD j .non) (ys.getD j .non)) = eqL xs ys
  | [], [], _ => rfl
  | [], _ :: _, h => by simp at h
  | _ :: _, [], h => by simp at h
  | x :: xs, y :: ys, h => by
    have h' : xs.length = ys.length := by simpa using h
    rw [List.length_cons, List.range_succ_eq_map, List.all_cons, List.all_map]
    rw [eqL, ← eqL_range h']
    rfl
def rEqL (K : PySem.W.Frag) : R2 := fun x y H Q => ∃ p q xs ys, x = .ref p ∧ y = .ref q ∧ SqL K H p xs ∧ SqL K H q ys ∧ xs.all flatV = true ∧ ys.all flatV = true ∧ Q (.bl (eqL xs ys)) H
end
open PySem
def tx (l : List Nat) : Str := ⟨l.toArray⟩
theorem tx_len (l : List Nat) : (tx l).length = l.length := by simp [tx, Str.length]
theorem tx_list (l : List Nat) : (tx l).cps.toList = l := by simp [tx]
theorem tx_get (l : List Nat) (i : Nat) : (tx l).cps[i]? = l[i]? := by simp [tx]
theorem tx_of (z : Str) : tx z.cps.toList = z := by cases z; simp [tx]
theorem tx_app (a b : List Nat) : tx a ++ tx b = tx (a ++ b) := by
  show Str.append (tx a) (tx b) = _
  simp [tx, Str.append]
theorem tx_inj {a b : List Nat} (h : tx a = tx b) : a = b := by
  have := congrArg (fun z : Str => z.cps.toList) h
  simpa [tx] using this
end L2
namespace PySem
open Sem (wp)
open Builtin Builtin.Str Builtin.Int
namespace RV
end RV
def revS (x : Str) (t : Tok) (i : Int) : Obj := { cls := .type "reversed", data := .fields #[.str x t, rawInt i] }
def Heap.IsRevS (h : Heap) (a : Addr) (x : Str) (t : Tok) (i : Int) : Prop := ∃ o, h.get? a = some o ∧ o.cls = .type "reversed" ∧ o.data = .fields #[.str x t, rawInt i]
section
variable {prog : Program} {w : World} {A : Around} {E : Value → Shared → Prop} {s : Shared}
end
end PySem
namespace L2
open PySem PySem.Spec PyProof.Rows
def revO (p : Addr) (x : Str) : HO := .ext fun h => ∃ t, h.IsRevS p x t ((x.length : Int) - 1)
def anyO (p : Addr) : HO := .ext fun h => ∃ o, h.get? p = some o
section
variable {X : Cx}
end
open PySem PySem.Spec PyProof.Rows
theorem iteDn {c A B : Prop} [Decidable c] (h : ¬ c) (k : B) : if decide c = true then A else B := by rw [decide_eq_false h]; exact iteF k
theorem iteDp {c A B : Prop} [Decidable c] (h : c) (k : A) : if decide c = true then A else B := by rw [decide_eq_true h]; exact iteT k
theorem iteNp {c A B : Prop} [Decidable c] (h : ¬ c) (k : A) : if (!decide c) = true then A else B := by rw [decide_eq_false h]; exact iteT k
theorem ite2D {c A B : Prop} [Decidable c] (h1 : c → A) (h2 : ¬ c → B) : if decide c = true then A else B := by
  by_cases h : c
  · exact iteDp h (h1 h)
  · exact iteDn h (h2 h)
theorem Same.upd {H : Hp} {p : Addr} {o : HO} (h : H p = none) : Same H (L2.upd H p o) := fun b o' e => by rw [upd_ne (ne_of_none e h)]; exact e
theorem Same.new {H H1 : Hp} {p : Addr} {o : HO} (e : Same H H1) (h : H1 p = none) : Same H (L2.upd H1 p o) := e.trans (.upd h)
theorem Same.over {H H1 : Hp} {p : Addr} {o : HO} (e : Same H H1) (h : H p = none) : Same H (L2.upd H1 p o) := fun b o' q => by rw [upd_ne (ne_of_none q h)]; exact e b o' q
theorem bt_len : bootBuiltins "len" = some (.builtin "len") := by decide +kernel
theorem bt_isinstance : bootBuiltins "isinstance" = some (.builtin "isinstance") := by decide +kernel
theorem bt_abs : bootBuiltins "abs" = some (.builtin "abs") := by decide +kernel
theorem bt_sum : bootBuiltins "sum" = some (.builtin "sum") := by decide +kernel
theorem bt_list : bootBuiltins "list" = some (.type "list") := by decide +kernel
theorem bt_str : bootBuiltins "str" = some (.type "str") := by decide +kernel
theorem bt_int : bootBuiltins "int" = some (.type "int") := by decide +kernel
theorem bt_bool : bootBuiltins "bool" = some (.type "bool") := by decide +kernel
theorem bt_range : bootBuiltins "range" = some (.type "range") := by decide +kernel
structure Df (K : PySem.W.Frag) (mg : Str → Option Value) (x : Str) (st : Stmt) (ps : List Str) (f : Addr) (fd : FuncData) : Prop where
  F : Fun K x x st f fd
  m : mg x = some (.ref f)
  b : Binds K fd ps []
def vS (cl : List (List Nat)) : List V := cl.map fun t => V.str (tx t)
def vI (ns : List Int) : List V := ns.map V.int
theorem vS_len (cl : List (List Nat)) : (vS cl).length = cl.length := by unfold vS; rw [List.length_map]
theorem vI_len (ns : List Int) : (vI ns).length = ns.length := by unfold vI; rw [List.length_map]
theorem vI_get {ns : List Int} {i : Nat} {n : Int} (h : ns[i]? = some n) : (vI ns)[i]? = some (.int n) := by unfold vI; rw [List.getElem?_map, h]; rfl
theorem vS_got {cl : List (List Nat)} {i : Nat} {v : V} (h : (vS cl)[i]? = some v) : ∃ t, cl[i]? = some t ∧ v = .str (tx t) := by
  unfold vS at h
  rw [List.getElem?_map] at h
  cases e : cl[i]? with
  | none => rw [e] at h; cases h
  | some t => rw [e] at h; exact ⟨t, rfl, (Option.some.inj h).symm⟩
theorem vI_got {ns : List Int} {i : Nat} {v : V} (h : (vI ns)[i]? = some v) : ∃ t, ns[i]? = some t ∧ v = .int t := by
  unfold vI at h
  rw [List.getElem?_map] at h
  cases e : ns[i]? with
  | none => rw [e] at h; cases h
  | some t => rw [e] at h; exact ⟨t, rfl, (Option.some.inj h).symm⟩
theorem vI_flat (ns : List Int) : (vI ns).all flatV = true := by unfold vI; rw [List.all_map]; exact List.all_eq_true.mpr fun _ _ => rfl
theorem vS_map (cl : List (List Nat)) : vS cl = (cl.map tx).map V.str := by unfold vS; rw [List.map_map]; rfl
theorem vI_set (ns : List Int) (j : Nat) (n : Int) : (vI ns).set j (.int n) = vI (ns.set j n) := by unfold vI; rw [List.map_set]
theorem vI_app (ns : List Int) (n : Int) : vI ns ++ [.int n] = vI (ns ++ [n]) := by unfold vI; rw [List.map_append]; rfl
theorem vS_app (cl : List (List Nat)) (t : List Nat) : vS cl ++ [.str (tx t)] = vS (cl ++ [t]) := by unfold vS; rw [List.map_append]; rfl
theorem atI_of {α : Type} {xs : List α} {i : Int} {v : α} (h0 : 0 ≤ i) (h : xs[i.toNat]? = some v) : atI xs i = some v := by
  have e : i = (i.toNat : Int) := by omega
  rw [e]
  exact atI_nat h
theorem ixN_of {n : Nat} {i : Int} (h0 : 0 ≤ i) (h : i < n) : ixN n i = some i.toNat := by unfold ixN; rw [if_pos h0, if_pos h]
open PySem PySem.Spec PyProof.Rows
section
variable {X : Cx} {K : PySem.W.Frag} {tg : Expr}
theorem ix_listK (hK : X.K = K := by rfl) : IxR X (rIxL K) := by subst hK; exact ix_list
theorem ix_tupK (hK : X.K = K := by rfl) : IxR X (rIxT K) := by subst hK; exact ix_tup
theorem call_len_seqK (hK : X.K = K := by rfl) : CallR X (.builtin "len") (fun xs H Q => ∃ p ys, xs = [.ref p] ∧ (SqL K H p ys ∨ SqT K H p ys) ∧ Q (.int ys.length) H) := by subst hK; exact call_len_seq
theorem call_list_ofK (hK : X.K = K := by rfl) : CallR X (.type "list") (fun xs H Q => ∃ p ys, xs = [.ref p] ∧ (SqL K H p ys ∨ SqT K H p ys) ∧ ∀ l, H l = none → Q (.ref l) (upd H l (.lst ys))) := by subst hK; exact call_list_of
theorem call_isiK (hK : X.K = K := by rfl) : CallR X (.builtin "isinstance") (rIsi K) := by subst hK; exact call_isi
theorem mt_joinK (hK : X.K = K := by rfl) : MtR X "str.join" (rJoin K) := by subst hK; exact mt_join
theorem sl_listK (hK : X.K = K := by rfl) : SlR X (rSlL K) := by subst hK; exact sl_list
theorem pi_listK {l : Expr} {tl : TE} (hl : PE X l tl) (hK : X.K = K := by rfl) : PI X tg l (iList K tl) := by subst hK; exact pi_list hl
theorem pt_truthK {a : Expr} {ta : TE} (ha : PE X a ta) (he : ∀ whole, isTrue a X.env whole = (do let v ← whole; standAt a.pos; holding [v] (truthy v))) (hK : X.K = K := by rfl) :
    PT X a (fun σ H Q => ta σ H fun x H' => ∃ k, TruV K x H' k ∧ Q k H') := by subst hK; exact pt_truth ha he
variable {o e : Expr} {es : List Expr} {to : TE} {t : TA} {name : Str} {apos cpos : Pos} {T id : String} {r : V → List V → Hp → VK → Prop}
theorem pe_bmK (pa : PlainAttrs T) (slot : Slot T name id) (hty : typeOf (.builtin id) = pure (.type "method_descriptor")) (hm : MtR X id r) (ho : PE X o to) (ha : PA X (e :: es) t)
    (hbase : attributeBase o name X.env (eval o X.env) = eval o X.env := by rfl)
    (hfew : ((backTo cpos (starEach (e :: es) X.env)).all (fun x => !x.1) && (backToKw cpos (keywordEach [] X.env)).all (fun x => x.1.isSome)
      && decide ((e :: es).length + ([] : List Keyword).length + (if ([] : List Keyword).isEmpty then 0 else 1) < 30)) = true := by rfl)
    (hline : (apos.endLine == cpos.line) = true := by rfl) (hs : starEach (e :: es) X.env = (false, eval e X.env) :: starEach es X.env := by rfl) (hplain : (backTo cpos (starEach es X.env)).any (·.1) = false := by rfl) (hK : X.K = K := by rfl) :
    PE X (.Call (.Attribute o name apos) (e :: es) [] cpos) (tBM K T r to t) := by
  subst hK
  exact pe_bm pa slot hty hm ho ha hbase hfew hline hs hplain
end
open PySem PySem.Spec PyProof.Rows
abbrev exO (C t : Addr) (tb : Value) : Obj := { cls := .ref C, data := .fields #[.ref t, tb, .none, .none, .bool false, .none] }
structure Fx (B : Heap) (l : List Env) (e C t : Addr) (fl : Value) (h : Heap) : Prop where
  st : B.StaysIn h
  ne : B.get? e = none
  fr : h.FunFrames B l
  ob : ∃ (T : Addr) (oT : Obj) (ts : Array Value), h.get? e = some (exO C t (.ref T)) ∧ B.get? T = none ∧ T ≠ e ∧ h.get? T = some oT ∧ oT.data = .fields ts ∧ ts[3]? = some fl
section
variable {M : Model} {A : Around} {E : Value → Shared → Prop} {s : Shared} {B : Heap} {env : Env} {l : List Env} {e C t L : Addr}
end
open PySem PySem.Spec PyProof.Rows
section
variable {M : Model} {A : Around} {E : Value → Shared → Prop} {s : Shared} {B : Heap} {env : Env} {l : List Env} {e C t L : Addr}
end
structure Bk (P : Program) (w : World) (outer : List Env) (H : Hp) (h : Heap) (H' : Hp) (B h' : Heap) : Prop where
  ok : HOk P w H' B
  keep : ∀ b o, h.get? b = some o → H b = none → b ∉ frs outer → B.get? b = some o
  slot : ∀ b o, h.get? b = some o → b ∈ frs outer → ∃ sl, h'.get? b = some { o with slots := sl }
  free : ∀ b o, h.get? b = some o → H b = none → H' b = none
  there : ∀ b o, h.get? b = some o → b ∉ frs outer → ∃ o', B.get? b = some o'
  tups : ∀ b xs, H b = some (.tup xs) → H' b = some (.tup xs)
  frzs : ∀ b o u, H b = some (.frz o u) → H' b = some (.frz o u)
  tbls : ∀ b ps, H b = some (.tbl ps) → ∃ more, H' b = some (.tbl (ps ++ more))
def CX1 (P : Program) (w : World) : CXT := fun outer H s E e s' => ∃ ea C t H' B, e = .ref ea ∧ Fx B outer ea C t .none s'.heap ∧ s'.os = s.os ∧ AllBare s'.gens ∧ Bk P w outer H s.heap H' B s'.heap ∧ E (.ref C) none H'
inductive Fly (B : Heap) (l : List Env) (L ea C t : Addr) (h : Heap) : Prop where
  | new (st : B.StaysIn h) (ne : B.get? ea = none) (fr : h.FunFrames B l) (ob : h.get? ea = some (exO C t .none))
  | came (x : Fx B l ea C t .none h)
  | seen (x : Fx B l ea C t (rawInt L) h)
def FlX (X : Cx) (E : XK) : Value → Shared → Prop := fun e s' => ∃ ea C t H' B, e = .ref ea ∧ Fly B X.stack X.env.locals ea C t s'.heap ∧ s'.os = X.s₀.os ∧ AllBare s'.gens ∧ Bk X.prog X.w X.outer X.H₀ X.s₀.heap H' B s'.heap ∧ E (.ref C) none H'
structure Body (X : Cx) : Prop where
  stack : X.stack = X.env :: X.outer
  frame : X.env.frame = some X.env.locals
  ex : X.ex = []
section
variable {X : Cx} {pins : List (Addr × Obj)} {σ : St} {H : Hp} {s s' : Shared} {E : XK} {e : Value}
end
open PySem PySem.Spec PyProof.Rows
def mroK (K : PySem.W.Frag) (C : Addr) : List Value := match K.lookup C with
  | some ⟨_, _, .cls cd, _⟩ => cd.mro
  | _ => []
def tRaise (C : Addr) (E : XK) (t : TA) : TS := fun _ σ H => t σ H fun vs H1 => vs.length ≤ sizeLine ∧ E (.ref C) none H1
section
variable {X : Cx} {x : Str} {C : Addr} {bmB bmN : List Value} {B Bn nid nid' iid iid' : String} {E : XK} {e : Expr} {es : List Expr} {t : TA} {np cpos pos : Pos}
end
abbrev cx1 (P : Program) (w : World) (K : PySem.W.Frag) (mg : Str → Option Value) (base : Heap) (N : List Str) (qual : Str) (scope : Scope) (f : Addr) (cd : Value) (A : Around) (outer : List Env) (s : Shared) (H : Hp) (E : XK) : Cx :=
  (cxOf (CX1 P w) P w K mg base N qual scope f cd A outer s H E).wish (FlX (cxOf (CX1 P w) P w K mg base N qual scope f cd A outer s H E) E)
section
variable {P : Program} {w : World} {K : PySem.W.Frag} {mg : Str → Option Value} {base : Heap}
end
def PEX (X : Cx) (e : Expr) (t : XK → TE) : Prop := ∀ (pins : List (Addr × Obj)) (s : Shared) (σ : St) (H : Hp) (Q : VK) (E : XK), Inv X pins σ H s → t E σ H Q →
  wpAny (model X.prog X.w) X.A (eval e X.env) (EP X pins σ Q) (fun ex s' => ∃ H1 s1, Inv X pins σ H1 s1 ∧ CX1 X.prog X.w X.stack H1 s1 E ex s') s
section
variable {X : Cx} {k : Nat} {f C : Addr} {fd : FuncData} {ps : List Str} {sp : Sp} {dvs : List V} {ds : List Value} {x m : Str} {p pos apos : Pos} {e o : Expr} {es : List Expr} {ta : TE} {t : TA}
end
open PySem PySem.Spec PyProof.Rows
def exH (C a : Addr) : HO := .ext fun h => ∃ t tb, h.get? a = some (exO C t tb)
section
variable {X : Cx} {pins : List (Addr × Obj)} {σ : St} {H H' : Hp} {s s' : Shared} {B h2 : Heap} {ea C t : Addr} {fl : Value}
abbrev Cx.hdl (X : Cx) (e : Addr) : Cx := { X with A := X.A.mark (some (.ref e)), calm := false, xe := fun _ _ => False }
end
open PySem PySem.Spec PyProof.Rows
section
variable {M : Model} {A : Around} {E : Value → Shared → Prop} {h : Heap} {g : Array GenState} {d : Drawn} {t : Nat} {os : OsState}
end
abbrev WX (X : Cx) (pins : List (Addr × Obj)) (σ : St) (E : XK) : Value → Shared → Prop := fun ex s' => ∃ H1 s1, Inv X pins σ H1 s1 ∧ CX1 X.prog X.w X.stack H1 s1 E ex s'
def PSX (X : Cx) (st : Stmt) (t : XK → TS) : Prop := ∀ (pins : List (Addr × Obj)) (s : Shared) (σ : St) (H : Hp) (D : Ends) (E : XK), Inv X pins σ H s → t E D σ H → wpAny (model X.prog X.w) X.A (exec st X.env) (SP X pins D) (WX X pins σ E) s
def PSXs (X : Cx) (st : List Stmt) (t : XK → TS) : Prop := ∀ (pins : List (Addr × Obj)) (s : Shared) (σ : St) (H : Hp) (D : Ends) (E : XK), Inv X pins σ H s → t E D σ H → wpAny (model X.prog X.w) X.A (execs st X.env) (SP X pins D) (WX X pins σ E) s
section
variable {X : Cx} {e : Expr} {t u : XK → TS} {te : XK → TE} {pos : Pos} {st : Stmt}
abbrev Ends.un (D : Ends) (j : Nat) : Ends := { nx := fun σ H => D.nx (σ.set j none) H, rt := D.rt, bk := fun σ H => D.bk (σ.set j none) H, ct := fun σ H => D.ct (σ.set j none) H }
def Sub (K : PySem.W.Frag) (C D : Addr) : Prop := (∃ bm nid, PySem.W.excIn K C bm nid = true) ∧ (mroK K C).contains (.ref D) = true
def tTry (K : PySem.W.Frag) (Ch : Addr) (j : Nat) (t : XK → TS) (ts : TS) : TS := fun D σ H => t (fun c _ H' => ∃ C, c = .ref C ∧ Sub K C Ch ∧ ∀ ea, H' ea = none → ts (D.un j) (σ.set j (some (.ref ea))) (upd H' ea (exH C ea))) D σ H
end
open PySem PySem.Spec PyProof.Rows
structure ExC (K : PySem.W.Frag) (C : Addr) : Prop where
  ga : PySem.W.findIn K (.ref C) "__getattribute__" = some (some (.builtin "BaseException.__getattribute__"))
  gt : PySem.W.findIn K (.ref C) "__getattr__" = some none
  cl : PySem.W.findIn K (.ref C) "__class__" = some (some (.builtin "object.__class__"))
  gc : PySem.W.specialIn K (.builtin "object.__class__") "__get__" = some (some (.builtin "getset_descriptor.__get__"))
  tk : PySem.W.takesIn K (.builtin "object.__class__") = some true
  ob : PySem.W.mroIn K C (.type "object") = some true
  be : PySem.W.mroIn K C (.type "BaseException") = some true
  is : (PySem.W.clsIn K C).isSome = true
section
variable {prog : Program} {w : World} {A : Around} {E : Value → Shared → Prop} {s : Shared} {K : PySem.W.Frag} {x C t : Addr} {tb : Value}
end
def rIsX (K : PySem.W.Frag) : List V → Hp → VK → Prop := fun vs H Q => ∃ a C b, H a = some (exH C a) ∧ ExC K C ∧
  ((∃ n, vs = [.ref a, .ty n] ∧ PySem.W.kitOne K (.ref C) (.type n) = some b) ∨ (∃ D, vs = [.ref a, .ref D] ∧ PySem.W.kitOne K (.ref C) (.ref D) = some b)) ∧ Q (.bl b) H
section
variable {X : Cx} {K : PySem.W.Frag}
variable {CX : CXT} {k : Nat} {ps : List Str} {sp : Addr → Sp} {E : XK} {m : Str} {pos apos : Pos} {o : Expr} {ta : TE}
def tMethX (K : PySem.W.Frag) (m : Str) (sp : Addr → Sp) (E : XK) (ta : TE) : TE := fun σ H Q => ta σ H fun x H1 => ∃ a C, x = .ref a ∧ H1 a = some (exH C a) ∧ sp C [x] H1 Q E
end
open PySem PySem.Spec PyProof.Rows
abbrev vE : List Value := [.type "ValueError", .type "Exception", .type "BaseException", .type "object"]
abbrev vN : String := "ValueError.__new__"
structure Exn (K : PySem.W.Frag) (C : Addr) : Prop where
  q : PySem.W.excIn K C vE vN = true
  c : ExC K C
  ty : PySem.W.typeIn K (.ref C) = some (.type "type")
  ve : PySem.W.mroIn K C (.type "ValueError") = some true
theorem exn_mk {K : PySem.W.Frag} {C : Addr} (q : PySem.W.excIn K C vE vN = true) (ga : PySem.W.findIn K (.ref C) "__getattribute__" = some (some (.builtin "BaseException.__getattribute__"))) (gt : PySem.W.findIn K (.ref C) "__getattr__" = some none)
    (cl : PySem.W.findIn K (.ref C) "__class__" = some (some (.builtin "object.__class__"))) (gc : PySem.W.specialIn K (.builtin "object.__class__") "__get__" = some (some (.builtin "getset_descriptor.__get__"))) (tk : PySem.W.takesIn K (.builtin "object.__class__") = some true)
    (ob : PySem.W.mroIn K C (.type "object") = some true) (be : PySem.W.mroIn K C (.type "BaseException") = some true) (is : PySem.W.isClsIn K C = true) (ty : PySem.W.typeIn K (.ref C) = some (.type "type")) (ve : PySem.W.mroIn K C (.type "ValueError") = some true) : Exn K C :=
  ⟨q, ⟨ga, gt, cl, gc, tk, ob, be, is⟩, ty, ve⟩
section
variable {X : Cx} {CX : CXT} {k : Nat} {C f : Addr} {fd : FuncData} {ps : List Str} {sp : Sp} {E : XK} {m : Str} {pos apos : Pos} {o : Expr} {ta : TE}
def tMethE (C : Addr) (sp : Sp) (E : XK) (ta : TE) : TE := fun σ H Q => ta σ H fun x H1 => ∃ a, x = .ref a ∧ H1 a = some (exH C a) ∧ sp [x] H1 Q E
end
def clsBody (s : Stmt) : List Stmt := match s with
  | .ClassDef _ _ _ b _ _ _ _ _ _ _ => b
  | _ => []
structure Mf (K : PySem.W.Frag) (x q : Str) (st : Stmt) (ps : List Str) (C f : Addr) (fd : FuncData) : Prop where
  F : Fun K x q st f fd
  m : Meth K C x f
  b : Binds K fd ps []
theorem kit_ib (K : PySem.W.Frag) : PySem.W.kitOne K (.type "int") (.type "bool") = some false := by
  unfold PySem.W.kitOne PySem.W.kitCls PySem.W.subIn
  rw [if_neg (by simp)]
  show (if _ then _ else _) = _
  rw [if_pos (by decide +kernel)]
  show Option.map (fun x => x.contains (Value.type "bool")) (fastBuiltinMro "int") = some false
  decide +kernel
open PySem PySem.Spec PyProof.Rows
open Builtin Builtin.Str
def cutT (u : List Nat) (lo hi : Option Int) : List Nat := (u.drop (HT.sIx u.length 0 lo)).take (HT.sIx u.length u.length hi - HT.sIx u.length 0 lo)
theorem rng_eq (a b : Nat) : sliceRange (a : Int) (b : Int) 1 = (List.range (b - a)).map fun k => a + k := by
  unfold sliceRange
  simp only [show (1 : Int) > 0 by decide, if_true]
  by_cases h : (a : Int) < (b : Int)
  · rw [if_pos h, Int.ediv_one, show (b : Int) - (a : Int) + 1 - 1 = ((b - a : Nat) : Int) by omega, Int.toNat_natCast]
    exact List.map_congr_left fun k _ => by omega
  · rw [if_neg h, show b - a = 0 by omega]
    rfl
theorem clip_some (n d : Nat) (i : Int) : max 0 (min (if i < 0 then i + (n : Int) else i) (n : Int)) = (HT.sIx n d (some i) : Int) := by
  show _ = (((if i < 0 then (i + (n : Int)).toNat else min i.toNat n) : Nat) : Int)
  by_cases h : i < 0
  · rw [if_pos h, if_pos h]; omega
  · rw [if_neg h, if_neg h]; omega
theorem idx_eq (n : Nat) (lo hi : Option Int) : strSliceIndices lo hi 1 n = (List.range (HT.sIx n n hi - HT.sIx n 0 lo)).map fun k => HT.sIx n 0 lo + k := by
  rw [← rng_eq]
  cases lo with
  | none =>
    cases hi with
    | none => rfl
    | some j => rw [← clip_some]; rfl
  | some i =>
    cases hi with
    | none => rw [← clip_some n 0 i]; rfl
    | some j => rw [← clip_some n 0 i, ← clip_some n n j]; rfl
theorem tx_slice (u : List Nat) (lo hi : Option Int) : Txt.slice (tx u) lo hi = tx (cutT u lo hi) := by
  unfold Txt.slice cutT
  rw [tx_len, idx_eq]
  have hle : HT.sIx u.length u.length hi ≤ u.length := HT.sIx_le _ _ (Nat.le_refl _) _
  have key : ∀ (a k : Nat), a + k ≤ u.length → ((List.range k).map fun j => a + j).filterMap (fun i => (tx u).cps[i]?) = (u.drop a).take k := by
    intro a k
    induction k with
    | zero => intro _; simp
    | succ k ih =>
      intro h
      rw [List.range_succ, List.map_append, List.filterMap_append, ih (by omega)]
      have : a + k < u.length := by omega
      simp only [List.map_cons, List.map_nil, List.filterMap_cons, List.filterMap_nil, tx_get, List.getElem?_eq_getElem this]
      rw [List.take_succ, List.getElem?_drop, List.getElem?_eq_getElem this]
      rfl
  split
  next h =>
    simp only [List.length_map, List.length_range, Bool.and_eq_true, beq_iff_eq] at h
    have h2 := h.2
    have : HT.sIx u.length 0 lo = 0 ∨ u.length = 0 := by omega
    rcases this with e | e
    · rw [e, List.drop_zero, List.take_of_length_le (by omega)]
    · rw [List.eq_nil_of_length_eq_zero e]; simp
  next h =>
    by_cases hlt : HT.sIx u.length 0 lo ≤ HT.sIx u.length u.length hi
    · show (Str.mk _) = _
      rw [key _ _ (by omega)]
      rfl
    · have e : HT.sIx u.length u.length hi - HT.sIx u.length 0 lo = 0 := by omega
      rw [e]
      simp [tx]
section
variable {X : Cx}
theorem sl_str : SlR X (fun x lo hi H Q => ∃ u : List Nat, x = .str (tx u) ∧ u.length ≤ sizeLine ∧ Q (.str (tx (cutT u lo hi))) H) := by
  intro pins s σ H x v vl vu lo hi sl Q I rx hs pl pu h
  obtain ⟨u, rfl, hz, q⟩ := h
  obtain ⟨t, rfl⟩ := rx
  rw [← tx_slice] at q
  refine ⟨"str", _, F.slot_str_getitem.lookup, typeIs_str _ _ _, ?_⟩
  have hsz : (tx u).length ≤ sizeLine := by rw [tx_len]; exact hz
  obtain ⟨os, hos, hcs, hds⟩ := id hs
  have fin : ∀ (l u' : Option (Int × Tok)), s.heap.IsSlice sl l u' none → Q (.str (Txt.slice (tx u) (l.map (·.1)) (u'.map (·.1)))) H → wpAny (model X.prog X.w) X.A (getItem (.str (tx u) t) (.ref sl)) (EP X pins σ Q) X.xe s := fun l u' z q' =>
    wpAny_getItem_str_slice z rfl (post_val_or_str ⟨Nat.le_trans (Txt.slice_le (tx u) _ _) hsz, fun t' k => ⟨.str _, H, I.tok _, ⟨t', rfl⟩, q'⟩⟩)
  cases pl with
  | none => cases pu with
    | none => exact fin none none ⟨os, hos, hcs, hds⟩ q
    | int j tj => exact fin none (some (j, tj)) ⟨os, hos, hcs, hds⟩ q
  | int i ti => cases pu with
    | none => exact fin (some (i, ti)) none ⟨os, hos, hcs, hds⟩ q
    | int j tj => exact fin (some (i, ti)) (some (j, tj)) ⟨os, hos, hcs, hds⟩ q
end
open PySem PySem.Spec PyProof.Rows
theorem vals_ptw : ∀ (xs : List V) (us : List Value), xs.length = us.length → (∀ (i : Nat) x u, xs[i]? = some x → us[i]? = some u → RelV x u) → Vals xs us
  | [], [], _, _ => .nil
  | [], _ :: _, h, _ => by simp at h
  | _ :: _, [], h, _ => by simp at h
  | x :: xs, u :: us, h, p => .cons (p 0 x u rfl rfl) (vals_ptw xs us (by simpa using h) fun i y v e1 e2 => p (i + 1) y v e1 e2)
def rngO (p : Addr) (a b c : Int) : HO := .ext fun h => ∃ t u v, IsRange h p a b c t u v
def rngL (a c : Int) (n : Nat) : List Int := (List.range n).map fun (i : Nat) => a + (i : Int) * c
section
variable {X : Cx} {K : PySem.W.Frag}
theorem laid_rng {pins : List (Addr × Obj)} {σ : St} {H : Hp} {s : Shared} {a b c : Int} {t u v : Tok} {Q : VK} {tk : Nat} (I : Inv X pins σ H s) (q : ∀ p, H p = none → Q (.ref p) (upd H p (rngO p a b c))) :
    EP X pins σ Q (.ref s.heap.objs.size) { s with heap := s.heap.push { cls := .type "range", data := .fields #[.int a t, .int b u, .int c v] }, toks := tk } := by
  have hg : (s.heap.push { cls := .type "range", data := .fields #[.int a t, .int b u, .int c v] }).get? s.heap.objs.size = some { cls := .type "range", data := .fields #[.int a t, .int b u, .int c v] } := Heap.get?_push_size _ rfl
  refine ⟨.ref s.heap.objs.size, _, I.laid (o := rngO s.heap.objs.size a b c) (fun b o e => Heap.get?_push_of_some _ e) (Nat.le_refl _) ?_, rfl, q _ (I.hok.fresh (Nat.le_refl _))⟩
  exact ⟨⟨t, u, v, hg⟩, ⟨_, hg⟩, fun h1 h2 y k => by
    obtain ⟨t', u', v', y⟩ := y
    exact ⟨t', u', v', k _ y⟩⟩
theorem call_rng2 : CallR X (.type "range") (fun xs H Q => ∃ a b, xs = [.int a, .int b] ∧ ∀ p, H p = none → Q (.ref p) (upd H p (rngO p a b 1))) := by
  intro pins s σ H xs us Q I rv h
  obtain ⟨a, b, rfl, q⟩ := h
  obtain ⟨u1, u2, rfl, r1, r2⟩ := rv.two
  obtain ⟨t, rfl⟩ := r1
  obtain ⟨t', rfl⟩ := r2
  exact call_range_2 (laid_rng I q)
theorem call_rng3 : CallR X (.type "range") (fun xs H Q => ∃ a b c, xs = [.int a, .int b, .int c] ∧ c ≠ 0 ∧ c.natAbs < 1000000 ∧ ∀ p, H p = none → Q (.ref p) (upd H p (rngO p a b c))) := by
  intro pins s σ H xs us Q I rv h
  obtain ⟨a, b, c, rfl, hc, hz, q⟩ := h
  cases rv with
  | cons r1 rv => cases rv with
    | cons r2 rv => cases rv with
      | cons r3 rv =>
        cases rv
        obtain ⟨t, rfl⟩ := r1
        obtain ⟨t', rfl⟩ := r2
        obtain ⟨t'', rfl⟩ := r3
        exact call_range_3 hc (laid_rng I q) (Or.inl (PyProof.noPylong_small (by omega)))
theorem call_listR (hc : X.calm = true := by rfl) : CallR X (.type "list") (fun xs H Q => ∃ (p : Addr) (a b c : Int) (n : Nat), xs = [.ref p] ∧ H p = some (rngO p a b c) ∧ Builtin.Range.small a b c = true ∧ Builtin.Range.rangeSize a b c = n ∧ n ≤ 1000 ∧
    ∀ l, H l = none → Q (.ref l) (upd H l (.lst (vI (rngL a c n))))) := by
  intro pins s σ H xs us Q I rv h
  obtain ⟨p, a, b, c, n, rfl, hp, hs, hn, hz, q⟩ := h
  obtain ⟨u, rfl, ru⟩ := rv.one
  cases ru
  obtain ⟨⟨t, u, v, hr⟩, _, _⟩ := I.hok p _ hp
  refine call_list_range (I.ok.hd hc) hr hs hn (Nat.le_trans hz (by decide)) fun h' tk acc c' hk hl hi => ?_
  refine ⟨.ref s.heap.objs.size, _, I.laid (t' := tk) (o := .lst (vI (rngL a c n))) hk (Nat.le_refl _) ?_, rfl, q _ (I.hok.fresh (Nat.le_refl _))⟩
  have hlen : (vI (rngL a c n)).length = n := by rw [vI_len]; unfold rngL; rw [List.length_map, List.length_range]
  refine ⟨by rw [hlen]; exact Nat.le_of_lt (small1000 hz), acc.toList, c', ?_, hl⟩
  refine vals_ptw _ _ (by rw [hlen, Array.length_toList, hi.1]) fun i x u e1 e2 => ?_
  obtain ⟨z, hz1, rfl⟩ := vI_got e1
  obtain ⟨t', rfl⟩ := hi.2 i u (by rw [← Array.getElem?_toList]; exact e2)
  have hin : i < n := by
    have := (List.getElem?_eq_some_iff.mp e1).1
    rwa [hlen] at this
  unfold rngL at hz1
  rw [List.getElem?_map, List.getElem?_range hin] at hz1
  cases hz1
  exact ⟨t', rfl⟩
theorem call_intT : CallR X (.type "int") (fun xs H Q => ∃ z n, xs = [.str z] ∧ PySem.intText? z = some n ∧ z.length ≤ 640 ∧ Q (.int n) H) := by
  intro pins s σ H xs us Q I rv h
  obtain ⟨z, n, rfl, hn, hl, q⟩ := h
  obtain ⟨u, rfl, t, rfl⟩ := rv.one
  exact PySem.W.KIN.call_text hn hl ⟨.int n, H, I.tok _, ⟨_, rfl⟩, q⟩
theorem call_sumI (hK : X.K = K := by rfl) (hc : X.calm = true := by rfl) : CallR X (.builtin "sum") (fun xs H Q => ∃ a ns, xs = [.ref a] ∧ SqL K H a (vI ns) ∧ Q (.int ns.sum) H) := by
  subst hK
  intro pins s σ H xs us Q I rv h
  obtain ⟨a, ns, rfl, hq, q⟩ := h
  obtain ⟨u, rfl, ru⟩ := rv.one
  cases ru
  obtain ⟨its, r, pl, hl⟩ := I.list hq
  have hi : IntsAre its ns := intsAre_of r
  obtain ⟨xs, hx⟩ := hi.allInts.items
  have hL : s.heap.IsList a (intItems xs) := by rw [← hx]; exact pl.isList
  refine sum_intListG (I.ok.hd hc) hL fun h' tk t' hk => ?_
  have e1 : xs.toList.map (·.1) = ns := by
    have z : numsOf its.toArray.toList = ns := hi.numsOf
    rw [hx, nums_intItems] at z
    exact z
  rw [show preSum (numAt xs) xs.size = ns.sum by rw [preSum_eq, List.take_of_length_le (by simp), e1]]
  exact ⟨.int ns.sum, H, I.kept hk, ⟨t', rfl⟩, q⟩
theorem in_figs (c : Nat) : (!(Builtin.Str.occurrences "0123456789" ⟨#[c]⟩ 0 (Str.length "0123456789") 1).isEmpty) = decide (48 ≤ c ∧ c ≤ 57) := by
  rw [StrLaws.found_one]
  have e : (("0123456789" : Str)).cps.toList = [48, 49, 50, 51, 52, 53, 54, 55, 56, 57] := by decide +kernel
  rw [e]
  apply decide_eq_decide.mpr
  simp only [List.mem_cons, List.not_mem_nil, or_false]
  omega
end
open PySem PySem.Spec PyProof.Rows
section
variable {X : Cx} {tg : Expr}
def iRng2L (ta : TA) : TI := fun σ H R => ta σ H fun vs H1 => ∃ i j : Int, vs = [.int i, .int j] ∧ R (Itr i (j - i).toNat) H1
end
section
variable {X : Cx}
def rRepS : R2 := fun x y H Q => ∃ u n, x = .str (tx u) ∧ y = .int n ∧ 0 ≤ n ∧ n ≤ 1000000 ∧ u.length * n.toNat ≤ sizeLine ∧ Q (.str (tx (List.replicate n.toNat u).flatten)) H
def rCount : V → List V → Hp → VK → Prop := fun x vs H Q => ∃ u c, x = .str (tx u) ∧ vs = [.str ⟨#[c]⟩] ∧ Q (.int (u.count c : Nat)) H
end
open PySem PySem.Spec PyProof.Rows
section
variable {X : Cx} {K : PySem.W.Frag}
def rIsXT (K : PySem.W.Frag) : List V → Hp → VK → Prop := fun vs H Q => ∃ (a C p : Addr) (Ds : List Addr) (b : Bool), vs = [.ref a, .ref p] ∧ H a = some (exH C a) ∧ ExC K C ∧ H p = some (.tup (Ds.map V.ref)) ∧ PySem.W.kitAny K (.ref C) (Ds.map Value.ref) = some b ∧ Q (.bl b) H
end
open PySem PySem.Spec PyProof.Rows
section
variable {X : Cx} {K : PySem.W.Frag}
def rNeL (K : PySem.W.Frag) : R2 := fun x y H Q => ∃ p q xs ys, x = .ref p ∧ y = .ref q ∧ SqL K H p xs ∧ SqL K H q ys ∧ xs.all flatV = true ∧ ys.all flatV = true ∧ Q (.bl (!eqL xs ys)) H
theorem op_neLK (hu : X.A.units < cLine) (hK : X.K = K := by rfl) : OpR X (compareOp .NotEq) (rNeL K) := by
  subst hK
  intro pins s σ H x y v u Q I rx ry h
  obtain ⟨p, q, xs, ys, rfl, rfl, hx, hy, fx, fy, k⟩ := h
  cases rx
  cases ry
  obtain ⟨its, r, pl, hz⟩ := I.list hx
  obtain ⟨its2, r2, pl2, hz2⟩ := I.list hy
  have l1 := r.length
  have l2 := r2.length
  by_cases hl : xs.length = ys.length
  · refine SeqAt.RcNeAt.lists (e := fun j => eqV (xs.getD j .non) (ys.getD j .non)) pl.isList pl2.isList (by simp only [List.size_toArray]; omega) hu (fun j h1 h2 => ?_) _ _ _ _ ?_
    · have j1 : j < xs.length := by simp only [List.size_toArray] at h1; omega
      have j2 : j < ys.length := by omega
      obtain ⟨w1, e1, q1⟩ := r.get (i := j) (x := xs[j]) (by simp [j1])
      obtain ⟨w2, e2, q2⟩ := r2.get (i := j) (x := ys[j]) (by simp [j2])
      have g1 : its.toArray[j] = w1 := by
        have : its.toArray[j]? = some w1 := by simpa using e1
        exact Option.some.inj ((Array.getElem?_eq_getElem h1).symm.trans this)
      have g2 : its2.toArray[j] = w2 := by
        have : its2.toArray[j]? = some w2 := by simpa using e2
        exact Option.some.inj ((Array.getElem?_eq_getElem h2).symm.trans this)
      rw [g1, g2]
      have d1 : xs.getD j .non = xs[j] := by simp [List.getD, j1]
      have d2 : ys.getD j .non = ys[j] := by simp [List.getD, j2]
      show SeqAt.EqAt _ _ _ _ (eqV (xs.getD j .non) (ys.getD j .non))
      rw [d1, d2]
      exact eqAt_V q1 q2 (List.all_eq_true.mp fx _ (List.getElem_mem j1)) (List.all_eq_true.mp fy _ (List.getElem_mem j2))
    · refine ⟨.bl (!eqL xs ys), H, I, ?_, k⟩
      show Value.bool _ = Value.bool _
      rw [List.size_toArray, ← l1, eqL_range hl]
  · refine SeqAt.RcNeAt.lists_lengths pl.isList pl2.isList (by simp only [List.size_toArray, bne_iff_ne]; omega) hu _ _ _ _ ?_
    exact ⟨.bl (!eqL xs ys), H, I, by rw [eqL_len hl]; rfl, k⟩
end
open PySem PySem.Spec PyProof.Rows
def SamL (K : PySem.W.Frag) (H : Hp) (p q : Addr) : Prop := ∃ as bs : List Addr, SqL K H p (as.map V.ref) ∧ SqL K H q (bs.map V.ref) ∧ as.length = bs.length ∧
  ∀ (i : Nat) (a b : Addr), as[i]? = some a → bs[i]? = some b → ∃ xs : List V, xs.all flatV = true ∧ SqL K H a xs ∧ SqL K H b xs
section
variable {X : Cx} {K : PySem.W.Frag}
def rNeLL (K : PySem.W.Frag) : R2 := fun x y H Q => ∃ p q, x = .ref p ∧ y = .ref q ∧ SamL K H p q ∧ Q (.bl false) H
def rEqLL (K : PySem.W.Frag) : R2 := fun x y H Q => ∃ p q, x = .ref p ∧ y = .ref q ∧ SamL K H p q ∧ Q (.bl true) H
end
open PySem PySem.Spec PyProof.Rows
section
variable {X : Cx} {K : PySem.W.Frag} {o e value : Expr} {f : Str} {pos pos' tpos : Pos} {ta tv : TE} {st : Stmt} {t : TS}
theorem pe_fldK (he : PE X e ta) (hb : attributeBase e f X.env (eval e X.env) = eval e X.env) (hK : X.K = K := by rfl) : PE X (.Attribute e f pos) (tFld K ta f) := by subst hK; exact pe_fld he hb
theorem ps_fldK (ha : PE X o ta) (hv : PE X value tv) (hs : swapsWith value (some (.Attribute o f pos')) pos.line X.env = pure false := by rfl) (hK : X.K = K := by rfl) : PS X (.Assign [.Attribute o f pos'] value pos) (sFld K ta tv f) := by subst hK; exact ps_fld ha hv hs
theorem ps_fldaugK {op : Operator} {rd : V → V → Hp → VK → Prop} (ha : PE X o ta) (hv : PE X value tv) (hop : InOp X op rd) (hK : X.K = K := by rfl) : PS X (.AugAssign (.Attribute o f tpos) op value pos) (sFldAug K ta tv rd f) := by subst hK; exact ps_fldaug ha hv hop
end
structure Own (K : PySem.W.Frag) (C f : Addr) : Prop where
  c : Cls K C
  m : Mk K C f
theorem own_mk {K : PySem.W.Frag} {C f : Addr} (h1 : PySem.W.plainGet K C Str.empty = true) (h2 : PySem.W.hasDictIn K C = true) (h3 : PySem.W.plainOver K C = true) (h4 : PySem.W.findIn K (.ref C) "__setattr__" = some (some (.builtin "object.__setattr__")))
    (h5 : PySem.W.makesIn K C = true) (h6 : PySem.W.findIn K (.ref C) "__init__" = some (some (.ref f))) (h7 : PySem.W.isFn K (.ref f) = true) (h8 : PySem.W.keepIn K (.ref C) = true) : Own K C f := ⟨⟨h1, h2, h3, h4⟩, ⟨h5, h6, h7, h8⟩⟩
open PySem PySem.Spec PyProof.Rows
section
variable {X : Cx} {CX CX' : CXT} {k k' : Nat} {f f' C C' : Addr} {fd fd' : FuncData} {ps ps' : List Str} {sp sp' : Sp} {E : XK} {m : Str} {pos apos : Pos} {o : Expr} {ta : TE}
def tMethD (C C' : Addr) (m : Str) (sp sp' : Sp) (E : XK) (ta : TE) : TE := fun σ H Q => ta σ H fun x H1 => ∃ a dx fs, x = .ref a ∧ fs.lookup m = none ∧
  ((H1 a = some (.ins C dx fs) ∧ sp [x] H1 Q E) ∨ (H1 a = some (.ins C' dx fs) ∧ sp' [x] H1 Q E))
theorem pe_methD {pl : Sem Bool} (he : PE X o ta) (c : Cls X.K C) (hm : Meth X.K C m f) (F : FnOk X.prog X.w X.K X.mg X.base CX k f fd ps sp) (hr : Room k X.A) (hb : Binds X.K fd ps []) (hx : Passes CX X E)
    (c' : Cls X.K C') (hm' : Meth X.K C' m f') (F' : FnOk X.prog X.w X.K X.mg X.base CX' k' f' fd' ps' sp') (hr' : Room k' X.A) (hb' : Binds X.K fd' ps' []) (hx' : Passes CX' X E)
    (ht : eval (.Call (.Attribute o m apos) [] [] pos) X.env = (do
      let ov ← eval o X.env
      standAt apos.atName
      let (f, first) ← holding [ov] (getMethod ov m pl)
      callWith pos f first (backTo pos (starEach [] X.env)) (backToKw pos (keywordEach [] X.env))) := by rfl) :
    PE X (.Call (.Attribute o m apos) [] [] pos) (tMethD C C' m sp sp' E ta) := by
  intro pins s σ H Q I h
  refine PySem.W.methodCall_KW (pl := pl) (thn (he pins s σ H _ I h) fun u s1 ⟨x, H1, I1, rx, a, dx, fs, ex, l, q⟩ => ?_) ht
  subst ex
  obtain rfl : u = Value.ref a := rx
  rcases q with ⟨ea, q⟩ | ⟨ea, q⟩
  · refine getmeth_ok I1 ea c hm l ?_
    exact PySem.W.callWith_K0 (first := [.ref a]) I1.kIn hm.kp (run_fn (us := [.ref a]) (vs := [.ref a]) F hr hb .nil hx I1 (.cons rfl .nil) (by simpa using q))
  · refine getmeth_ok I1 ea c' hm' l ?_
    exact PySem.W.callWith_K0 (first := [.ref a]) I1.kIn hm'.kp (run_fn (us := [.ref a]) (vs := [.ref a]) F' hr' hb' .nil hx' I1 (.cons rfl .nil) (by simpa using q))
end
open PySem PySem.Spec PyProof.Rows
def vB (bs : List Bool) : List V := bs.map V.bl
section
variable {X : Cx} {K : PySem.W.Frag}
end
open PySem PySem.Spec PyProof.Rows
section
variable {X : Cx} {K : PySem.W.Frag}
end
open PySem PySem.Spec PyProof.Rows
def Itz (K : PySem.W.Frag) (a b : Addr) : It where
  go := fun i H => ∃ xs ys x y, SqL K H a xs ∧ SqL K H b ys ∧ xs[i]? = some x ∧ ys[i]? = some y
  yld := fun i H x H' => ∃ T, x = .ref T ∧ H T = none ∧ ∀ xs ys u v, SqL K H a xs → SqL K H b ys → xs[i]? = some u → ys[i]? = some v → H' = upd H T (.tup [u, v])
  stop := fun i H => ∃ xs ys, SqL K H a xs ∧ SqL K H b ys ∧ (xs.length ≤ i ∨ ys.length ≤ i)
def ZipSt (z TI TO i1 i2 a b : Addr) (i : Nat) (h : Heap) : Prop := IsZip h z TI TO .none ∧ IsPair h TI (.ref i1) (.ref i2) ∧ (∃ p q, IsPair h TO p q) ∧ h.IsListIter i1 a i ∧ h.IsListIter i2 b i
section
variable {X : Cx} {es : List Expr} {kx : Nat} {tp : Pos}
def iZip (K : PySem.W.Frag) (ta : TA) : TI := fun σ H R => ta σ H fun vs H1 => ∃ a b, vs = [.ref a, .ref b] ∧ (∃ xs, SqL K H1 a xs) ∧ (∃ ys, SqL K H1 b ys) ∧ R (Itz K a b) H1
end
open PySem PySem.Spec PyProof.Rows
def rInT (K : PySem.W.Frag) : R2 := fun x y H Q => ∃ (p q : Addr) (as : List Addr) (ks : List Int), x = .ref p ∧ y = .ref q ∧ SqL K H q (as.map V.ref) ∧ SqT K H p (vI ks) ∧
  (∀ a ∈ as, ∃ js : List Int, SqT K H a (vI js)) ∧ (∃ a ∈ as, SqT K H a (vI ks)) ∧ Q (.bl true) H
section
variable {X : Cx} {K : PySem.W.Frag}
end
open PySem PySem.Spec PyProof.Rows
section
variable {prog : Program} {w : World} {A : Around} {E : Value → Shared → Prop} {s : Shared}
structure Apart2 (z TI TO i1 i2 : Addr) : Prop where
  TIz : TI ≠ z
  TOz : TO ≠ z
  i1z : i1 ≠ z
  i2z : i2 ≠ z
  TITO : TI ≠ TO
  TIi1 : TI ≠ i1
  TIi2 : TI ≠ i2
  TOi1 : TO ≠ i1
  TOi2 : TO ≠ i2
  i12 : i1 ≠ i2
abbrev strIt (x : Str) (t : Tok) : Obj := { cls := .type (strIterType x), data := .fields #[.str x t, .int 0 0] }
abbrev lstIt (l : Addr) : Obj := { cls := .type "list_iterator", data := .fields #[.ref l, .int 0 0] }
abbrev zHeap (h : Heap) (o1 o2 : Obj) : Heap := ((((h.push o1).push o2).push { cls := .type "tuple", data := .seq #[.ref h.objs.size, .ref (h.push o1).objs.size] }).push { cls := .type "tuple", data := .seq #[.none, .none] }).push
  { cls := .type "zip", data := .fields #[.none, .bool false, .bool false, .ref ((h.push o1).push o2).objs.size, .ref (((h.push o1).push o2).push { cls := .type "tuple", data := .seq #[.ref h.objs.size, .ref (h.push o1).objs.size] }).objs.size] }
abbrev zAddr (h : Heap) (o1 o2 : Obj) : Addr := ((((h.push o1).push o2).push { cls := .type "tuple", data := .seq #[.ref h.objs.size, .ref (h.push o1).objs.size] }).push { cls := .type "tuple", data := .seq #[.none, .none] }).objs.size
end
open PySem PySem.Spec PyProof.Rows
inductive Src where
  | l (a : Addr)
  | s (z : Str)
def srcV : Src → V
  | .l a => .ref a
  | .s z => .str z
def srcOk (K : PySem.W.Frag) (H : Hp) : Src → Prop
  | .l a => ∃ xs, SqL K H a xs
  | .s _ => True
def srcAt (K : PySem.W.Frag) (H : Hp) : Src → Nat → V → Prop
  | .l a, i, v => ∃ xs, SqL K H a xs ∧ xs[i]? = some v
  | .s z, i, v => ∃ c, z.cps[i]? = some c ∧ v = .str ⟨#[c]⟩
def srcEnd (K : PySem.W.Frag) (H : Hp) : Src → Nat → Prop
  | .l a, i => ∃ xs, SqL K H a xs ∧ xs.length = i
  | .s z, i => z.cps.size = i
def srcSt (it : Addr) (t : Tok) : Src → Nat → Heap → Prop
  | .l a, i, h => h.IsListIter it a i
  | .s z, i, h => h.IsStrIter it (strIterType z) z t i
def srcFp (it : Addr) : Src → List Addr
  | .l a => [it, a]
  | .s _ => [it]
def srcIt (t : Tok) : Src → Obj
  | .l a => lstIt a
  | .s z => strIt z t
def Itz2 (K : PySem.W.Frag) (S1 S2 : Src) : It where
  go := fun i H => (∃ u, srcAt K H S1 i u) ∧ ∃ v, srcAt K H S2 i v
  yld := fun i H x H' => ∃ T, x = .ref T ∧ H T = none ∧ ∀ u v, srcAt K H S1 i u → srcAt K H S2 i v → H' = upd H T (.tup [u, v])
  stop := fun i H => srcOk K H S1 ∧ srcOk K H S2 ∧ (srcEnd K H S1 i ∨ ((∃ u, srcAt K H S1 i u) ∧ srcEnd K H S2 i))
def Zip2St (z TI TO i1 i2 : Addr) (t1 t2 : Tok) (S1 S2 : Src) (i : Nat) (h : Heap) : Prop := IsZip h z TI TO .none ∧ IsPair h TI (.ref i1) (.ref i2) ∧ (∃ p q, IsPair h TO p q) ∧ srcSt i1 t1 S1 i h ∧ srcSt i2 t2 S2 i h
section
variable {X : Cx} {es : List Expr} {kx : Nat} {tp : Pos}
def zOk : Src → Src → Prop
  | .s _, .l _ => False
  | _, _ => True
def iZip2 (K : PySem.W.Frag) (ta : TA) : TI := fun σ H R => ta σ H fun vs H1 => ∃ S1 S2, vs = [srcV S1, srcV S2] ∧ zOk S1 S2 ∧ srcOk K H1 S1 ∧ srcOk K H1 S2 ∧ R (Itz2 K S1 S2) H1
end
open PySem PySem.Spec PyProof.Rows
structure CompOk2 (X : Cx) (x x' : Str) (Nc : List Str) (caps : List Nat) (scope : Scope) : Prop where
  kind : scope.kind = .function
  cell : ∀ y ∈ scope.names, y.2 ≠ .cell
  names : ∀ y ∈ scope.names, y.2 = .local → scope.names.lookup y.1 = some .local
  fr : ∀ y ∈ scope.names, y.2 = .free → X.env.scope.names.lookup y.1 = some .cell ∧ scope.names.lookup y.1 = some .free
  loc : scope.names.lookup x = some .local
  loc2 : scope.names.lookup x' = some .local
  len : Nc.length = caps.length + 2
  hd : Nc[0]? = some x
  hd2 : Nc[1]? = some x'
  nd : Nc.Nodup
  cap : ∀ k j, caps[k]? = some j → ∃ y, Nc[k + 2]? = some y ∧ X.N[j]? = some y ∧ scope.names.lookup y = some .free
def tCompW2 (K : PySem.W.Frag) (caps : List Nat) (tc : TT) (te : TE) (J : It) (σ : St) (H : Hp) (Q : VK) : Prop :=
  ∃ W : Nat → Nat → List V → Hp → Prop, (∃ m, W 0 m [] H) ∧ ∀ i m ys H, W i m ys H →
    (J.stop i H ∧ ys.length ≤ sizeLine ∧ ∀ p, H p = none → Q (.ref p) (upd H p (.lst ys))) ∨
    (J.go i H ∧ ys.length < sizeLine ∧ ∀ x H', J.yld i H x H' → ∃ a u v, x = .ref a ∧ SqT K H' a [u, v] ∧ tc (some u :: some v :: capV σ caps) H' fun b H2 =>
      if b = true then te (some u :: some v :: capV σ caps) H2 fun y H3 => ∃ m', m' < m ∧ W (i + 1) m' (ys ++ [y]) H3 else ∃ m', m' < m ∧ W (i + 1) m' ys H2)
def tComp2 (K : PySem.W.Frag) (wi : TI) (caps : List Nat) (tc : TT) (te : TE) : TE := fun σ H Q => wi σ H fun J H1 => tCompW2 K caps tc te J σ H1 Q
section
variable {X : Cx} {pins : List (Addr × Obj)} {σ : St} {H : Hp} {s : Shared}
end
open PySem PySem.Spec PyProof.Rows
section
variable {X : Cx}
def rCountL (K : PySem.W.Frag) : V → List V → Hp → VK → Prop := fun x vs H Q => ∃ a ns k, x = .ref a ∧ vs = [.int k] ∧ SqL K H a (vI ns) ∧ Q (.int (ns.count k : Nat)) H
end
def Ite (K : PySem.W.Frag) (a : Addr) : It where
  go := fun i H => ∃ xs x, SqL K H a xs ∧ xs[i]? = some x
  yld := fun i H x H' => ∃ T, x = .ref T ∧ H T = none ∧ ∀ xs u, SqL K H a xs → xs[i]? = some u → H' = upd H T (.tup [.int (i : Int), u])
  stop := fun i H => ∃ xs, SqL K H a xs ∧ xs.length = i
def EnSt (e it a : Addr) (i : Nat) (h : Heap) : Prop := (∃ old, IsEnum h e it i old) ∧ h.IsListIter it a i
section
variable {X : Cx} {es : List Expr} {kx : Nat} {tp : Pos}
def iEnum (K : PySem.W.Frag) (ta : TA) : TI := fun σ H R => ta σ H fun vs H1 => ∃ a, vs = [.ref a] ∧ (∃ xs, SqL K H1 a xs) ∧ R (Ite K a) H1
end
open PySem PySem.Spec PyProof.Rows
inductive SamV (K : PySem.W.Frag) (H : Hp) : Nat → V → V → Prop where
  | flat {n : Nat} {x : V} (h : flatV x = true) : SamV K H n x x
  | lst {n : Nat} {p q : Addr} {xs ys : List V} (hp : SqL K H p xs) (hq : SqL K H q ys) (hl : xs.length = ys.length) (hi : ∀ (i : Nat) (x y : V), xs[i]? = some x → ys[i]? = some y → SamV K H n x y) : SamV K H (n + 1) (.ref p) (.ref q)
  | tup {n : Nat} {p q : Addr} {xs ys : List V} (hp : SqT K H p xs) (hq : SqT K H q ys) (hl : xs.length = ys.length) (hi : ∀ (i : Nat) (x y : V), xs[i]? = some x → ys[i]? = some y → SamV K H n x y) : SamV K H (n + 1) (.ref p) (.ref q)
section
variable {X : Cx} {K : PySem.W.Frag}
def SamS (K : PySem.W.Frag) (H : Hp) (p q : Addr) : Prop := ∃ xs ys : List V, SqL K H p xs ∧ SqL K H q ys ∧ xs.length = ys.length ∧ ∀ (i : Nat) (x y : V), xs[i]? = some x → ys[i]? = some y → SamV K H 50 x y
def rEqS (K : PySem.W.Frag) : R2 := fun x y H Q => ∃ p q, x = .ref p ∧ y = .ref q ∧ SamS K H p q ∧ Q (.bl true) H
def rNeS (K : PySem.W.Frag) : R2 := fun x y H Q => ∃ p q, x = .ref p ∧ y = .ref q ∧ SamS K H p q ∧ Q (.bl false) H
end
open PySem PySem.Spec PyProof.Rows
section
variable {X : Cx} {K : PySem.W.Frag} {k : Nat} {f C : Addr} {fd : FuncData} {ps : List Str} {sp : Sp} {dvs : List V} {ds : List Value} {x m : Str} {p pos apos : Pos} {e o : Expr} {es : List Expr} {ta : TE} {t : TA}
def rNeE (K : PySem.W.Frag) : R2 := fun x y H Q => ∃ p q xs, x = .ref p ∧ y = .ref q ∧ SqL K H p xs ∧ SqL K H q [] ∧ Q (.bl (!xs.isEmpty)) H
def rEqE (K : PySem.W.Frag) : R2 := fun x y H Q => ∃ p q xs, x = .ref p ∧ y = .ref q ∧ SqL K H p xs ∧ SqL K H q [] ∧ Q (.bl xs.isEmpty) H
end
open PySem PySem.Spec PyProof.Rows PySem.Builtin PySem.Builtin.Str
def jn (c : Nat) : List (List Nat) → List Nat
  | [] => []
  | [w] => w
  | w :: v :: r => w ++ c :: jn c (v :: r)
theorem sep_eq {c : Nat} : ∀ {w v a b : List Nat}, c ∉ w → c ∉ v → w ++ c :: a = v ++ c :: b → w = v ∧ a = b
  | [], [], a, b, _, _, h => ⟨rfl, (List.cons.inj h).2⟩
  | [], x :: v, a, b, _, hv, h => absurd (by have := (List.cons.inj h).1; rw [this]; exact List.mem_cons_self) hv
  | x :: w, [], a, b, hw, _, h => absurd (by have := (List.cons.inj h).1; rw [← this]; exact List.mem_cons_self) hw
  | x :: w, y :: v, a, b, hw, hv, h => by
    have e := List.cons.inj h
    have := sep_eq (w := w) (v := v) (fun z => hw (List.mem_cons_of_mem _ z)) (fun z => hv (List.mem_cons_of_mem _ z)) e.2
    exact ⟨by rw [e.1, this.1], this.2⟩
theorem join_list (c : Nat) : ∀ l : List Str, (Str.join ⟨#[c]⟩ l).cps.toList = jn c (l.map fun z => z.cps.toList)
  | [] => rfl
  | [x] => rfl
  | x :: y :: r => by
    show (x ++ ⟨#[c]⟩ ++ Str.join ⟨#[c]⟩ (y :: r)).cps.toList = x.cps.toList ++ c :: jn c ((y :: r).map fun z => z.cps.toList)
    rw [← join_list c (y :: r)]
    show ((x.cps ++ #[c]) ++ (Str.join ⟨#[c]⟩ (y :: r)).cps).toList = _
    simp
theorem sk_min (z : Str) : 1 ≤ Builtin.Str.strKind z := by
  unfold Builtin.Str.strKind
  split
  · omega
  · split <;> omega
theorem le_sum_mem : ∀ {l : List Nat} {a : Nat}, a ∈ l → a ≤ l.sum
  | [], _, h => by cases h
  | b :: l, a, h => by
    rw [List.sum_cons]
    rcases List.mem_cons.mp h with z | z
    · rw [z]; omega
    · have := le_sum_mem z; omega
theorem vals_strs : ∀ {l : List (Str × Tok)} {ws : List (List Nat)}, l.map (·.1) = ws.map tx → Vals (vS ws) (strValues l)
  | [], [], _ => .nil
  | [], w :: ws, h => by cases h
  | p :: l, [], h => by cases h
  | p :: l, w :: ws, h => by
    have e := List.cons.inj h
    exact .cons ⟨p.2, by rw [← e.1]⟩ (vals_strs e.2)
def rSplit : V → List V → Hp → VK → Prop := fun x vs H Q => ∃ (u : List Nat) (c : Nat) (ws : List (List Nat)), x = .str (tx u) ∧ vs = [.str ⟨#[c]⟩] ∧ c < 256 ∧ u.length + 2 ≤ sizeLine ∧ ws ≠ [] ∧ jn c ws = u ∧ (∀ w ∈ ws, c ∉ w) ∧ ∀ l, H l = none → Q (.ref l) (upd H l (.lst (vS ws)))
open PySem PySem.Spec PyProof.Rows PySem.Builtin PySem.Builtin.Str
def jnS (sp : List Nat) : List (List Nat) → List Nat
  | [] => []
  | [w] => w
  | w :: v :: r => w ++ (sp ++ jnS sp (v :: r))
structure Sgn (sp : List Nat) (c d : Nat) : Prop where
  at' : ∀ i, sp[i]? = some c ↔ i = d
  b : ∀ z ∈ sp, z < 256
theorem Sgn.lt {sp : List Nat} {c d : Nat} (S : Sgn sp c d) : d < sp.length := (List.getElem?_eq_some_iff.mp ((S.at' d).mpr rfl)).1
theorem Sgn.parts {sp : List Nat} {c d : Nat} (S : Sgn sp c d) : ∃ a b, sp = a ++ c :: b ∧ c ∉ a ∧ c ∉ b ∧ a.length = d := by
  have h := S.lt
  refine ⟨sp.take d, sp.drop (d + 1), ?_, fun z => ?_, fun z => ?_, by rw [List.length_take]; omega⟩
  · have e : sp[d] = c := (List.getElem?_eq_some_iff.mp ((S.at' d).mpr rfl)).2
    have : sp.take d ++ sp.drop d = sp := List.take_append_drop d sp
    rw [List.drop_eq_getElem_cons h, e] at this
    exact this.symm
  · obtain ⟨i, hi, e⟩ := List.getElem_of_mem z
    rw [List.length_take] at hi
    have q : (sp.take d)[i]? = some c := by rw [← e]; exact List.getElem?_eq_getElem _
    rw [List.getElem?_take, if_pos (by omega)] at q
    have := (S.at' i).mp q
    omega
  · obtain ⟨i, hi, e⟩ := List.getElem_of_mem z
    have q : (sp.drop (d + 1))[i]? = some c := by rw [← e]; exact List.getElem?_eq_getElem _
    rw [List.getElem?_drop] at q
    have := (S.at' _).mp q
    omega
theorem jnS_count {sp : List Nat} {c d : Nat} (S : Sgn sp c d) : ∀ {ws : List (List Nat)}, ws ≠ [] → (jnS sp ws).count c + 1 = (ws.map (List.count c)).sum + ws.length
  | [], h => absurd rfl h
  | [w], _ => by simp [jnS]
  | w :: v :: r, _ => by
    have ih := jnS_count S (ws := v :: r) (by simp)
    obtain ⟨a, b, e, na, nb, _⟩ := S.parts
    have one : sp.count c = 1 := by rw [e, List.count_append, List.count_cons_self, List.count_eq_zero.mpr na, List.count_eq_zero.mpr nb]
    rw [jnS, List.count_append, List.count_append, one, List.map_cons, List.sum_cons, List.length_cons]
    omega
theorem sepS_eq {sp : List Nat} {c d : Nat} (S : Sgn sp c d) {w v a b : List Nat} (hw : c ∉ w) (hv : c ∉ v) (h : w ++ (sp ++ a) = v ++ (sp ++ b)) : w = v ∧ a = b := by
  obtain ⟨p, q, e, np, nq, _⟩ := S.parts
  have h' : (w ++ p) ++ c :: (q ++ a) = (v ++ p) ++ c :: (q ++ b) := by rw [e] at h; simpa using h
  have := sep_eq (fun z => (List.mem_append.mp z).elim hw np) (fun z => (List.mem_append.mp z).elim hv np) h'
  exact ⟨List.append_cancel_right this.1, List.append_cancel_left this.2⟩
theorem Sgn.mem {sp : List Nat} {c d : Nat} (S : Sgn sp c d) : c ∈ sp := List.mem_of_getElem? ((S.at' d).mpr rfl)
theorem jnS_inj {sp : List Nat} {c d : Nat} (S : Sgn sp c d) : ∀ {ws vs : List (List Nat)}, ws ≠ [] → vs ≠ [] → (∀ w ∈ ws, c ∉ w) → (∀ v ∈ vs, c ∉ v) → jnS sp ws = jnS sp vs → ws = vs
  | [], _, h, _, _, _, _ => absurd rfl h
  | _, [], _, h, _, _, _ => absurd rfl h
  | [w], [v], _, _, _, _, e => by rw [show w = v from e]
  | [w], v :: v' :: r, _, _, hw, _, e => absurd (show c ∈ w by rw [show w = v ++ (sp ++ jnS sp (v' :: r)) from e]; simp [S.mem]) (hw w List.mem_cons_self)
  | w :: w' :: r, [v], _, _, _, hv, e => absurd (show c ∈ v by rw [← show w ++ (sp ++ jnS sp (w' :: r)) = v from e]; simp [S.mem]) (hv v List.mem_cons_self)
  | w :: w' :: r, v :: v' :: r', _, _, hw, hv, e => by
    have h := sepS_eq S (hw w List.mem_cons_self) (hv v List.mem_cons_self) (show w ++ (sp ++ jnS sp (w' :: r)) = v ++ (sp ++ jnS sp (v' :: r')) from e)
    rw [h.1, jnS_inj S (ws := w' :: r) (vs := v' :: r') (by simp) (by simp) (fun x hx => hw x (List.mem_cons_of_mem _ hx)) (fun x hx => hv x (List.mem_cons_of_mem _ hx)) h.2]
theorem joinS_list (sp : List Nat) : ∀ l : List Str, (Str.join (tx sp) l).cps.toList = jnS sp (l.map fun z => z.cps.toList)
  | [] => rfl
  | [x] => rfl
  | x :: y :: r => by
    show (x ++ tx sp ++ Str.join (tx sp) (y :: r)).cps.toList = x.cps.toList ++ (sp ++ jnS sp ((y :: r).map fun z => z.cps.toList))
    rw [← joinS_list sp (y :: r)]
    show ((x.cps ++ (tx sp).cps) ++ (Str.join (tx sp) (y :: r)).cps).toList = _
    simp [tx]
theorem jnS_c {sp : List Nat} {c d : Nat} (S : Sgn sp c d) : ∀ {ws : List (List Nat)}, (∀ w ∈ ws, c ∉ w) → ∀ p, (jnS sp ws)[p]? = some c → d ≤ p ∧ ∀ i, i < sp.length → (jnS sp ws)[p - d + i]? = sp[i]?
  | [], _, p, h => by simp [jnS] at h
  | [w], no, p, h => absurd (List.mem_of_getElem? h) (no w List.mem_cons_self)
  | w :: v :: r, no, p, h => by
    rw [jnS] at h ⊢
    by_cases c1 : p < w.length
    · rw [List.getElem?_append_left c1] at h
      exact absurd (List.mem_of_getElem? h) (no w List.mem_cons_self)
    · rw [List.getElem?_append_right (by omega)] at h
      by_cases c2 : p - w.length < sp.length
      · rw [List.getElem?_append_left c2] at h
        have e := (S.at' _).mp h
        refine ⟨by omega, fun i hi => ?_⟩
        rw [List.getElem?_append_right (by omega), List.getElem?_append_left (by omega)]
        congr 1
        omega
      · rw [List.getElem?_append_right (by omega)] at h
        have ih := jnS_c S (ws := v :: r) (fun x hx => no x (List.mem_cons_of_mem _ hx)) _ h
        refine ⟨by omega, fun i hi => ?_⟩
        rw [List.getElem?_append_right (by omega), List.getElem?_append_right (by omega), ← ih.2 i hi]
        congr 1
        omega
theorem jnS_gap {sp : List Nat} {c d : Nat} (S : Sgn sp c d) : ∀ {ws : List (List Nat)}, (∀ w ∈ ws, c ∉ w) → ∀ p p', (jnS sp ws)[p]? = some c → (jnS sp ws)[p']? = some c → p < p' → p + sp.length ≤ p'
  | [], _, p, p', h, _, _ => by simp [jnS] at h
  | [w], no, p, p', h, _, _ => absurd (List.mem_of_getElem? h) (no w List.mem_cons_self)
  | w :: v :: r, no, p, p', h, h', lt => by
    rw [jnS] at h h'
    have c1 : ¬ p < w.length := fun c1 => by
      rw [List.getElem?_append_left c1] at h
      exact absurd (List.mem_of_getElem? h) (no w List.mem_cons_self)
    rw [List.getElem?_append_right (by omega)] at h h'
    have no' : ∀ x ∈ v :: r, c ∉ x := fun x hx => no x (List.mem_cons_of_mem _ hx)
    by_cases c2 : p - w.length < sp.length
    · rw [List.getElem?_append_left c2] at h
      have e := (S.at' _).mp h
      by_cases c3 : p' - w.length < sp.length
      · rw [List.getElem?_append_left c3] at h'
        have e' := (S.at' _).mp h'
        omega
      · rw [List.getElem?_append_right (by omega)] at h'
        have := (jnS_c S no' _ h').1
        omega
    · rw [List.getElem?_append_right (by omega)] at h h'
      have := jnS_gap S no' _ _ h h' (by omega)
      omega
theorem ext_list (u : List Nat) (i n : Nat) : ((tx u).cps.extract i n).toList = (u.drop i).take (n - i) := by
  show ((u.toArray).extract i n).toList = _
  rw [Array.toList_extract, List.extract_eq_drop_take]
theorem subAt_iff {u sp : List Nat} {j : Nat} : Builtin.Str.subAt (tx u) (tx sp) j = true ↔ (u.drop j).take sp.length = sp := by
  unfold Builtin.Str.subAt
  rw [beq_iff_eq, ← Array.toList_inj, ext_list, tx_len, show j + sp.length - j = sp.length by omega, tx_list]
theorem occ_runS {u sp : List Nat} {c d limit : Nat} (M : ∀ j, u[j + d]? = some c ↔ (j + (tx sp).length ≤ (tx u).length ∧ Builtin.Str.subAt (tx u) (tx sp) j = true)) (G : ∀ j j', u[j + d]? = some c → u[j' + d]? = some c → j < j' → j + (tx sp).length ≤ j') : ∀ (k i : Nat) (acc : Array Nat) (free : Nat), (∀ j, i ≤ j → u[j + d]? = some c → free ≤ j) → acc.size + k ≤ limit →
    (forIn (List.range' i k) (acc, free) (StrLaws.occBody (tx u) (tx sp) (tx u).length limit)).run.fst.size = acc.size + ((u.drop (i + d)).take k).count c
  | 0, i, acc, free, _, _ => by simp
  | k + 1, i, acc, free, hf, hl => by
    rw [List.range'_succ, List.forIn_cons]
    by_cases hc : u[i + d]? = some c
    · have h1 := (M i).mp hc
      have e : StrLaws.occBody (tx u) (tx sp) (tx u).length limit i (acc, free) = pure (ForInStep.yield (acc.push i, i + (tx sp).length)) := by
        unfold StrLaws.occBody
        rw [if_pos ⟨⟨⟨by show acc.size < limit; omega, hf i (Nat.le_refl _) hc⟩, h1.1⟩, h1.2⟩]
      rw [e]
      have ih := occ_runS (limit := limit) M G k (i + 1) (acc.push i) (i + (tx sp).length) (fun j hj hj' => G i j hc hj' (by omega)) (by rw [Array.size_push]; omega)
      have hd : u.drop (i + d) = c :: u.drop (i + 1 + d) := by
        obtain ⟨hlt, he⟩ := List.getElem?_eq_some_iff.mp hc
        rw [List.drop_eq_getElem_cons hlt, he, show i + d + 1 = i + 1 + d by omega]
      rw [hd, List.take_succ_cons, List.count_cons_self]
      rw [Array.size_push] at ih
      refine Eq.trans ih ?_
      omega
    · have h1 : ¬ (i + (tx sp).length ≤ (tx u).length ∧ Builtin.Str.subAt (tx u) (tx sp) i = true) := fun z => hc ((M i).mpr z)
      have e : StrLaws.occBody (tx u) (tx sp) (tx u).length limit i (acc, free) = pure (ForInStep.yield (acc, free)) := by
        unfold StrLaws.occBody
        rw [if_neg fun z => h1 ⟨z.1.2, z.2⟩]
      rw [e]
      have ih := occ_runS (limit := limit) M G k (i + 1) acc free (fun j hj => hf j (by omega)) (by omega)
      refine Eq.trans ih ?_
      congr 1
      by_cases hlt : i + d < u.length
      · rw [List.drop_eq_getElem_cons hlt, List.take_succ_cons, List.count_cons_of_ne, show i + d + 1 = i + 1 + d by omega]
        intro z
        exact hc (by rw [List.getElem?_eq_getElem hlt]; exact congrArg some z)
      · rw [List.drop_eq_nil_of_le (by omega), List.drop_eq_nil_of_le (by omega)]
        simp
theorem count_sep {sp : List Nat} {c d : Nat} (S : Sgn sp c d) {ws : List (List Nat)} (no : ∀ w ∈ ws, c ∉ w) : (Builtin.Str.occurrences (tx (jnS sp ws)) (tx sp) 0 (tx (jnS sp ws)).length ((tx (jnS sp ws)).length + 1)).length = (jnS sp ws).count c := by
  rw [StrLaws.occ_eq]
  have dl := S.lt
  have hc := jnS_c S no
  have hg := jnS_gap S no
  generalize jnS sp ws = u at hc hg ⊢
  have M : ∀ j, u[j + d]? = some c ↔ (j + (tx sp).length ≤ (tx u).length ∧ Builtin.Str.subAt (tx u) (tx sp) j = true) := fun j => by
    rw [subAt_iff, tx_len, tx_len]
    constructor
    · intro h
      have q := (hc _ h).2
      rw [show j + d - d = j by omega] at q
      have hl : j + sp.length ≤ u.length := by
        have := q (sp.length - 1) (by omega)
        rw [List.getElem?_eq_getElem (l := sp) (show sp.length - 1 < sp.length by omega)] at this
        have := (List.getElem?_eq_some_iff.mp this).1
        omega
      refine ⟨hl, List.ext_getElem? fun i => ?_⟩
      rw [List.getElem?_take]
      split
      · rw [List.getElem?_drop, q i (by assumption)]
      · rw [List.getElem?_eq_none (by omega)]
    · rintro ⟨hl, e⟩
      have : ((u.drop j).take sp.length)[d]? = sp[d]? := by rw [e]
      rw [List.getElem?_take, if_pos dl, List.getElem?_drop, (S.at' d).mpr rfl] at this
      exact this
  have G : ∀ j j', u[j + d]? = some c → u[j' + d]? = some c → j < j' → j + (tx sp).length ≤ j' := fun j j' h h' l => by
    have := hg _ _ h h' (by omega)
    rw [tx_len]
    omega
  have := occ_runS (limit := (tx u).length + 1) M G ((tx u).length + 1 - 0) 0 #[] 0 (fun _ _ _ => Nat.zero_le _) (by simp)
  rw [Array.length_toList, this, tx_len]
  have t0 : (u.take d).count c = 0 := List.count_eq_zero.mpr fun z => by
    obtain ⟨i, hi, e⟩ := List.getElem_of_mem z
    rw [List.length_take] at hi
    have q : (u.take d)[i]? = some c := by rw [← e]; exact List.getElem?_eq_getElem _
    rw [List.getElem?_take, if_pos (by omega)] at q
    have := (hc _ q).1
    omega
  have e : u.count c = (u.take d).count c + (u.drop d).count c := by rw [← List.count_append, List.take_append_drop]
  rw [e, t0, List.take_of_length_le (by rw [List.length_drop]; omega)]
  simp
theorem sk_all {sp : List Nat} (h : ∀ z ∈ sp, z < 256) : Builtin.Str.strKind (tx sp) = 1 := by
  unfold Builtin.Str.strKind
  rw [if_pos]
  rw [← Array.all_toList, tx_list, List.all_eq_true]
  exact fun z hz => decide_eq_true (h z hz)
theorem splitS_len {sp : List Nat} {c d : Nat} (S : Sgn sp c d) {ws : List (List Nat)} (ne : ws ≠ []) (no : ∀ w ∈ ws, c ∉ w) : (Txt.split (tx (jnS sp ws)) (tx sp)).length = ws.length := by
  have n := count_sep S no
  have k := jnS_count S ne
  have s0 : (ws.map (List.count c)).sum = 0 := by
    clear n k ne
    induction ws with
    | nil => rfl
    | cons w r ih => rw [List.map_cons, List.sum_cons, List.count_eq_zero.mpr (no w List.mem_cons_self), ih fun x hx => no x (List.mem_cons_of_mem _ hx)]
  unfold Txt.split
  split
  · rename_i h
    have lt : (tx (jnS sp ws)).length < (tx sp).length := by
      rcases Bool.or_eq_true_iff.mp h with h | h
      · exact of_decide_eq_true h
      · have := of_decide_eq_true h
        rw [sk_all S.b] at this
        have := sk_min (tx (jnS sp ws))
        omega
    rw [tx_len, tx_len] at lt
    have : (jnS sp ws).count c = 0 := List.count_eq_zero.mpr fun z => by
      obtain ⟨i, hi, e⟩ := List.getElem_of_mem z
      have q := (jnS_c S no i (by rw [← e]; exact List.getElem?_eq_getElem _)).2 (sp.length - 1) (by have := S.lt; omega)
      rw [List.getElem?_eq_getElem (l := sp) (show sp.length - 1 < sp.length by have := S.lt; omega)] at q
      have := (List.getElem?_eq_some_iff.mp q).1
      omega
    show 1 = _
    omega
  · split
    · rename_i h
      rw [List.isEmpty_iff] at h
      rw [h] at n
      show 1 = _
      simp at n
      omega
    · rw [length_partsBetween, n]
      omega
theorem splitS_is {sp : List Nat} {c d : Nat} (S : Sgn sp c d) {ws : List (List Nat)} (ne : ws ≠ []) (no : ∀ w ∈ ws, c ∉ w) : Txt.split (tx (jnS sp ws)) (tx sp) = ws.map tx := by
  have l := splitS_len S ne no
  have j := congrArg (fun z : Str => z.cps.toList) (StrLaws.join_split (tx (jnS sp ws)) (tx sp))
  rw [joinS_list, tx_list] at j
  generalize Txt.split (tx (jnS sp ws)) (tx sp) = ps at l j
  obtain ⟨qs, eqs⟩ : ∃ qs, qs = ps.map fun z => z.cps.toList := ⟨_, rfl⟩
  rw [← eqs] at j
  have ql : qs.length = ps.length := by rw [eqs, List.length_map]
  have wl : 0 < ws.length := List.length_pos_iff.mpr ne
  have qne : qs ≠ [] := fun z => by rw [z] at ql; simp at ql; omega
  have cnt := jnS_count S qne
  have cnt2 := jnS_count S ne
  have s0 : (ws.map (List.count c)).sum = 0 := by
    clear cnt2 cnt l j ql wl ne
    induction ws with
    | nil => rfl
    | cons w r ih => rw [List.map_cons, List.sum_cons, List.count_eq_zero.mpr (no w List.mem_cons_self), ih fun x hx => no x (List.mem_cons_of_mem _ hx)]
  rw [j, ql, l] at cnt
  have s1 : (qs.map (List.count c)).sum = 0 := by omega
  have qno : ∀ w ∈ qs, c ∉ w := fun w hw z => by
    have h1 : w.count c ≤ (qs.map (List.count c)).sum := le_sum_mem (List.mem_map.mpr ⟨w, hw, rfl⟩)
    have h2 := List.count_pos_iff.mpr z
    omega
  have e : qs = ws := jnS_inj S qne ne qno no j
  rw [← e, eqs, List.map_map]
  exact (List.map_id' ps).symm.trans (List.map_congr_left fun z _ => by rfl)
def rSplitS : V → List V → Hp → VK → Prop := fun x vs H Q => ∃ (sp : List Nat) (c d : Nat) (ws : List (List Nat)), x = .str (tx (jnS sp ws)) ∧ vs = [.str (tx sp)] ∧ Sgn sp c d ∧ (jnS sp ws).length + 2 ≤ sizeLine ∧ ws ≠ [] ∧ (∀ w ∈ ws, c ∉ w) ∧ ∀ l, H l = none → Q (.ref l) (upd H l (.lst (vS ws)))
theorem mt_splitS {X : Cx} : MtR X "str.split" rSplitS := by
  intro pins s σ H x vs v us Q I rx rv h
  obtain ⟨sp, c, d, ws, rfl, rfl, hc, hz, ne, no, q⟩ := h
  obtain ⟨t, rfl⟩ := rx
  obtain ⟨u', rfl, ru⟩ := rv.one
  obtain ⟨t', rfl⟩ := ru
  have es := splitS_is hc ne no
  have wl : ws.length ≤ (jnS sp ws).length + 1 := by
    have := jnS_count hc ne
    have := List.count_le_length (a := c) (l := jnS sp ws)
    omega
  generalize jnS sp ws = u at es hz wl ⊢
  have hlen : (tx u).length + 2 ≤ sizeLine := by rw [tx_len]; exact hz
  have fin : ∀ (l : List (Str × Tok)) (tk : Nat), l.map (·.1) = Txt.split (tx u) (tx sp) → EP X pins σ Q (.ref s.heap.objs.size) { s with heap := s.heap.push { cls := .type "list", data := .seq (strValues l).toArray }, toks := tk } := fun l tk e =>
    ⟨.ref s.heap.objs.size, _, I.laid (t' := tk) (fun b o e => Heap.get?_push_of_some _ e) (Nat.le_refl _) (show ObjOk X.prog X.w _ _ _ (.lst (vS ws)) from ⟨by rw [vS_len]; omega, _, _, vals_strs (e.trans es), Heap.get?_push_size _ rfl⟩), rfl, q _ (I.hok.fresh (Nat.le_refl _))⟩
  have hy : ((tx sp).length == 0) = false := by rw [tx_len]; have := hc.lt; rw [beq_eq_false_iff_ne]; omega
  have hn : (partsBetween (tx u) (occurrences (tx u) (tx sp) 0 (tx u).length ((tx u).length + 1)) ((tx sp)).length).length ≤ sizeLine := by
    have e1 := StrLaws.occ_length_le (tx u) (tx sp) 0 (tx u).length ((tx u).length + 1)
    rw [length_partsBetween]; omega
  cases h1 : (decide ((tx u).length < ((tx sp)).length) || decide (Builtin.Str.strKind (tx u) < Builtin.Str.strKind (tx sp)))
  · cases hf : (occurrences (tx u) (tx sp) 0 (tx u).length ((tx u).length + 1)).isEmpty
    · refine call_meets F.slot_str_split (typeIs_str _ _ _) F.entry_str_split (F.args_str_split_2 _ _) (meets_str_split_sep (tx u) (tx sp) t t' h1 hy hf (by omega) hn) ?_
      show wants (EP X pins σ Q) _ _ { s with toks := _, heap := s.heap.push { cls := .type "list", data := .seq (strsFrom s.toks (partsBetween (tx u) (occurrences (tx u) (tx sp) 0 (tx u).length ((tx u).length + 1)) ((tx sp)).length)).toArray } }
      rw [strsFrom_eq]
      exact fin (numbered s.toks _) _ ((numbered_texts _ _).trans ((if_neg (ne_true_of_eq_false h1)).trans (if_neg (ne_true_of_eq_false hf))).symm)
    · exact call_meets F.slot_str_split (typeIs_str _ _ _) F.entry_str_split (F.args_str_split_2 _ _) (meets_str_split_not_found (tx u) (tx sp) t t' h1 hy hf)
        (fin [(tx u, t)] s.toks ((if_neg (ne_true_of_eq_false h1)).trans (if_pos hf)).symm)
  · exact call_meets F.slot_str_split (typeIs_str _ _ _) F.entry_str_split (F.args_str_split_2 _ _) (meets_str_split_cannot_occur (tx u) (tx sp) t t' h1)
      (fin [(tx u, t)] s.toks (if_pos h1).symm)
theorem sgn_parts : Sgn [32, 47, 32] 47 1 := by
  refine ⟨fun i => ?_, by decide⟩
  match i with
  | 0 => simp
  | 1 => simp
  | 2 => simp
  | _ + 3 => simp
theorem sgn_ties : Sgn [44, 32] 44 0 := by
  refine ⟨fun i => ?_, by decide⟩
  match i with
  | 0 => simp
  | 1 => simp
  | _ + 2 => simp
end L2
namespace Mine
open L2
def Sg (c : Nat) : Prop := c = 35 ∨ c = 46
structure Cl (cl : List (List Nat)) (m n : Nat) : Prop where
  hn : cl.length = n
  hm : ∀ t ∈ cl, t.length = m
  sg : ∀ t ∈ cl, ∀ c ∈ t, Sg c
  m1 : 1 ≤ m
  m40 : m ≤ 40
  n1 : 1 ≤ n
  n40 : n ≤ 40
def flip (c : Nat) : Nat := if c = 35 then 46 else 35
def back (cl : List (List Nat)) : List (List Nat) := cl.map fun t => t.reverse.map flip
def col (cl : List (List Nat)) (e : Nat) : List Nat := cl.map fun t => t.getD e 0
def quart (cl : List (List Nat)) (m : Nat) : List (List Nat) := (List.range m).map fun e => (col cl e).map flip
def sgn (cl : List (List Nat)) (m n : Nat) (x y : Int) : Nat := (cl.getD (y % (n : Int)).toNat []).getD (x % (m : Int)).toNat 0
def Rs (ks : List Int) : Prop := (∀ (i : Nat) (a b : Int), ks[i]? = some a → ks[i + 1]? = some b → a < b) ∧ ∀ k ∈ ks, 0 ≤ k ∧ k < 40
theorem rs_nil : Rs [] := ⟨fun i a b h => by simp at h, fun k h => by cases h⟩
theorem rs_add {ks : List Int} {z : Int} (h : Rs ks) (hz : ∀ k ∈ ks, k < z) (h0 : 0 ≤ z) (h1 : z < 40) : Rs (ks ++ [z]) := by
  refine ⟨fun i a b ha hb => ?_, fun k hk => ?_⟩
  · by_cases hi : i + 1 < ks.length
    · rw [List.getElem?_append_left (by omega)] at ha
      rw [List.getElem?_append_left hi] at hb
      exact h.1 i a b ha hb
    · by_cases hi2 : i < ks.length
      · rw [List.getElem?_append_left hi2] at ha
        rw [List.getElem?_append_right (by omega)] at hb
        have e : i + 1 - ks.length = 0 := by omega
        rw [e] at hb
        have : b = z := by simpa using hb.symm
        rw [this]
        exact hz a (List.mem_of_getElem? ha)
      · rw [List.getElem?_append_right (by omega)] at hb
        have : ([z] : List Int)[i + 1 - ks.length]? = none := by
          apply List.getElem?_eq_none
          simp
          omega
        rw [this] at hb
        cases hb
  · rcases List.mem_append.mp hk with h2 | h2
    · exact h.2 k h2
    · rw [List.mem_singleton.mp h2]; exact ⟨h0, h1⟩
structure Ft (th : List Int) (tss : List (List Int)) (tr : List Int) : Prop where
  m1 : 1 ≤ th.length
  m40 : th.length ≤ 40
  t1 : 1 ≤ tss.length
  t40 : tss.length ≤ 40
  n1 : 1 ≤ tr.length
  n40 : tr.length ≤ 40
  hth : ∀ v ∈ th, 0 ≤ v ∧ v < 40
  hti : ∀ ks ∈ tss, Rs ks
  htr : ∀ v ∈ tr, 0 ≤ v ∧ v < tss.length
def shd (th ks : List Int) : List Nat := th.map fun s => if s ∈ ks then 35 else 46
def wv (th : List Int) (tss : List (List Int)) (tr : List Int) : List (List Nat) := tr.map fun v => shd th (tss.getD v.toNat [])
end Mine
set_option maxHeartbeats 4000000
namespace Mine
open PySem L2
def top (i : Nat) : Stmt := PySem.Challenge.pw_heddle_k11_drafts_written.main.body.getD i (.Pass ⟨0, 0, 0, 0⟩)
abbrev s_check_setting : Stmt := top 9
theorem sc_check_setting : FnScope ["threading", "ties", "shaft", "tie"] ["threading", "ties"] (defScope s_check_setting) := ⟨rfl, rfl, rfl, by decide +kernel, rfl, by decide +kernel, by decide +kernel⟩
abbrev s_check_count : Stmt := top 10
theorem sc_check_count : FnScope ["count"] ["count"] (defScope s_check_count) := ⟨rfl, rfl, rfl, by decide +kernel, rfl, by decide +kernel, by decide +kernel⟩
abbrev s_check_shaft : Stmt := top 11
theorem sc_check_shaft : FnScope ["shaft"] ["shaft"] (defScope s_check_shaft) := ⟨rfl, rfl, rfl, by decide +kernel, rfl, by decide +kernel, by decide +kernel⟩
abbrev s_check_tie : Stmt := top 12
theorem sc_check_tie : FnScope ["tie", "k"] ["tie"] (defScope s_check_tie) := ⟨rfl, rfl, rfl, by decide +kernel, rfl, by decide +kernel, by decide +kernel⟩
abbrev s_check_treading : Stmt := top 13
theorem sc_check_treading : FnScope ["treading", "treadles", "treadle"] ["treading", "treadles"] (defScope s_check_treading) := ⟨rfl, rfl, rfl, by decide +kernel, rfl, by decide +kernel, by decide +kernel⟩
abbrev s_number_of : Stmt := top 17
theorem sc_number_of : FnScope ["figures"] ["figures"] (defScope s_number_of) := ⟨rfl, rfl, rfl, by decide +kernel, rfl, by decide +kernel, by decide +kernel⟩
abbrev s_unfolded : Stmt := top 23
theorem sc_unfolded : FnScope ["text", "row_items"] ["text"] (defScope s_unfolded) := ⟨rfl, rfl, rfl, by decide +kernel, rfl, by decide +kernel, by decide +kernel⟩
abbrev s_shown : Stmt := top 24
theorem sc_shown : FnScope ["row"] ["row"] (defScope s_shown) := ⟨rfl, rfl, rfl, by decide +kernel, rfl, by decide +kernel, by decide +kernel⟩
abbrev s_whole_size : Stmt := top 25
theorem sc_whole_size : FnScope ["row_items"] ["row_items"] (defScope s_whole_size) := ⟨rfl, rfl, rfl, by decide +kernel, rfl, by decide +kernel, by decide +kernel⟩
abbrev s_all_numbers : Stmt := top 26
theorem sc_all_numbers : FnScope ["row_items", "written", "item"] ["row_items"] (defScope s_all_numbers) := ⟨rfl, rfl, rfl, by decide +kernel, rfl, by decide +kernel, by decide +kernel⟩
abbrev s_steps_between : Stmt := top 27
theorem sc_steps_between : FnScope ["start", "stop"] ["start", "stop"] (defScope s_steps_between) := ⟨rfl, rfl, rfl, by decide +kernel, rfl, by decide +kernel, by decide +kernel⟩
abbrev s_read_row : Stmt := top 28
theorem sc_read_row : FnScope ["text", "reader", "row_items"] ["text"] (defScope s_read_row) := ⟨rfl, rfl, rfl, by decide +kernel, rfl, by decide +kernel, by decide +kernel⟩
abbrev s_read_items : Stmt := top 29
theorem sc_read_items : FnScope ["reader", "depth", "row_items"] ["reader", "depth"] (defScope s_read_items) := ⟨rfl, rfl, rfl, by decide +kernel, rfl, by decide +kernel, by decide +kernel⟩
abbrev s_read_item : Stmt := top 30
theorem sc_read_item : FnScope ["reader", "depth", "first"] ["reader", "depth"] (defScope s_read_item) := ⟨rfl, rfl, rfl, by decide +kernel, rfl, by decide +kernel, by decide +kernel⟩
abbrev s_read_times : Stmt := top 31
theorem sc_read_times : FnScope ["reader", "count", "depth", "inner"] ["reader", "count", "depth"] (defScope s_read_times) := ⟨rfl, rfl, rfl, by decide +kernel, rfl, by decide +kernel, by decide +kernel⟩
abbrev s_read_path : Stmt := top 32
theorem sc_read_path : FnScope ["reader", "first", "stops"] ["reader", "first"] (defScope s_read_path) := ⟨rfl, rfl, rfl, by decide +kernel, rfl, by decide +kernel, by decide +kernel⟩
abbrev s_read_number : Stmt := top 33
theorem sc_read_number : FnScope ["reader", "number"] ["reader"] (defScope s_read_number) := ⟨rfl, rfl, rfl, by decide +kernel, rfl, by decide +kernel, by decide +kernel⟩
abbrev s_parted : Stmt := top 34
theorem sc_parted : FnScope ["row", "paths", "number"] ["row"] (defScope s_parted) := ⟨rfl, rfl, rfl, by decide +kernel, rfl, by decide +kernel, by decide +kernel⟩
abbrev s_written_path : Stmt := top 35
theorem sc_written_path : FnScope ["path"] ["path"] (defScope s_written_path) := ⟨rfl, rfl, rfl, by decide +kernel, rfl, by decide +kernel, by decide +kernel⟩
abbrev s_is_stop : Stmt := top 36
theorem sc_is_stop : FnScope ["path", "k"] ["path", "k"] (defScope s_is_stop) := ⟨rfl, rfl, rfl, by decide +kernel, rfl, by decide +kernel, by decide +kernel⟩
abbrev s_written_draft : Stmt := top 40
theorem sc_written_draft : FnScope ["draft", "ties"] ["draft"] (defScope s_written_draft) := ⟨rfl, rfl, rfl, by decide +kernel, rfl, by decide +kernel, by decide +kernel⟩
abbrev s_read_draft : Stmt := top 41
theorem sc_read_draft : FnScope ["text", "parts", "threading", "ties"] ["text"] (defScope s_read_draft) := ⟨rfl, rfl, rfl, by decide +kernel, rfl, by decide +kernel, by decide +kernel⟩
abbrev s_law_numbers : Stmt := top 43
theorem sc_law_numbers : FnScope ["script", "many", "mixed", "found", "k"] ["script", "many"] (defScope s_law_numbers) := ⟨rfl, rfl, rfl, by decide +kernel, rfl, by decide +kernel, by decide +kernel⟩
abbrev s_law_subset : Stmt := top 44
theorem sc_law_subset : FnScope ["number", "found", "shaft"] ["number"] (defScope s_law_subset) := ⟨rfl, rfl, rfl, by decide +kernel, rfl, by decide +kernel, by decide +kernel⟩
abbrev s_law_draft_by : Stmt := top 45
theorem sc_law_draft_by : FnScope ["numbers", "ends", "treadles", "picks", "high", "threading", "ties", "at", "treading"] ["numbers"] (defScope s_law_draft_by) := ⟨rfl, rfl, rfl, by decide +kernel, rfl, by decide +kernel, by decide +kernel⟩
abbrev s_law_numbers_same : Stmt := top 46
theorem sc_law_numbers_same : FnScope ["found", "due", "k"] ["found", "due"] (defScope s_law_numbers_same) := ⟨rfl, rfl, rfl, by decide +kernel, rfl, by decide +kernel, by decide +kernel⟩
abbrev s_law_draft_same : Stmt := top 47
theorem sc_law_draft_same : FnScope ["draft", "threading", "ties", "treading", "k"] ["draft", "threading", "ties", "treading"] (defScope s_law_draft_same) := ⟨rfl, rfl, rfl, by decide +kernel, rfl, by decide +kernel, by decide +kernel⟩
abbrev s_law_other_writing : Stmt := top 48
theorem sc_law_other_writing : FnScope ["row", "way", "pieces", "number", "piece"] ["row", "way"] (defScope s_law_other_writing) := ⟨rfl, rfl, rfl, by decide +kernel, rfl, by decide +kernel, by decide +kernel⟩
abbrev s_law_joined : Stmt := top 49
theorem sc_law_joined : FnScope ["threading", "ties", "treading"] ["threading", "ties", "treading"] (defScope s_law_joined) := ⟨rfl, rfl, rfl, by decide +kernel, rfl, by decide +kernel, by decide +kernel⟩
abbrev s_law : Stmt := top 50
theorem sc_law : FnScope ["script", "numbers", "built", "ties", "due", "draft", "text", "ways", "other"] ["script"] (defScope s_law) := ⟨rfl, rfl, rfl, by decide +kernel, rfl, by decide +kernel, by decide +kernel⟩
abbrev s_WeaveError_called : Stmt := (clsBody (top 1)).getD 0 (.Pass ⟨0, 0, 0, 0⟩)
abbrev s_NoRow_called : Stmt := (clsBody (top 2)).getD 0 (.Pass ⟨0, 0, 0, 0⟩)
abbrev s_TooLarge_called : Stmt := (clsBody (top 3)).getD 0 (.Pass ⟨0, 0, 0, 0⟩)
abbrev s_NoDraft_called : Stmt := (clsBody (top 4)).getD 0 (.Pass ⟨0, 0, 0, 0⟩)
abbrev s_Draft___init__ : Stmt := (clsBody (top 8)).getD 0 (.Pass ⟨0, 0, 0, 0⟩)
theorem sc_Draft___init__ : FnScope ["self", "threading", "ties", "treading"] ["self", "threading", "ties", "treading"] (defScope s_Draft___init__) := ⟨rfl, rfl, rfl, by decide +kernel, rfl, by decide +kernel, by decide +kernel⟩
abbrev s_Reader___init__ : Stmt := (clsBody (top 16)).getD 0 (.Pass ⟨0, 0, 0, 0⟩)
theorem sc_Reader___init__ : FnScope ["self", "text"] ["self", "text"] (defScope s_Reader___init__) := ⟨rfl, rfl, rfl, by decide +kernel, rfl, by decide +kernel, by decide +kernel⟩
abbrev s_Reader_ended : Stmt := (clsBody (top 16)).getD 1 (.Pass ⟨0, 0, 0, 0⟩)
theorem sc_Reader_ended : FnScope ["self"] ["self"] (defScope s_Reader_ended) := ⟨rfl, rfl, rfl, by decide +kernel, rfl, by decide +kernel, by decide +kernel⟩
abbrev s_Reader_took : Stmt := (clsBody (top 16)).getD 2 (.Pass ⟨0, 0, 0, 0⟩)
theorem sc_Reader_took : FnScope ["self", "wanted", "behind"] ["self", "wanted"] (defScope s_Reader_took) := ⟨rfl, rfl, rfl, by decide +kernel, rfl, by decide +kernel, by decide +kernel⟩
abbrev s_Reader_stretch : Stmt := (clsBody (top 16)).getD 3 (.Pass ⟨0, 0, 0, 0⟩)
theorem sc_Reader_stretch : FnScope ["self", "signs", "begin"] ["self", "signs"] (defScope s_Reader_stretch) := ⟨rfl, rfl, rfl, by decide +kernel, rfl, by decide +kernel, by decide +kernel⟩
abbrev s_Reader_number : Stmt := (clsBody (top 16)).getD 4 (.Pass ⟨0, 0, 0, 0⟩)
theorem sc_Reader_number : FnScope ["self"] ["self"] (defScope s_Reader_number) := ⟨rfl, rfl, rfl, by decide +kernel, rfl, by decide +kernel, by decide +kernel⟩
abbrev s_Path___init__ : Stmt := (clsBody (top 21)).getD 0 (.Pass ⟨0, 0, 0, 0⟩)
theorem sc_Path___init__ : FnScope ["self", "stops"] ["self", "stops"] (defScope s_Path___init__) := ⟨rfl, rfl, rfl, by decide +kernel, rfl, by decide +kernel, by decide +kernel⟩
abbrev s_Path_size : Stmt := (clsBody (top 21)).getD 1 (.Pass ⟨0, 0, 0, 0⟩)
theorem sc_Path_size : FnScope ["self", "total", "k"] ["self"] (defScope s_Path_size) := ⟨rfl, rfl, rfl, by decide +kernel, rfl, by decide +kernel, by decide +kernel⟩
abbrev s_Path_numbers : Stmt := (clsBody (top 21)).getD 2 (.Pass ⟨0, 0, 0, 0⟩)
theorem sc_Path_numbers : FnScope ["self", "written", "stop"] ["self"] (defScope s_Path_numbers) := ⟨rfl, rfl, rfl, by decide +kernel, rfl, by decide +kernel, by decide +kernel⟩
abbrev s_Times___init__ : Stmt := (clsBody (top 22)).getD 0 (.Pass ⟨0, 0, 0, 0⟩)
theorem sc_Times___init__ : FnScope ["self", "count", "inner"] ["self", "count", "inner"] (defScope s_Times___init__) := ⟨rfl, rfl, rfl, by decide +kernel, rfl, by decide +kernel, by decide +kernel⟩
abbrev s_Times_size : Stmt := (clsBody (top 22)).getD 1 (.Pass ⟨0, 0, 0, 0⟩)
theorem sc_Times_size : FnScope ["self"] ["self"] (defScope s_Times_size) := ⟨rfl, rfl, rfl, by decide +kernel, rfl, by decide +kernel, by decide +kernel⟩
abbrev s_Times_numbers : Stmt := (clsBody (top 22)).getD 2 (.Pass ⟨0, 0, 0, 0⟩)
theorem sc_Times_numbers : FnScope ["self"] ["self"] (defScope s_Times_numbers) := ⟨rfl, rfl, rfl, by decide +kernel, rfl, by decide +kernel, by decide +kernel⟩
set_option genInjectivity false in
structure Adr where
  e_Draft : Addr
  e_Reader : Addr
  e_Path : Addr
  e_Times : Addr
  f_Draft___init__ : Addr
  d_Draft___init__ : FuncData
  f_Reader___init__ : Addr
  d_Reader___init__ : FuncData
  f_Reader_ended : Addr
  d_Reader_ended : FuncData
  f_Reader_took : Addr
  d_Reader_took : FuncData
  f_Reader_stretch : Addr
  d_Reader_stretch : FuncData
  f_Reader_number : Addr
  d_Reader_number : FuncData
  f_Path___init__ : Addr
  d_Path___init__ : FuncData
  f_Path_size : Addr
  d_Path_size : FuncData
  f_Path_numbers : Addr
  d_Path_numbers : FuncData
  f_Times___init__ : Addr
  d_Times___init__ : FuncData
  f_Times_size : Addr
  d_Times_size : FuncData
  f_Times_numbers : Addr
  d_Times_numbers : FuncData
  f_check_setting : Addr
  d_check_setting : FuncData
  f_check_count : Addr
  d_check_count : FuncData
  f_check_shaft : Addr
  d_check_shaft : FuncData
  f_check_tie : Addr
  d_check_tie : FuncData
  f_check_treading : Addr
  d_check_treading : FuncData
  f_number_of : Addr
  d_number_of : FuncData
  f_unfolded : Addr
  d_unfolded : FuncData
  f_shown : Addr
  d_shown : FuncData
  f_whole_size : Addr
  d_whole_size : FuncData
  f_all_numbers : Addr
  d_all_numbers : FuncData
  f_steps_between : Addr
  d_steps_between : FuncData
  f_read_row : Addr
  d_read_row : FuncData
  f_read_items : Addr
  d_read_items : FuncData
  f_read_item : Addr
  d_read_item : FuncData
  f_read_times : Addr
  d_read_times : FuncData
  f_read_path : Addr
  d_read_path : FuncData
  f_read_number : Addr
  d_read_number : FuncData
  f_parted : Addr
  d_parted : FuncData
  f_written_path : Addr
  d_written_path : FuncData
  f_is_stop : Addr
  d_is_stop : FuncData
  f_written_draft : Addr
  d_written_draft : FuncData
  f_read_draft : Addr
  d_read_draft : FuncData
  f_law_numbers : Addr
  d_law_numbers : FuncData
  f_law_subset : Addr
  d_law_subset : FuncData
  f_law_draft_by : Addr
  d_law_draft_by : FuncData
  f_law_numbers_same : Addr
  d_law_numbers_same : FuncData
  f_law_draft_same : Addr
  d_law_draft_same : FuncData
  f_law_other_writing : Addr
  d_law_other_writing : FuncData
  f_law_joined : Addr
  d_law_joined : FuncData
  f_law : Addr
  d_law : FuncData
  e_WeaveError : Addr
  f_WeaveError_called : Addr
  d_WeaveError_called : FuncData
  e_NoRow : Addr
  f_NoRow_called : Addr
  d_NoRow_called : FuncData
  e_TooLarge : Addr
  f_TooLarge_called : Addr
  d_TooLarge_called : FuncData
  e_NoDraft : Addr
  f_NoDraft_called : Addr
  d_NoDraft_called : FuncData
structure Txt (K : PySem.W.Frag) (mg : Str → Option Value) (t : Adr) : Prop where
  check_setting : Df K mg "check_setting" s_check_setting ["threading", "ties"] t.f_check_setting t.d_check_setting
  check_count : Df K mg "check_count" s_check_count ["count"] t.f_check_count t.d_check_count
  check_shaft : Df K mg "check_shaft" s_check_shaft ["shaft"] t.f_check_shaft t.d_check_shaft
  check_tie : Df K mg "check_tie" s_check_tie ["tie"] t.f_check_tie t.d_check_tie
  check_treading : Df K mg "check_treading" s_check_treading ["treading", "treadles"] t.f_check_treading t.d_check_treading
  number_of : Df K mg "number_of" s_number_of ["figures"] t.f_number_of t.d_number_of
  unfolded : Df K mg "unfolded" s_unfolded ["text"] t.f_unfolded t.d_unfolded
  shown : Df K mg "shown" s_shown ["row"] t.f_shown t.d_shown
  whole_size : Df K mg "whole_size" s_whole_size ["row_items"] t.f_whole_size t.d_whole_size
  all_numbers : Df K mg "all_numbers" s_all_numbers ["row_items"] t.f_all_numbers t.d_all_numbers
  steps_between : Df K mg "steps_between" s_steps_between ["start", "stop"] t.f_steps_between t.d_steps_between
  read_row : Df K mg "read_row" s_read_row ["text"] t.f_read_row t.d_read_row
  read_items : Df K mg "read_items" s_read_items ["reader", "depth"] t.f_read_items t.d_read_items
  read_item : Df K mg "read_item" s_read_item ["reader", "depth"] t.f_read_item t.d_read_item
  read_times : Df K mg "read_times" s_read_times ["reader", "count", "depth"] t.f_read_times t.d_read_times
  read_path : Df K mg "read_path" s_read_path ["reader", "first"] t.f_read_path t.d_read_path
  read_number : Df K mg "read_number" s_read_number ["reader"] t.f_read_number t.d_read_number
  parted : Df K mg "parted" s_parted ["row"] t.f_parted t.d_parted
  written_path : Df K mg "written_path" s_written_path ["path"] t.f_written_path t.d_written_path
  is_stop : Df K mg "is_stop" s_is_stop ["path", "k"] t.f_is_stop t.d_is_stop
  written_draft : Df K mg "written_draft" s_written_draft ["draft"] t.f_written_draft t.d_written_draft
  read_draft : Df K mg "read_draft" s_read_draft ["text"] t.f_read_draft t.d_read_draft
  law_numbers : Df K mg "_law_numbers" s_law_numbers ["script", "many"] t.f_law_numbers t.d_law_numbers
  law_subset : Df K mg "_law_subset" s_law_subset ["number"] t.f_law_subset t.d_law_subset
  law_draft_by : Df K mg "_law_draft_by" s_law_draft_by ["numbers"] t.f_law_draft_by t.d_law_draft_by
  law_numbers_same : Df K mg "_law_numbers_same" s_law_numbers_same ["found", "due"] t.f_law_numbers_same t.d_law_numbers_same
  law_draft_same : Df K mg "_law_draft_same" s_law_draft_same ["draft", "threading", "ties", "treading"] t.f_law_draft_same t.d_law_draft_same
  law_other_writing : Df K mg "_law_other_writing" s_law_other_writing ["row", "way"] t.f_law_other_writing t.d_law_other_writing
  law_joined : Df K mg "_law_joined" s_law_joined ["threading", "ties", "treading"] t.f_law_joined t.d_law_joined
  law : Df K mg "law" s_law ["script"] t.f_law t.d_law
  b_abs : mg "abs" = none
  b_bool : mg "bool" = none
  b_int : mg "int" = none
  b_isinstance : mg "isinstance" = none
  b_len : mg "len" = none
  b_list : mg "list" = none
  b_range : mg "range" = none
  b_str : mg "str" = none
  b_sum : mg "sum" = none
  c_MOST_STRANDS : ∃ tk, mg "MOST_STRANDS" = some (.int 40 tk)
  c_MOST_SHAFTS : ∃ tk, mg "MOST_SHAFTS" = some (.int 40 tk)
  c_FIGURES : ∃ tk, mg "FIGURES" = some (.str "0123456789" tk)
  c_MOST_NUMBERS : ∃ tk, mg "MOST_NUMBERS" = some (.int 400 tk)
  c_MOST_DEEP : ∃ tk, mg "MOST_DEEP" = some (.int 8 tk)
  c_BETWEEN_PARTS : ∃ tk, mg "BETWEEN_PARTS" = some (.str " / " tk)
  c_BETWEEN_TIES : ∃ tk, mg "BETWEEN_TIES" = some (.str ", " tk)
  k_WeaveError : mg "WeaveError" = some (.ref t.e_WeaveError)
  x_WeaveError : Exn K t.e_WeaveError
  m_WeaveError : Mf K "called" "WeaveError.called" s_WeaveError_called ["self"] t.e_WeaveError t.f_WeaveError_called t.d_WeaveError_called
  r_WeaveError_WeaveError : PySem.W.mroIn K t.e_WeaveError (.ref t.e_WeaveError) = some true
  r_WeaveError_NoRow : PySem.W.mroIn K t.e_WeaveError (.ref t.e_NoRow) = some false
  r_WeaveError_TooLarge : PySem.W.mroIn K t.e_WeaveError (.ref t.e_TooLarge) = some false
  r_WeaveError_NoDraft : PySem.W.mroIn K t.e_WeaveError (.ref t.e_NoDraft) = some false
  k_NoRow : mg "NoRow" = some (.ref t.e_NoRow)
  x_NoRow : Exn K t.e_NoRow
  m_NoRow : Mf K "called" "NoRow.called" s_NoRow_called ["self"] t.e_NoRow t.f_NoRow_called t.d_NoRow_called
  r_NoRow_WeaveError : PySem.W.mroIn K t.e_NoRow (.ref t.e_WeaveError) = some true
  r_NoRow_NoRow : PySem.W.mroIn K t.e_NoRow (.ref t.e_NoRow) = some true
  r_NoRow_TooLarge : PySem.W.mroIn K t.e_NoRow (.ref t.e_TooLarge) = some false
  r_NoRow_NoDraft : PySem.W.mroIn K t.e_NoRow (.ref t.e_NoDraft) = some false
  k_TooLarge : mg "TooLarge" = some (.ref t.e_TooLarge)
  x_TooLarge : Exn K t.e_TooLarge
  m_TooLarge : Mf K "called" "TooLarge.called" s_TooLarge_called ["self"] t.e_TooLarge t.f_TooLarge_called t.d_TooLarge_called
  r_TooLarge_WeaveError : PySem.W.mroIn K t.e_TooLarge (.ref t.e_WeaveError) = some true
  r_TooLarge_NoRow : PySem.W.mroIn K t.e_TooLarge (.ref t.e_NoRow) = some false
  r_TooLarge_TooLarge : PySem.W.mroIn K t.e_TooLarge (.ref t.e_TooLarge) = some true
  r_TooLarge_NoDraft : PySem.W.mroIn K t.e_TooLarge (.ref t.e_NoDraft) = some false
  k_NoDraft : mg "NoDraft" = some (.ref t.e_NoDraft)
  x_NoDraft : Exn K t.e_NoDraft
  m_NoDraft : Mf K "called" "NoDraft.called" s_NoDraft_called ["self"] t.e_NoDraft t.f_NoDraft_called t.d_NoDraft_called
  r_NoDraft_WeaveError : PySem.W.mroIn K t.e_NoDraft (.ref t.e_WeaveError) = some true
  r_NoDraft_NoRow : PySem.W.mroIn K t.e_NoDraft (.ref t.e_NoRow) = some false
  r_NoDraft_TooLarge : PySem.W.mroIn K t.e_NoDraft (.ref t.e_TooLarge) = some false
  r_NoDraft_NoDraft : PySem.W.mroIn K t.e_NoDraft (.ref t.e_NoDraft) = some true
  k_Draft : mg "Draft" = some (.ref t.e_Draft)
  o_Draft : Own K t.e_Draft t.f_Draft___init__
  na_Draft_threading : NoAttr K t.e_Draft "threading"
  na_Draft_ties : NoAttr K t.e_Draft "ties"
  na_Draft_treading : NoAttr K t.e_Draft "treading"
  k_Reader : mg "Reader" = some (.ref t.e_Reader)
  o_Reader : Own K t.e_Reader t.f_Reader___init__
  na_Reader_text : NoAttr K t.e_Reader "text"
  na_Reader_place : NoAttr K t.e_Reader "place"
  k_Path : mg "Path" = some (.ref t.e_Path)
  o_Path : Own K t.e_Path t.f_Path___init__
  na_Path_stops : NoAttr K t.e_Path "stops"
  k_Times : mg "Times" = some (.ref t.e_Times)
  o_Times : Own K t.e_Times t.f_Times___init__
  na_Times_count : NoAttr K t.e_Times "count"
  na_Times_inner : NoAttr K t.e_Times "inner"
  m_Draft___init__ : Mf K "__init__" "Draft.__init__" s_Draft___init__ ["self", "threading", "ties", "treading"] t.e_Draft t.f_Draft___init__ t.d_Draft___init__
  m_Reader___init__ : Mf K "__init__" "Reader.__init__" s_Reader___init__ ["self", "text"] t.e_Reader t.f_Reader___init__ t.d_Reader___init__
  m_Reader_ended : Mf K "ended" "Reader.ended" s_Reader_ended ["self"] t.e_Reader t.f_Reader_ended t.d_Reader_ended
  m_Reader_took : Mf K "took" "Reader.took" s_Reader_took ["self", "wanted"] t.e_Reader t.f_Reader_took t.d_Reader_took
  m_Reader_stretch : Mf K "stretch" "Reader.stretch" s_Reader_stretch ["self", "signs"] t.e_Reader t.f_Reader_stretch t.d_Reader_stretch
  m_Reader_number : Mf K "number" "Reader.number" s_Reader_number ["self"] t.e_Reader t.f_Reader_number t.d_Reader_number
  m_Path___init__ : Mf K "__init__" "Path.__init__" s_Path___init__ ["self", "stops"] t.e_Path t.f_Path___init__ t.d_Path___init__
  m_Path_size : Mf K "size" "Path.size" s_Path_size ["self"] t.e_Path t.f_Path_size t.d_Path_size
  m_Path_numbers : Mf K "numbers" "Path.numbers" s_Path_numbers ["self"] t.e_Path t.f_Path_numbers t.d_Path_numbers
  m_Times___init__ : Mf K "__init__" "Times.__init__" s_Times___init__ ["self", "count", "inner"] t.e_Times t.f_Times___init__ t.d_Times___init__
  m_Times_size : Mf K "size" "Times.size" s_Times_size ["self"] t.e_Times t.f_Times_size t.d_Times_size
  m_Times_numbers : Mf K "numbers" "Times.numbers" s_Times_numbers ["self"] t.e_Times t.f_Times_numbers t.d_Times_numbers
theorem bl1 {fd : FuncData} {ps : List Str} (h : ∀ a0 : Value, bindArgs fd ⟨[a0], []⟩ = pure (ps.zip [a0])) (us : List Value) (hl : us.length = 1) : bindArgs fd ⟨us, []⟩ = pure (ps.zip us) := by
  rcases us with _ | ⟨a0, us⟩
  · cases hl
  rcases us with _ | ⟨b, us⟩
  · exact h a0
  · cases hl
theorem bl2 {fd : FuncData} {ps : List Str} (h : ∀ a0 a1 : Value, bindArgs fd ⟨[a0, a1], []⟩ = pure (ps.zip [a0, a1])) (us : List Value) (hl : us.length = 2) : bindArgs fd ⟨us, []⟩ = pure (ps.zip us) := by
  rcases us with _ | ⟨a0, us⟩
  · cases hl
  rcases us with _ | ⟨a1, us⟩
  · cases hl
  rcases us with _ | ⟨b, us⟩
  · exact h a0 a1
  · cases hl
theorem bl3 {fd : FuncData} {ps : List Str} (h : ∀ a0 a1 a2 : Value, bindArgs fd ⟨[a0, a1, a2], []⟩ = pure (ps.zip [a0, a1, a2])) (us : List Value) (hl : us.length = 3) : bindArgs fd ⟨us, []⟩ = pure (ps.zip us) := by
  rcases us with _ | ⟨a0, us⟩
  · cases hl
  rcases us with _ | ⟨a1, us⟩
  · cases hl
  rcases us with _ | ⟨a2, us⟩
  · cases hl
  rcases us with _ | ⟨b, us⟩
  · exact h a0 a1 a2
  · cases hl
theorem bl4 {fd : FuncData} {ps : List Str} (h : ∀ a0 a1 a2 a3 : Value, bindArgs fd ⟨[a0, a1, a2, a3], []⟩ = pure (ps.zip [a0, a1, a2, a3])) (us : List Value) (hl : us.length = 4) : bindArgs fd ⟨us, []⟩ = pure (ps.zip us) := by
  rcases us with _ | ⟨a0, us⟩
  · cases hl
  rcases us with _ | ⟨a1, us⟩
  · cases hl
  rcases us with _ | ⟨a2, us⟩
  · cases hl
  rcases us with _ | ⟨a3, us⟩
  · cases hl
  rcases us with _ | ⟨b, us⟩
  · exact h a0 a1 a2 a3
  · cases hl
section
variable {P : Program} {w : World} {K : PySem.W.Frag} {mg : Str → Option Value} {base : Heap} {t : Adr}
def sp_called (z : Str) : Sp := fun vs H Q _ => ∃ v, vs = [v] ∧ Q (.str z) H
def rf (u : List Nat) (p : Nat) : List (Str × V) := [("text", .str (tx u)), ("place", .int (p : Int))]
def Rd (t : Adr) (H : Hp) (r dx : Addr) (u : List Nat) (p : Nat) : Prop := H r = some (.ins t.e_Reader dx (rf u p)) ∧ p ≤ u.length ∧ u.length ≤ 1000000
theorem rf_text (u : List Nat) (p : Nat) : (rf u p).lookup ("text" : Str) = some (V.str (tx u)) := rfl
theorem rf_place (u : List Nat) (p : Nat) : (rf u p).lookup ("place" : Str) = some (V.int (p : Int)) := rfl
theorem rf_put (u : List Nat) (p q : Nat) : putF "place" (.int (q : Int)) (rf u p) = rf u q := rfl
theorem big {n : Nat} (h : n ≤ 1000000) : n ≤ sizeLine := Nat.le_trans h (by decide)
def sp_ended (t : Adr) : Sp := fun vs H Q _ => ∃ r dx u p, vs = [.ref r] ∧ Rd t H r dx u p ∧ Q (.bl (decide (p = u.length))) H
theorem ok_Reader_ended (T : Txt K mg t) : FnOk P w K mg base CX0 1 t.f_Reader_ended t.d_Reader_ended ["self"] (sp_ended t) := by
  refine T.m_Reader_ended.F.ok sc_Reader_ended (fun vs H Q E h => ?_) (fun cdv A outer s H vs Q E hr h => ?_)
  · obtain ⟨r, dx, u, p, rfl, _⟩ := h
    rfl
  · obtain ⟨r, dx, u, p, rfl, ⟨hr1, hp, hu⟩, k⟩ := h
    refine ⟨_, (pss_one (ps_ret (pe_cmpR op_eq (pe_fldK (K := K) (pv 0) rfl) (pe_callB call_len_str rfl T.b_len bt_len (pa_cons (pe_fldK (K := K) (pv 0) rfl) pa_nil)) (nomark _)))), ?_⟩
    refine ⟨_, rfl, _, _, _, _, _, rfl, hr1, T.o_Reader.c, T.na_Reader_place, rf_place u p, ?_⟩
    refine ⟨_, rfl, _, _, _, _, _, rfl, hr1, T.o_Reader.c, T.na_Reader_text, rf_text u p, ?_⟩
    refine ⟨_, rfl, (by rw [tx_len]; exact big hu), rfl, ?_⟩
    have e : decide (V.int (p : Int) = V.int ((tx u).length : Int)) = decide (p = u.length) := by
      rw [tx_len]
      apply decide_eq_decide.mpr
      constructor
      · intro z; injection z with z; omega
      · intro z; rw [z]
    rw [e]
    exact k
def sp_took (t : Adr) : Sp := fun vs H Q _ => ∃ r dx u p v, vs = [.ref r, .str (tx v)] ∧ Rd t H r dx u p ∧ v.length ≤ 100 ∧
  ((u.drop p).take v.length = v → Q (.bl true) (upd H r (.ins t.e_Reader dx (rf u (p + v.length))))) ∧ ((u.drop p).take v.length ≠ v → Q (.bl false) H)
theorem cut_seg {u : List Nat} {p n : Nat} (h : p ≤ u.length) : cutT u (some (p : Int)) (some ((p : Int) + (n : Int))) = (u.drop p).take n := by
  unfold cutT
  rw [show ((p : Int) + (n : Int)) = ((p + n : Nat) : Int) by omega, HT.sIx_nat, HT.sIx_nat, Nat.min_eq_left h]
  by_cases h2 : p + n ≤ u.length
  · rw [Nat.min_eq_left h2, Nat.add_sub_cancel_left]
  · rw [Nat.min_eq_right (by omega), List.take_of_length_le (by rw [List.length_drop]; omega), List.take_of_length_le (by rw [List.length_drop]; omega)]
theorem ok_Reader_took (T : Txt K mg t) : FnOk P w K mg base CX0 1 t.f_Reader_took t.d_Reader_took ["self", "wanted"] (sp_took t) := by
  refine T.m_Reader_took.F.ok sc_Reader_took (fun vs H Q E h => ?_) (fun cdv A outer s H vs Q E hr h => ?_)
  · obtain ⟨r, dx, u, p, v, rfl, _⟩ := h
    rfl
  · obtain ⟨r, dx, u, p, v, rfl, ⟨hr1, hp, hu⟩, hv, k1, k2⟩ := h
    refine ⟨_, (pss_cons (ps_set (i := 2) sc_Reader_took.nd rfl (Or.inl rfl) (pe_op op_add (pe_fldK (K := K) (pv 0) rfl) (pe_callB call_len_str rfl T.b_len bt_len (pa_cons (pv 1) pa_nil))))
      (pss_cons (ps_if (pt_cmpR op_ne (pe_slice sl_str (pe_fldK (K := K) (pv 0) rfl) (po_some (pe_fldK (K := K) (pv 0) rfl)) (po_some (pv 2))) (pv 1) (nomark _))
        (pss_one (ps_ret pe_bl))
        pss_nil)
      (pss_cons (ps_fldK (K := K) (pv 0) (pv 2))
      (pss_one (ps_ret pe_bl))))), ?_⟩
    refine ⟨_, rfl, _, _, _, _, _, rfl, hr1, T.o_Reader.c, T.na_Reader_place, rf_place u p, _, rfl, _, rfl, (by rw [tx_len]; exact big (by omega)), _, _, rfl, rfl, ?_⟩
    rw [tx_len]
    refine ⟨_, rfl, _, _, _, _, _, rfl, hr1, T.o_Reader.c, T.na_Reader_text, rf_text u p, ?_⟩
    refine ⟨_, rfl, _, _, _, _, _, rfl, hr1, T.o_Reader.c, T.na_Reader_place, rf_place u p, _, rfl, _, rfl, _, rfl, u, rfl, big hu, _, rfl, rfl, _, rfl, ?_⟩
    rw [cut_seg hp]
    by_cases hc : (u.drop p).take v.length = v
    · refine iteNS (by rw [hc]) ?_
      refine ⟨_, rfl, _, rfl, _, _, _, _, rfl, hr1, T.o_Reader.c, T.na_Reader_place, (by show 2 < 1000; decide), ?_⟩
      show Q (.bl true) (upd H r (.ins t.e_Reader dx (putF ("place" : Str) (.int ((p : Int) + (v.length : Int))) (rf u p))))
      rw [show ((p : Int) + (v.length : Int)) = ((p + v.length : Nat) : Int) by omega, rf_put]
      exact k1 hc
    · refine iteNp (fun z => hc (by injection z with z; exact tx_inj z)) ?_
      exact k2 hc
def dg (c : Nat) : Bool := decide (48 ≤ c ∧ c ≤ 57)
def figs (l : List Nat) : List Nat := l.takeWhile dg
def numV (v : List Nat) : V := if (1 ≤ v.length ∧ v.length ≤ 2) ∧ ¬ (v.length = 2 ∧ v[0]? = some 48) then .int ((PySem.NumText.digitsVal v : Nat) : Int) else .non
theorem figs_eq : ∀ (l : List Nat) (n : Nat), n ≤ l.length → (∀ c ∈ l.take n, dg c = true) → (∀ c, l[n]? = some c → dg c = false) → figs l = l.take n
  | [], n, h, _, _ => by simp [figs]
  | c :: l, 0, _, _, h2 => by
    unfold figs
    rw [List.takeWhile_cons, h2 c rfl]
    rfl
  | c :: l, n + 1, h, h1, h2 => by
    have hc : dg c = true := h1 c (by simp)
    have := figs_eq l n (by simpa using h) (fun d hd => h1 d (by rw [List.take_succ_cons]; exact List.mem_cons_of_mem _ hd)) (fun d hd => h2 d (by simpa using hd))
    unfold figs at this ⊢
    rw [List.takeWhile_cons, if_pos hc, this, List.take_succ_cons]
theorem upd_self {H : Hp} {r : Addr} {o : HO} (h : H r = some o) : upd H r o = H := by
  funext b
  unfold upd
  split
  next e => rw [e, h]
  next => rfl
theorem z48 (c : Nat) : (V.str ⟨#[c]⟩ : V) = V.str "0" ↔ c = 48 := by
  have e : (("0" : Str)) = tx [48] := by decide +kernel
  rw [e]
  exact ⟨fun z => by injection z with z; exact (List.cons.inj (tx_inj (a := [c]) (b := [48]) z)).1, fun z => by rw [z]; rfl⟩
def sp_numof : Sp := fun vs H Q _ => ∃ v : List Nat, vs = [.str (tx v)] ∧ (∀ c ∈ v, 48 ≤ c ∧ c ≤ 57) ∧ v.length ≤ 1000000 ∧ Q (numV v) H
theorem ok_number_of (T : Txt K mg t) : FnOk P w K mg base CX0 1 t.f_number_of t.d_number_of ["figures"] sp_numof := by
  refine T.number_of.F.ok sc_number_of (fun vs H Q E h => ?_) (fun cdv A outer s H vs Q E hr h => ?_)
  · obtain ⟨v, rfl, _⟩ := h
    rfl
  · obtain ⟨v, rfl, hd, hl, k⟩ := h
    have sz : (tx v).length ≤ sizeLine := by rw [tx_len]; exact big hl
    refine ⟨_, (pss_cons (ps_if (PW.pt (pw_or (pt_cmpR op_lt (pe_callB call_len_str rfl T.b_len bt_len (pa_cons (pv 0) pa_nil)) pe_int (nomark _)) (pw_or1 (pt_cmpR op_gt (pe_callB call_len_str rfl T.b_len bt_len (pa_cons (pv 0) pa_nil)) pe_int (nomark _)))))
        (pss_one (ps_ret pe_non))
        pss_nil)
      (pss_cons (ps_if (PW.pt (pw_and (pt_cmpR op_eq (pe_callB call_len_str rfl T.b_len bt_len (pa_cons (pv 0) pa_nil)) pe_int (nomark _)) (pw_and1 (pt_cmpR op_eq (pe_ix ix_str (pv 0) pe_int (fun _ _ => rfl)) pe_str (nomark _)))))
        (pss_one (ps_ret pe_non))
        pss_nil)
      (pss_one (ps_ret (pe_callTy call_intT rfl T.b_int bt_int (pa_cons (pv 0) pa_nil)))))), ?_⟩
    unfold numV at k
    refine ⟨_, rfl, _, rfl, sz, _, _, rfl, rfl, _, rfl, ?_⟩
    rw [tx_len]
    refine ite2D (fun c1 => ?_) (fun c1 => ?_)
    · refine iteT ?_
      rw [if_neg (by omega)] at k
      exact k
    · refine ⟨_, rfl, _, rfl, sz, _, _, rfl, rfl, _, rfl, ?_⟩
      rw [tx_len]
      refine ite2D (fun c2 => ?_) (fun c2 => ?_)
      · rw [if_neg (by omega)] at k
        exact k
      · refine ⟨_, rfl, _, rfl, sz, rfl, _, rfl, ?_⟩
        rw [tx_len]
        have fin : ¬ (v.length = 2 ∧ v[0]? = some 48) → ∃ z n, [V.str (tx v)] = [V.str z] ∧ PySem.intText? z = some n ∧ z.length ≤ 640 ∧ Q (.int n) H := fun c3 => by
          rw [if_pos ⟨by omega, c3⟩] at k
          refine ⟨tx v, _, rfl, PySem.intText_digits (x := tx v) (by rw [tx_list]; exact hd) (by rw [tx_list]; intro z; rw [z] at c1; simp at c1) (by rw [tx_len]; omega), by rw [tx_len]; omega, ?_⟩
          rw [tx_list]
          exact k
        refine ite2D (fun c3 => ?_) (fun c3 => ?_)
        · have l2 : v.length = 2 := by injection c3 with c3; omega
          have h0 : 0 < v.length := by omega
          refine ⟨_, rfl, _, _, v[0], rfl, rfl, sz, atI_of (by decide) (by rw [tx_list]; exact List.getElem?_eq_getElem h0), rfl, _, rfl, ?_⟩
          refine ite2D (fun c4 => ?_) (fun c4 => ?_)
          · rw [if_neg (fun z => z.2 ⟨l2, by rw [List.getElem?_eq_getElem h0, (z48 _).mp c4]⟩)] at k
            exact k
          · exact ⟨_, rfl, fin fun z => c4 ((z48 _).mpr (by have := z.2; rw [List.getElem?_eq_getElem h0] at this; exact Option.some.inj this))⟩
        · exact iteF ⟨_, rfl, fin fun z => c3 (by rw [z.1]; rfl)⟩
theorem rf_meth (u : List Nat) (p : Nat) : (rf u p).lookup ("ended" : Str) = none ∧ (rf u p).lookup ("took" : Str) = none ∧ (rf u p).lookup ("number" : Str) = none ∧ (rf u p).lookup ("stretch" : Str) = none := ⟨rfl, rfl, rfl, rfl⟩
def sp_init : Sp := fun vs H Q _ => ∃ (C r dx : Addr) (u : List Nat), vs = [.ref r, .str (tx u)] ∧ H r = some (.ins C dx []) ∧ Q .non (upd H r (.ins C dx (rf u 0)))
theorem ok_Reader___init__ (T : Txt K mg t) : FnOk P w K mg base CX0 1 t.f_Reader___init__ t.d_Reader___init__ ["self", "text"] (fun vs H Q E => ∃ (r dx : Addr) (u : List Nat), vs = [.ref r, .str (tx u)] ∧ H r = some (.ins t.e_Reader dx []) ∧ Q .non (upd H r (.ins t.e_Reader dx (rf u 0)))) := by
  refine T.m_Reader___init__.F.ok sc_Reader___init__ (fun vs H Q E h => ?_) (fun cdv A outer s H vs Q E hr h => ?_)
  · obtain ⟨r, dx, u, rfl, _⟩ := h
    rfl
  · obtain ⟨r, dx, u, rfl, h1, k⟩ := h
    refine ⟨_, (pss_cons (ps_fldK (K := K) (pv 0) (pv 1))
      (pss_one (ps_fldK (K := K) (pv 0) pe_int))), ?_⟩
    refine ⟨_, rfl, _, rfl, _, _, _, _, rfl, h1, T.o_Reader.c, T.na_Reader_text, (by decide), ?_⟩
    refine ⟨_, rfl, _, _, _, _, rfl, upd_same, T.o_Reader.c, T.na_Reader_place, (by show 1 < 1000; decide), ?_⟩
    rw [upd_upd]
    exact k
def sp_stretch (t : Adr) : Sp := fun vs H Q _ => ∃ r dx u p, vs = [.ref r, .str "0123456789"] ∧ Rd t H r dx u p ∧ Q (.str (tx (figs (u.drop p)))) (upd H r (.ins t.e_Reader dx (rf u (p + (figs (u.drop p)).length))))
theorem ok_Reader_stretch (T : Txt K mg t) : FnOk P w K mg base CX0 2 t.f_Reader_stretch t.d_Reader_stretch ["self", "signs"] (sp_stretch t) := by
  have G_Reader_ended : FnOk P w K mg base CX0 1 t.f_Reader_ended t.d_Reader_ended _ _ := ok_Reader_ended T
  refine T.m_Reader_stretch.F.ok sc_Reader_stretch (fun vs H Q E h => ?_) (fun cdv A outer s H vs Q E hr h => ?_)
  · obtain ⟨r, dx, u, p, rfl, _⟩ := h
    rfl
  · obtain ⟨r, dx, u, p, rfl, ⟨hr1, hp, hu⟩, k⟩ := h
    refine ⟨_, (pss_cons (ps_set (i := 2) sc_Reader_stretch.nd rfl (Or.inl rfl) (pe_fldK (K := K) (pv 0) rfl))
      (pss_cons (ps_while PassesOwn.never (PW.pt (pw_and (pt_not (pt_val (pe_meth0 (pv 0) T.o_Reader.c T.m_Reader_ended.m (G_Reader_ended.mono (by decide)) hr T.m_Reader_ended.b .nil pass0))) (pw_and1 (pt_cmpR op_in_str (pe_ix ix_str (pe_fldK (K := K) (pv 0) rfl) (pe_fldK (K := K) (pv 0) rfl) (fun _ _ => rfl)) (pv 1) rfl))))
        (pss_one (ps_fldaugK (K := K) (pv 0) pe_int in_add)))
      (pss_one (ps_ret (pe_slice sl_str (pe_fldK (K := K) (pv 0) rfl) (po_some (pv 2)) (po_some (pe_fldK (K := K) (pv 0) rfl))))))), ?_⟩
    refine ⟨_, rfl, _, _, _, _, _, rfl, hr1, T.o_Reader.c, T.na_Reader_place, rf_place u p, ?_⟩
    refine ⟨fun m σ H2 => ∃ n, σ = [some (.ref r), some (.str "0123456789"), some (.int (p : Int))] ∧ H2 = upd H r (.ins t.e_Reader dx (rf u (p + n))) ∧ p + n ≤ u.length ∧ (∀ c ∈ (u.drop p).take n, dg c = true) ∧ m = u.length - (p + n),
      ⟨_, 0, rfl, (upd_self hr1).symm, hp, (fun c hc => by simp at hc), rfl⟩, ?_⟩
    rintro m σ H2 ⟨n, rfl, rfl, hn, ha, rfl⟩
    have hS : (upd H r (.ins t.e_Reader dx (rf u (p + n)))) r = some (.ins t.e_Reader dx (rf u (p + n))) := upd_same
    have done : (∀ c, (u.drop p)[n]? = some c → dg c = false) → (u.drop p).take n = figs (u.drop p) := fun hs => (figs_eq _ n (by rw [List.length_drop]; omega) ha hs).symm
    have ln : ((u.drop p).take n).length = n := by rw [List.length_take, List.length_drop]; omega
    have e3 : cutT u (some (p : Int)) (some ((p + n : Nat) : Int)) = (u.drop p).take n := by rw [Int.natCast_add]; exact cut_seg hp
    have fin : (u.drop p).take n = figs (u.drop p) → Q (.str (tx (cutT u (some (p : Int)) (some ((p + n : Nat) : Int))))) (upd H r (.ins t.e_Reader dx (rf u (p + n)))) := fun e2 => by
      have e1 : (figs (u.drop p)).length = n := by rw [← e2, ln]
      rw [e3, e2]; rw [e1] at k; exact k
    refine ⟨_, rfl, r, dx, rf u (p + n), rfl, hS, (rf_meth u _).1, r, dx, u, p + n, rfl, ⟨hS, hn, hu⟩, _, rfl, ?_⟩
    by_cases c1 : p + n = u.length
    · rw [decide_eq_true c1]
      refine iteF ?_
      refine iteF ?_
      exact ⟨_, rfl, _, _, _, _, _, rfl, hS, T.o_Reader.c, T.na_Reader_text, rf_text u _, _, rfl, _, rfl, _, rfl, _, _, _, _, _, rfl, hS, T.o_Reader.c, T.na_Reader_place, rf_place u _, _, rfl, u, rfl, big hu,
        fin (done fun c hc => by rw [List.getElem?_eq_none (by rw [List.length_drop]; omega)] at hc; cases hc)⟩
    · rw [decide_eq_false c1]
      refine iteT ?_
      have hlt : p + n < u.length := by omega
      refine ⟨_, rfl, _, _, _, _, _, rfl, hS, T.o_Reader.c, T.na_Reader_text, rf_text u _, _, rfl, _, _, _, _, _, rfl, hS, T.o_Reader.c, T.na_Reader_place, rf_place u _, _, _, u[p + n], rfl, rfl, (by rw [tx_len]; exact big hu),
        atI_of (by omega) (by rw [Int.toNat_natCast, tx_list]; exact List.getElem?_eq_getElem hlt), _, rfl, _, _, rfl, rfl, _, rfl, ?_⟩
      rw [in_figs]
      refine ite2D (fun c2 => ?_) (fun c2 => ?_)
      · refine ⟨_, fun σ' H' h => h, ?_⟩
        refine ⟨_, rfl, _, _, _, _, _, rfl, hS, T.o_Reader.c, T.na_Reader_place, rf_place u _, _, _, rfl, rfl, dx, rf u (p + n), hS, (by show 2 < 1000; decide), ?_⟩
        refine ⟨u.length - (p + (n + 1)), by omega, n + 1, rfl, ?_, by omega, fun c hc => ?_, rfl⟩
        · rw [upd_upd]
          rfl
        · rw [List.take_add_one, List.getElem?_drop, List.getElem?_eq_getElem hlt] at hc
          rcases List.mem_append.mp hc with h | h
          · exact ha c h
          · rw [show c = u[p + n] by simpa using h]
            exact decide_eq_true c2
      · exact ⟨_, rfl, _, _, _, _, _, rfl, hS, T.o_Reader.c, T.na_Reader_text, rf_text u _, _, rfl, _, rfl, _, rfl, _, _, _, _, _, rfl, hS, T.o_Reader.c, T.na_Reader_place, rf_place u _, _, rfl, u, rfl, big hu,
          fin (done fun c hc => by rw [List.getElem?_drop, List.getElem?_eq_getElem hlt] at hc; cases hc; exact decide_eq_false c2)⟩
theorem figs_all : ∀ (l : List Nat), (∀ c ∈ figs l, dg c = true) ∧ (figs l).length ≤ l.length
  | [] => ⟨fun c hc => (by cases hc), Nat.le_refl _⟩
  | a :: l => by
    have ih := figs_all l
    unfold figs at ih ⊢
    rw [List.takeWhile_cons]
    by_cases h : dg a = true
    · rw [if_pos h]
      refine ⟨fun c hc => ?_, by simp only [List.length_cons]; omega⟩
      rcases List.mem_cons.mp hc with e | e
      · rw [e]; exact h
      · exact ih.1 c e
    · rw [if_neg h]
      exact ⟨fun c hc => (by cases hc), Nat.zero_le _⟩
def sp_number (t : Adr) : Sp := fun vs H Q _ => ∃ r dx u p, vs = [.ref r] ∧ Rd t H r dx u p ∧ Q (numV (figs (u.drop p))) (upd H r (.ins t.e_Reader dx (rf u (p + (figs (u.drop p)).length))))
theorem ok_Reader_number (T : Txt K mg t) : FnOk P w K mg base CX0 3 t.f_Reader_number t.d_Reader_number ["self"] (sp_number t) := by
  have G_Reader_stretch : FnOk P w K mg base CX0 2 t.f_Reader_stretch t.d_Reader_stretch _ _ := ok_Reader_stretch T
  have G_number_of : FnOk P w K mg base CX0 1 t.f_number_of t.d_number_of _ _ := ok_number_of T
  refine T.m_Reader_number.F.ok sc_Reader_number (fun vs H Q E h => ?_) (fun cdv A outer s H vs Q E hr h => ?_)
  · obtain ⟨r, dx, u, p, rfl, _⟩ := h
    rfl
  · obtain ⟨r, dx, u, p, rfl, hR, k⟩ := h
    refine ⟨_, (pss_one (ps_ret (pe_call (G_number_of.mono (by decide)) hr rfl T.number_of.m T.number_of.F.kp T.number_of.b .nil pass0 (pa_cons (pe_meth (pv 0) T.o_Reader.c T.m_Reader_stretch.m (G_Reader_stretch.mono (by decide)) hr T.m_Reader_stretch.b .nil pass0 (pa_cons (pe_glob (v := .str "0123456789") rfl T.c_FIGURES.choose_spec ⟨_, rfl⟩) pa_nil)) pa_nil)))), ?_⟩
    have hf := figs_all (u.drop p)
    refine ⟨_, rfl, r, dx, rf u p, rfl, hR.1, (rf_meth u p).2.2.2, r, dx, u, p, rfl, hR, ?_⟩
    exact ⟨_, rfl, fun c hc => of_decide_eq_true (hf.1 c hc), by have := hR.2.2; have := hf.2; rw [List.length_drop] at this; omega, k⟩
end
def stps (a b : Int) : List Int := if a < b then rngL (a + 1) 1 (b - a).toNat else rngL (a - 1) (-1) (a - b).toNat
def absI (z : Int) : Int := if z < 0 then -z else z
def go (a : Int) : List Int → List Int
  | [] => []
  | b :: r => stps a b ++ go b r
def pnum : List Int → List Int
  | [] => []
  | s :: r => s :: go s r
def lst (a : Int) : List Int → Int
  | [] => a
  | b :: r => lst b r
theorem go_snoc : ∀ (a : Int) (r : List Int) (b : Int), go a (r ++ [b]) = go a r ++ stps (lst a r) b
  | a, [], b => by simp [go, lst]
  | a, c :: r, b => by rw [List.cons_append, go, go_snoc c r b, go, lst, List.append_assoc]
theorem lst_snoc : ∀ (a : Int) (r : List Int) (b : Int), lst a (r ++ [b]) = b
  | a, [], b => rfl
  | a, c :: r, b => by rw [List.cons_append, lst, lst_snoc c r b]
theorem rngL_len (a c : Int) (n : Nat) : (rngL a c n).length = n := by unfold rngL; rw [List.length_map, List.length_range]
theorem stps_len (a b : Int) : ((stps a b).length : Int) = absI (b - a) := by
  unfold stps absI
  split
  · rw [rngL_len, if_neg (by omega)]; omega
  · rw [rngL_len]
    split <;> omega
theorem rngL_get {a c : Int} {n i : Nat} (h : i < n) : (rngL a c n)[i]? = some (a + (i : Int) * c) := by
  unfold rngL
  rw [List.getElem?_map, List.getElem?_range h]
  rfl
theorem stps_get {a b : Int} {q : Nat} (h1 : 1 ≤ q) (h2 : (q : Int) ≤ absI (b - a)) : (stps a b)[q - 1]? = some (a + (if b - a < 0 then -1 else 1) * (q : Int)) := by
  unfold stps
  unfold absI at h2
  by_cases c : a < b
  · rw [if_pos c, rngL_get (by rw [if_neg (by omega)] at h2; omega), if_neg (by omega)]
    congr 1
    omega
  · rw [if_neg c]
    by_cases d : b - a < 0
    · rw [if_pos d] at h2 ⊢
      rw [rngL_get (by omega)]
      congr 1
      omega
    · rw [if_neg d] at h2
      omega
theorem getLast_app_ne {l r : List Int} (h : r ≠ []) : (l ++ r).getLast? = r.getLast? := by
  rw [List.getLast?_append]
  cases e : r.getLast? with
  | none => exact absurd (List.getLast?_eq_none_iff.mp e) h
  | some z => rfl
theorem stps_last {a b : Int} (h : a ≠ b) : (stps a b).getLast? = some b := by
  have hl := stps_len a b
  have pos : 0 < (stps a b).length := by unfold absI at hl; split at hl <;> omega
  rw [List.getLast?_eq_getElem?]
  have e := stps_get (a := a) (b := b) (q := (stps a b).length) pos (by omega)
  rw [e]
  congr 1
  rw [hl]
  unfold absI
  split <;> omega
theorem stps_nil (a : Int) : stps a a = [] := by
  have := stps_len a a
  unfold absI at this
  have h : (stps a a).length = 0 := by split at this <;> omega
  exact List.eq_nil_of_length_eq_zero h
theorem go_last : ∀ (l : List Int) (a : Int) (r : List Int), l.getLast? = some a → (l ++ go a r).getLast? = some (lst a r)
  | l, a, [], h => by simpa [go, lst] using h
  | l, a, b :: r, h => by
    rw [go, lst, ← List.append_assoc]
    refine go_last _ b r ?_
    by_cases e : a = b
    · rw [e, stps_nil, List.append_nil, ← e]; exact h
    · rw [getLast_app_ne (fun z => by have := stps_last e; rw [z] at this; cases this)]
      exact stps_last e
theorem pnum_last (s : Int) (r : List Int) : (s :: go s r).getLast? = some (lst s r) := go_last [s] s r rfl
section
variable {P : Program} {w : World} {K : PySem.W.Frag} {mg : Str → Option Value} {base : Heap} {t : Adr}
theorem fits {z : Int} (h : z.natAbs ≤ 1000000) : Builtin.Range.rangeFitsLong z = true := by
  unfold Builtin.Range.rangeFitsLong
  simp only [Bool.and_eq_true, decide_eq_true_eq]
  omega
def sp_steps : Sp := fun vs H Q _ => ∃ (a b : Int), vs = [.int a, .int b] ∧ a.natAbs ≤ 400 ∧ b.natAbs ≤ 400 ∧ ∀ l H', Same H H' → H l = none → H' l = some (.lst (vI (stps a b))) → Q (.ref l) H'
theorem ok_steps_between (T : Txt K mg t) : FnOk P w K mg base CX0 1 t.f_steps_between t.d_steps_between ["start", "stop"] sp_steps := by
  refine T.steps_between.F.ok sc_steps_between (fun vs H Q E h => ?_) (fun cdv A outer s H vs Q E hr h => ?_)
  · obtain ⟨a, b, rfl, _⟩ := h
    rfl
  · obtain ⟨a, b, rfl, ha, hb, k⟩ := h
    refine ⟨_, (pss_cons (ps_if (pt_cmpR op_lt (pv 0) (pv 1) (nomark _))
        (pss_one (ps_ret (pe_callTy call_listR rfl T.b_list bt_list (pa_cons (pe_callTy call_rng2 rfl T.b_range bt_range (pa_cons (pe_op op_add (pv 0) pe_int) (pa_cons (pe_op op_add (pv 1) pe_int) pa_nil))) pa_nil))))
        pss_nil)
      (pss_one (ps_ret (pe_callTy call_listR rfl T.b_list bt_list (pa_cons (pe_callTy call_rng3 rfl T.b_range bt_range (pa_cons (pe_op op_sub (pv 0) pe_int) (pa_cons (pe_op op_sub (pv 1) pe_int) (pa_cons (pe_un un_neg pe_int) pa_nil)))) pa_nil))))), ?_⟩
    refine ⟨_, rfl, _, rfl, _, _, rfl, rfl, _, rfl, ?_⟩
    refine ite2D (fun c1 => ?_) (fun c1 => ?_)
    · refine ⟨_, rfl, _, _, rfl, rfl, _, rfl, _, _, rfl, rfl, _, _, rfl, fun p hp => ?_⟩
      have rs : Builtin.Range.rangeSize (a + 1) (b + 1) 1 = ((b - a).toNat : Int) := by
        unfold Builtin.Range.rangeSize
        rw [if_pos (by decide), if_pos (by omega), Int.ediv_one]
        omega
      refine ⟨p, a + 1, b + 1, 1, (b - a).toNat, rfl, upd_same, ?_, rs, by omega, fun l hl => ?_⟩
      · unfold Builtin.Range.small
        rw [rs, fits (by omega), fits (by omega), fits (by omega), fits (by omega)]
        simp only [show (1 : Int) > 0 by decide, if_true, Bool.true_and, Bool.or_eq_true]
        exact .inr (fits (by omega))
      · have : stps a b = rngL (a + 1) 1 (b - a).toNat := if_pos c1
        rw [← this]
        exact k l _ ((Same.upd hp).new hl) ((Same.upd hp).free hl) upd_same
    · refine ⟨_, rfl, _, _, rfl, rfl, _, rfl, _, _, rfl, rfl, _, rfl, _, _, _, rfl, (by decide), (by decide), fun p hp => ?_⟩
      have rs : Builtin.Range.rangeSize (a - 1) (b - 1) (-1) = ((a - b).toNat : Int) := by
        unfold Builtin.Range.rangeSize
        rw [if_neg (by decide)]
        by_cases c2 : a - 1 > b - 1
        · rw [if_pos c2, show -(-1 : Int) = 1 by decide, Int.ediv_one]
          omega
        · rw [if_neg c2]
          omega
      refine ⟨p, a - 1, b - 1, -1, (a - b).toNat, rfl, upd_same, ?_, rs, by omega, fun l hl => ?_⟩
      · unfold Builtin.Range.small
        rw [rs, fits (by omega), fits (by omega), fits (by decide), fits (by omega)]
        simp only [show ¬ ((-1 : Int) > 0) by decide, if_false, Bool.true_and, Bool.or_eq_true]
        exact .inr (fits (by omega))
      · have : stps a b = rngL (a - 1) (-1) (a - b).toNat := if_neg c1
        rw [← this]
        exact k l _ ((Same.upd hp).new hl) ((Same.upd hp).free hl) upd_same
def pf (l : Addr) : List (Str × V) := [("stops", .ref l)]
theorem pf_at (l : Addr) : (pf l).lookup ("stops" : Str) = some (V.ref l) := rfl
theorem ok_Path___init__ (T : Txt K mg t) : FnOk P w K mg base CX0 1 t.f_Path___init__ t.d_Path___init__ ["self", "stops"] (fun vs H Q E => ∃ (r dx l : Addr), vs = [.ref r, .ref l] ∧ H r = some (.ins t.e_Path dx []) ∧ Q .non (upd H r (.ins t.e_Path dx (pf l)))) := by
  refine T.m_Path___init__.F.ok sc_Path___init__ (fun vs H Q E h => ?_) (fun cdv A outer s H vs Q E hr h => ?_)
  · obtain ⟨r, dx, l, rfl, _⟩ := h
    rfl
  · obtain ⟨r, dx, l, rfl, h1, k⟩ := h
    refine ⟨_, (pss_one (ps_fldK (K := K) (pv 0) (pv 1))), ?_⟩
    exact ⟨_, rfl, _, rfl, _, _, _, _, rfl, h1, T.o_Path.c, T.na_Path_stops, (by decide), k⟩
def dst (ss : List Int) (k : Nat) : Int := absI (ss.getD (k + 1) 0 - ss.getD k 0)
def szTo (ss : List Int) (k : Nat) : Int := 1 + ((List.range k).map (dst ss)).sum
theorem szTo_succ (ss : List Int) (k : Nat) : szTo ss (k + 1) = szTo ss k + dst ss k := by
  unfold szTo
  rw [List.range_succ, List.map_append, List.sum_append]
  simp
  omega
theorem vI_at {ks : List Int} {i : Int} (h0 : 0 ≤ i) (h : i.toNat < ks.length) : atI (vI ks) i = some (.int (ks.getD i.toNat 0)) := atI_of h0 (by
  rw [vI_get (List.getElem?_eq_getElem h)]
  simp [List.getD, h])
structure IsP (t : Adr) (H : Hp) (a dx l : Addr) (ss : List Int) : Prop where
  o : H a = some (.ins t.e_Path dx (pf l))
  l : H l = some (.lst (vI ss))
  ne : 1 ≤ ss.length
  le : ss.length ≤ 1000
def sp_psize (t : Adr) : Sp := fun vs H Q _ => ∃ (a dx l : Addr) (ss : List Int), vs = [.ref a] ∧ IsP t H a dx l ss ∧ Q (.int (szTo ss (ss.length - 1))) H
theorem ok_Path_size (T : Txt K mg t) : FnOk P w K mg base CX0 1 t.f_Path_size t.d_Path_size ["self"] (sp_psize t) := by
  refine T.m_Path_size.F.ok sc_Path_size (fun vs H Q E h => ?_) (fun cdv A outer s H vs Q E hr h => ?_)
  · obtain ⟨a, dx, l, ss, rfl, _⟩ := h
    rfl
  · obtain ⟨a, dx, l, ss, rfl, hP, k⟩ := h
    have ne := hP.ne
    have le := hP.le
    refine ⟨_, (pss_cons (ps_set (i := 1) sc_Path_size.nd rfl (Or.inl rfl) pe_int)
      (pss_cons (ps_for PassesOwn.never rfl (pi_range2 rfl T.b_range (pa_cons pe_int (pa_cons (pe_callB (call_len_seqK (K := K)) rfl T.b_len bt_len (pa_cons (pe_fldK (K := K) (pv 0) rfl) pa_nil)) pa_nil))) (pg_name (i := 2) sc_Path_size.nd rfl (Or.inl rfl))
        (pss_one (ps_aug (i := 1) sc_Path_size.nd rfl (Or.inl rfl) (pe_callB call_abs rfl T.b_abs bt_abs (pa_cons (pe_op op_sub (pe_ix (ix_listK (K := K)) (pe_fldK (K := K) (pv 0) rfl) (pv 2) (fun _ _ => rfl)) (pe_ix (ix_listK (K := K)) (pe_fldK (K := K) (pv 0) rfl) (pe_op op_sub (pv 2) pe_int) (fun _ _ => rfl))) pa_nil)) ip_add)))
      (pss_one (ps_ret (pv 1))))), ?_⟩
    refine ⟨_, rfl, _, _, _, _, _, rfl, hP.o, T.o_Path.c, T.na_Path_stops, pf_at l, _, _, rfl, .inl (SqL.of hP.l), _, _, rfl, ⟨by decide, by decide, by rw [vI_len]; omega, by rw [vI_len]; omega⟩, ?_⟩
    rw [vI_len]
    refine for_range (lo := 1) (n := ((ss.length : Int) - 1).toNat) (fun i σ H2 => ∃ v, σ = [some (.ref a), some (.int (szTo ss i)), v] ∧ H2 = H) ⟨none, rfl, rfl⟩ ?_ ?_
    · rintro i σ H2 hi ⟨v, rfl, rfl⟩
      have e1 := vI_at (ks := ss) (i := 1 + (i : Int)) (by omega) (by omega)
      have e2 := vI_at (ks := ss) (i := 1 + (i : Int) - 1) (by omega) (by omega)
      rw [show (1 + (i : Int)).toNat = i + 1 by omega] at e1
      rw [show (1 + (i : Int) - 1).toNat = i by omega] at e2
      refine ⟨_, rfl, _, rfl, _, _, _, _, _, rfl, hP.o, T.o_Path.c, T.na_Path_stops, pf_at l, _, rfl, _, _, _, _, rfl, rfl, SqL.of hP.l, e1, ?_⟩
      refine ⟨_, rfl, _, _, _, _, _, rfl, hP.o, T.o_Path.c, T.na_Path_stops, pf_at l, _, rfl, _, _, rfl, rfl, _, _, _, _, rfl, rfl, SqL.of hP.l, e2, _, _, rfl, rfl, _, rfl, _, _, rfl, rfl, ?_⟩
      exact ⟨some (.int (1 + (i : Int))), by rw [szTo_succ]; rfl, rfl⟩
    · rintro σ H2 ⟨v, rfl, rfl⟩
      refine ⟨_, rfl, ?_⟩
      rw [show ((ss.length : Int) - 1).toNat = ss.length - 1 by omega]
      exact k
theorem atI_last {ks : List Int} {z : Int} (h : ks.getLast? = some z) : atI (vI ks) (-1) = some (.int z) := by
  have hne : 0 < ks.length := by
    cases ks with
    | nil => cases h
    | cons a l => exact Nat.succ_pos _
  rw [List.getLast?_eq_getElem?] at h
  unfold atI ixN
  rw [if_neg (by decide), vI_len]
  rw [if_pos (by omega)]
  have : ((ks.length : Int) + -1).toNat = ks.length - 1 := by omega
  show (some _).bind _ = _
  rw [Option.bind_some]
  first
    | (rw [this]; exact vI_get h)
    | (rw [show (-1 + (ks.length : Int)).toNat = ks.length - 1 by omega]; exact vI_get h)
theorem len_go : ∀ (ss : List Int) (i : Nat), i + 1 ≤ ss.length → ((pnum (ss.take (i + 1))).length : Int) = szTo ss i := by
  intro ss i
  induction i with
  | zero =>
    intro h
    cases ss with
    | nil => simp at h
    | cons s r => simp [pnum, go, szTo]
  | succ i ih =>
    intro h
    have hlt : i + 1 < ss.length := by omega
    have e := ih (by omega)
    rw [szTo_succ, ← e]
    cases ss with
    | nil => simp at h
    | cons s r =>
      have hr : i < r.length := by simpa using hlt
      rw [List.take_succ_cons, List.take_succ_cons, List.take_add_one, List.getElem?_eq_getElem hr]
      show ((pnum (s :: (r.take i ++ [r[i]]))).length : Int) = _
      rw [pnum, go_snoc, pnum, List.length_cons, List.length_append, List.length_cons]
      have d : ((stps (lst s (r.take i)) r[i]).length : Int) = dst (s :: r) i := by
        rw [stps_len]
        unfold dst
        have e1 : (s :: r).getD (i + 1) 0 = r[i] := by simp [List.getD, hr]
        have e2 : (s :: r).getD i 0 = lst s (r.take i) := by
          cases i with
          | zero => simp [lst]
          | succ j =>
            have hj : j < r.length := by omega
            rw [List.take_add_one, List.getElem?_eq_getElem hj]
            show _ = lst s (r.take j ++ [r[j]])
            rw [lst_snoc]
            simp [List.getD, hj]
        rw [e1, e2]
      omega
theorem szTo_mono (ss : List Int) : ∀ {i j : Nat}, i ≤ j → szTo ss i ≤ szTo ss j := by
  intro i j h
  induction h with
  | refl => exact Int.le_refl _
  | @step m _ ih =>
    have : 0 ≤ dst ss m := by unfold dst absI; split <;> omega
    have e := szTo_succ ss m
    show szTo ss i ≤ szTo ss (m + 1)
    omega
def sp_pnum (t : Adr) : Sp := fun vs H Q _ => ∃ (a dx l : Addr) (ss : List Int), vs = [.ref a] ∧ IsP t H a dx l ss ∧ szTo ss (ss.length - 1) ≤ 400 ∧ (∀ s ∈ ss, s.natAbs ≤ 400) ∧ ∀ q H', Same H H' → H q = none → H' q = some (.lst (vI (pnum ss))) → Q (.ref q) H'
theorem ok_Path_numbers (T : Txt K mg t) : FnOk P w K mg base CX0 2 t.f_Path_numbers t.d_Path_numbers ["self"] (sp_pnum t) := by
  have G_steps_between : FnOk P w K mg base CX0 1 t.f_steps_between t.d_steps_between _ _ := ok_steps_between T
  refine T.m_Path_numbers.F.ok sc_Path_numbers (fun vs H Q E h => ?_) (fun cdv A outer s H vs Q E hr h => ?_)
  · obtain ⟨a, dx, l, ss, rfl, _⟩ := h
    rfl
  · obtain ⟨a, dx, l, ss, rfl, hP, h400, hb, k⟩ := h
    have ne := hP.ne
    have le := hP.le
    have hsz : sizeLine = 16777216 := sizeLine_eq
    refine ⟨_, (pss_cons (ps_set (i := 1) sc_Path_numbers.nd rfl (Or.inl rfl) (pe_lst (pa_cons (pe_ix (ix_listK (K := K)) (pe_fldK (K := K) (pv 0) rfl) pe_int (fun _ _ => rfl)) pa_nil)))
      (pss_cons (ps_for PassesOwn.never rfl (pi_listK (K := K) (pe_slice (sl_listK (K := K)) (pe_fldK (K := K) (pv 0) rfl) (po_some pe_int) po_none)) (pg_name (i := 2) sc_Path_numbers.nd rfl (Or.inl rfl))
        (pss_one (ps_expr (pe_bmK (K := K) PySem.F.plainAttrs_list PySem.F.slot_list_extend PySem.F.type_list_extend mt_extend (pv 1) (pa_cons (pe_call (G_steps_between.mono (by decide)) hr rfl T.steps_between.m T.steps_between.F.kp T.steps_between.b .nil pass0 (pa_cons (pe_ix (ix_listK (K := K)) (pv 1) (pe_un un_neg pe_int) (fun _ _ => rfl)) (pa_cons (pv 2) pa_nil))) pa_nil)))))
      (pss_one (ps_ret (pv 1))))), ?_⟩
    obtain ⟨s0, r, rfl⟩ : ∃ s0 r, ss = s0 :: r := by
      cases ss with
      | nil => simp at ne
      | cons s0 r => exact ⟨s0, r, rfl⟩
    refine ⟨_, rfl, _, _, _, _, _, rfl, hP.o, T.o_Path.c, T.na_Path_stops, pf_at l, _, _, _, _, rfl, rfl, SqL.of hP.l, atI_of (by decide) rfl, (by show 1 ≤ sizeLine; decide), fun q hq => ?_⟩
    have s1 : Same H (upd H q (.lst [.int s0])) := .upd hq
    refine ⟨_, rfl, _, _, _, _, _, rfl, s1 _ _ hP.o, T.o_Path.c, T.na_Path_stops, pf_at l, _, rfl, _, _, rfl, SqL.of (s1 _ _ hP.l), fun p hp => ?_⟩
    have e1 : cutV (vI (s0 :: r)) (some 1) none = vI r := by
      unfold cutV
      have e0 : HT.sIx (vI (s0 :: r)).length 0 (some 1) = 1 := by
        show HT.sIx (vI (s0 :: r)).length 0 (some ((1 : Nat) : Int)) = 1
        rw [HT.sIx_nat, vI_len, List.length_cons]
        omega
      rw [e0, HT.sIx_none, vI_len, List.length_cons]
      show (vI r).take _ = vI r
      rw [List.take_of_length_le (by rw [vI_len]; omega)]
    rw [e1]
    have s2 : Same H (upd (upd H q (.lst [.int s0])) p (.lst (vI r))) := s1.new hp
    have nqp : q ≠ p := ne_of_none (upd_same (H := H)) hp
    refine ⟨_, rfl, ⟨_, SqL.of upd_same⟩, ?_⟩
    refine for_list (K := K) (a := p) (xs := vI r) (fun i σ H2 => ∃ v, σ = [some (.ref a), some (.ref q), v] ∧ Same H H2 ∧ H2 p = some (.lst (vI r)) ∧ H2 q = some (.lst (vI (s0 :: go s0 (r.take i)))))
      ⟨none, rfl, s2, upd_same, by rw [upd_ne nqp, upd_same]; rfl⟩ (fun i σ H2 _ ⟨_, _, _, e, _⟩ => SqL.of e) ?_ ?_
    · rintro i xv σ H2 hx ⟨v, rfl, s3, hp3, hq3⟩
      obtain ⟨z, hz, rfl⟩ := vI_got hx
      have hir : i < r.length := (List.getElem?_eq_some_iff.mp hz).1
      have bz : z.natAbs ≤ 400 := hb z (List.mem_cons_of_mem _ (List.mem_of_getElem? hz))
      have bl : (lst s0 (r.take i)).natAbs ≤ 400 := by
        cases i with
        | zero => exact hb s0 List.mem_cons_self
        | succ j =>
          have hj : j < r.length := by omega
          rw [List.take_add_one, List.getElem?_eq_getElem hj]
          show (lst s0 (r.take j ++ [r[j]])).natAbs ≤ 400
          rw [lst_snoc]
          exact hb _ (List.mem_cons_of_mem _ (List.getElem_mem hj))
      have hlen := len_go (s0 :: r) (i + 1) (by rw [List.length_cons]; omega)
      have hmono := szTo_mono (s0 :: r) (i := i + 1) (j := (s0 :: r).length - 1) (by simp; omega)
      have e5 : (s0 :: r).take (i + 1 + 1) = s0 :: (r.take i ++ [z]) := by rw [List.take_succ_cons, List.take_add_one, hz]; rfl
      rw [e5, pnum, go_snoc, List.length_cons, List.length_append] at hlen
      refine ⟨_, rfl, .inl ⟨rfl, _, SqL.of hq3⟩, _, rfl, _, rfl, _, _, _, _, rfl, rfl, SqL.of hq3, atI_last (pnum_last s0 (r.take i)), _, rfl, lst s0 (r.take i), z, rfl, bl, bz, fun l2 H3 s4 nl2 hl2 => ?_⟩
      refine ⟨q, l2, _, _, rfl, rfl, s4 _ _ hq3, hl2, (by rw [vI_len, vI_len, List.length_cons]; omega), ?_⟩
      have n2 : l2 ≠ q := (ne_of_none hq3 nl2).symm
      have np : p ≠ q := nqp.symm
      refine ⟨_, rfl, (s3.trans s4).over hq, by rw [upd_ne np]; exact s4 _ _ hp3, ?_⟩
      rw [upd_same, List.take_add_one, hz]
      show some (HO.lst (vI (s0 :: go s0 (r.take i)) ++ vI (stps (lst s0 (r.take i)) z))) = some (HO.lst (vI (s0 :: go s0 (r.take i ++ [z]))))
      rw [go_snoc]
      unfold vI
      rw [← List.map_append]
      rfl
    · rintro σ H2 ⟨v, rfl, s3, hp3, hq3⟩
      refine ⟨_, rfl, k q H2 s3 hq ?_⟩
      rw [hq3, vI_len, List.take_length]
      rfl
end
inductive It where
  | pth (ss : List Int)
  | tms (n : Nat) (xs : List It)
def psz (ss : List Int) : Int := szTo ss (ss.length - 1)
mutual
def It.sz : It → Int
  | .pth ss => psz ss
  | .tms n xs => (n : Int) * szs xs
def szs : List It → Int
  | [] => 0
  | x :: xs => x.sz + szs xs
end
theorem szs_map : ∀ xs : List It, szs xs = (xs.map It.sz).sum
  | [] => by simp [szs]
  | x :: xs => by simp only [szs, List.map_cons, List.sum_cons]; rw [szs_map xs]
mutual
def It.nu : It → List Int
  | .pth ss => pnum ss
  | .tms n xs => (List.replicate n (nus xs)).flatten
def nus : List It → List Int
  | [] => []
  | x :: xs => x.nu ++ nus xs
end
theorem nus_map : ∀ xs : List It, nus xs = (xs.map It.nu).flatten
  | [] => by simp [nus]
  | x :: xs => by simp only [nus, List.map_cons, List.flatten_cons]; rw [nus_map xs]
section
variable {P : Program} {w : World} {K : PySem.W.Frag} {mg : Str → Option Value} {base : Heap} {t : Adr}
def AtP (t : Adr) (H : Hp) (a : Addr) (ss : List Int) : Prop := ∃ dx l, IsP t H a dx l ss
theorem AtP.same {H H' : Hp} {a : Addr} {ss : List Int} (h : AtP t H a ss) (s : Same H H') : AtP t H' a ss :=
  let ⟨dx, l, p⟩ := h
  ⟨dx, l, s _ _ p.o, s _ _ p.l, p.ne, p.le⟩
def tf (n : Nat) (l : Addr) : List (Str × V) := [("count", .int (n : Int)), ("inner", .ref l)]
theorem tf_count (n : Nat) (l : Addr) : (tf n l).lookup ("count" : Str) = some (V.int (n : Int)) := rfl
theorem tf_inner (n : Nat) (l : Addr) : (tf n l).lookup ("inner" : Str) = some (V.ref l) := rfl
def AtI (t : Adr) (H : Hp) : Nat → Addr → It → Prop
  | _, a, .pth ss => AtP t H a ss
  | 0, _, .tms _ _ => False
  | d + 1, a, .tms n xs => ∃ (dx li : Addr) (rs : List Addr), H a = some (.ins t.e_Times dx (tf n li)) ∧ H li = some (.lst (rs.map V.ref)) ∧ n ≤ 99 ∧ rs.length = xs.length ∧ rs.length ≤ 1000 ∧
      ∀ (i : Nat) r x, rs[i]? = some r → xs[i]? = some x → AtI t H d r x
theorem AtI.same {H H' : Hp} (s : Same H H') : ∀ (d : Nat) (a : Addr) (x : It), AtI t H d a x → AtI t H' d a x
  | 0, _, .pth _, h => AtP.same h s
  | 0, _, .tms _ _, h => h.elim
  | d + 1, _, .pth _, h => AtP.same h s
  | d + 1, _, .tms n xs, h => by
    obtain ⟨dx, li, rs, h1, h2, h0, h3, h4, h5⟩ := h
    exact ⟨dx, li, rs, s _ _ h1, s _ _ h2, h0, h3, h4, fun i r x e1 e2 => AtI.same s d r x (h5 i r x e1 e2)⟩
structure AtIs (t : Adr) (H : Hp) (d : Nat) (rs : List Addr) (xs : List It) : Prop where
  len : rs.length = xs.length
  le : rs.length ≤ 1000
  at_ : ∀ (i : Nat) r x, rs[i]? = some r → xs[i]? = some x → AtI t H d r x
theorem AtIs.same {H H' : Hp} {d : Nat} {rs : List Addr} {xs : List It} (h : AtIs t H d rs xs) (s : Same H H') : AtIs t H' d rs xs := ⟨h.len, h.le, fun i r x e1 e2 => AtI.same s d r x (h.at_ i r x e1 e2)⟩
def sp_wsz (t : Adr) (d : Nat) : Sp := fun vs H Q _ => ∃ (li : Addr) (rs : List Addr) (xs : List It), vs = [.ref li] ∧ H li = some (.lst (rs.map V.ref)) ∧ AtIs t H d rs xs ∧ ∀ H', Same H H' → Q (.int (szs xs)) H'
def sp_tsz (t : Adr) : Nat → Sp
  | 0 => fun _ _ _ _ => False
  | d + 1 => fun vs H Q _ => ∃ (a dx li : Addr) (n : Nat) (rs : List Addr) (xs : List It), vs = [.ref a] ∧ H a = some (.ins t.e_Times dx (tf n li)) ∧ H li = some (.lst (rs.map V.ref)) ∧ n ≤ 99 ∧ AtIs t H d rs xs ∧ ∀ H', Same H H' → Q (.int ((n : Int) * szs xs)) H'
theorem ok_Times_size0 (T : Txt K mg t) : FnOk P w K mg base CX0 1 t.f_Times_size t.d_Times_size ["self"] (sp_tsz t 0) :=
  T.m_Times_size.F.ok sc_Times_size (fun vs H Q E h => h.elim) (fun cdv A outer s H vs Q E hr h => h.elim)
theorem ok_Times_size {k d : Nat} (T : Txt K mg t) (G_whole_size : FnOk P w K mg base CX0 k t.f_whole_size t.d_whole_size ["row_items"] (sp_wsz t d)) :
    FnOk P w K mg base CX0 (k + 1) t.f_Times_size t.d_Times_size ["self"] (sp_tsz t (d + 1)) := by
  refine T.m_Times_size.F.ok sc_Times_size (fun vs H Q E h => ?_) (fun cdv A outer s H vs Q E hr h => ?_)
  · obtain ⟨a, dx, li, n, rs, xs, rfl, _⟩ := h
    rfl
  · obtain ⟨a, dx, li, n, rs, xs, rfl, ho, hl, hn, hA, k⟩ := h
    refine ⟨_, (pss_one (ps_ret (pe_op op_mul (pe_fldK (K := K) (pv 0) rfl) (pe_call (G_whole_size.mono (by omega)) hr rfl T.whole_size.m T.whole_size.F.kp T.whole_size.b .nil pass0 (pa_cons (pe_fldK (K := K) (pv 0) rfl) pa_nil))))), ?_⟩
    refine ⟨_, rfl, _, _, _, _, _, rfl, ho, T.o_Times.c, T.na_Times_count, tf_count n li, ?_⟩
    refine ⟨_, rfl, _, _, _, _, _, rfl, ho, T.o_Times.c, T.na_Times_inner, tf_inner n li, ?_⟩
    refine ⟨li, rs, xs, rfl, hl, hA, fun H1 s1 => ?_⟩
    exact ⟨_, _, rfl, rfl, .inl ⟨by omega, by omega⟩, k H1 s1⟩
theorem ok_whole_size {k d : Nat} (hk : 1 ≤ k) (T : Txt K mg t) (G_Times_size : FnOk P w K mg base CX0 k t.f_Times_size t.d_Times_size ["self"] (sp_tsz t d)) :
    FnOk P w K mg base CX0 (k + 1) t.f_whole_size t.d_whole_size ["row_items"] (sp_wsz t d) := by
  have G_Path_size : FnOk P w K mg base CX0 1 t.f_Path_size t.d_Path_size _ _ := ok_Path_size T
  refine T.whole_size.F.ok sc_whole_size (fun vs H Q E h => ?_) (fun cdv A outer s H vs Q E hr h => ?_)
  · obtain ⟨li, rs, xs, rfl, _⟩ := h
    rfl
  · obtain ⟨li, rs, xs, rfl, hl, hA, kk⟩ := h
    have ln := hA.len
    have le := hA.le
    have hsz : sizeLine = 16777216 := sizeLine_eq
    refine ⟨_, (pss_one (ps_ret (pe_callB (call_sumI (K := K)) rfl T.b_sum bt_sum (pa_cons (pe_comp (CompOk.mk (caps := []) (Nc := ["item"]) rfl (by decide +kernel) (by decide +kernel) (comp_fr (sc0 := defScope s_whole_size) rfl (by decide +kernel)) rfl rfl rfl (by decide +kernel) (fun _ _ h => by simp at h)) rfl (pi_listK (K := K) (pv 0)) (fun _ _ _ _ _ => .nil) (fun _ _ _ _ _ => (pe_methD (pv 0) T.o_Path.c T.m_Path_size.m (G_Path_size.mono (by omega)) hr T.m_Path_size.b pass0 T.o_Times.c T.m_Times_size.m (G_Times_size.mono (by omega)) hr T.m_Times_size.b pass0))) pa_nil)))), ?_⟩
    refine ⟨_, rfl, _, rfl, ⟨_, SqL.of hl⟩, comp_list (K := K) (a := li) (xs := rs.map V.ref) (fun i ys H2 => Same H H2 ∧ ys = vI ((xs.take i).map It.sz)) ⟨.refl _, rfl⟩ ?_ ?_ ?_ ?_⟩
    · rintro i ys H2 hi ⟨s2, rfl⟩
      refine ⟨SqL.of (s2 _ _ hl), ?_⟩
      rw [vI_len, List.length_map, List.length_take]
      omega
    · rw [List.length_map]; omega
    · rintro i x ys H2 hi hx ⟨s2, rfl⟩
      rw [List.length_map] at hi
      have hi' : i < xs.length := by omega
      rw [List.getElem?_map, List.getElem?_eq_getElem hi] at hx
      cases hx
      have hI := AtI.same s2 d _ _ (hA.at_ i _ _ (List.getElem?_eq_getElem hi) (List.getElem?_eq_getElem hi'))
      refine CTurn.no ?_
      have fin : ∀ H3, Same H2 H3 → ∀ z : Int, z = (xs[i]).sz → CN (rs.map V.ref).length (fun i ys H2 => Same H H2 ∧ ys = vI ((xs.take i).map It.sz)) i (vI ((xs.take i).map It.sz) ++ [.int z]) H3 := fun H3 s3 z hz => by
        refine CN.of (by rw [List.length_map]; exact hi) ⟨s2.trans s3, ?_⟩
        rw [hz, vI_app, List.take_add_one, List.getElem?_eq_getElem hi', List.map_append]
        rfl
      generalize hx' : xs[i] = x at hI
      cases x with
      | pth ss =>
        have hP0 : AtP t H2 rs[i] ss := by cases d <;> exact hI
        obtain ⟨dx, l, hP⟩ := hP0
        refine ⟨_, rfl, _, dx, pf l, rfl, rfl, .inl ⟨hP.o, _, dx, l, _, rfl, hP, ?_⟩⟩
        exact fin H2 (.refl _) _ (by rw [hx']; simp only [It.sz]; rfl)
      | tms n ys =>
        cases d with
        | zero => exact hI.elim
        | succ d =>
          obtain ⟨dx, l2, rs2, h1, h2, h0, h3, h4, h5⟩ := hI
          refine ⟨_, rfl, _, dx, tf n l2, rfl, rfl, .inr ⟨h1, _, dx, l2, n, rs2, ys, rfl, h1, h2, h0, ⟨h3, h4, h5⟩, fun H3 s3 => ?_⟩⟩
          exact fin H3 s3 _ (by rw [hx']; simp only [It.sz])
    · rintro ys H2 p ⟨s2, rfl⟩ hp
      rw [List.length_map, ln, List.take_length]
      refine ⟨_, _, rfl, SqL.of upd_same, ?_⟩
      rw [← szs_map]
      exact kk _ (s2.new hp)
theorem ok_wsz (T : Txt K mg t) : ∀ d : Nat, FnOk P w K mg base CX0 (2 * d + 2) t.f_whole_size t.d_whole_size ["row_items"] (sp_wsz t d)
  | 0 => ok_whole_size (Nat.le_refl 1) T (ok_Times_size0 T)
  | d + 1 => ok_whole_size (k := 2 * d + 3) (by omega) T (ok_Times_size T (ok_wsz T d))
end
mutual
def It.Sm : It → Prop
  | .pth ss => 1 ≤ ss.length ∧ ∀ s ∈ ss, s.natAbs ≤ 400
  | .tms n xs => 1 ≤ n ∧ Sms xs
def Sms : List It → Prop
  | [] => True
  | x :: xs => x.Sm ∧ Sms xs
end
theorem Sms.of_get : ∀ {xs : List It} {i : Nat} {x : It}, Sms xs → xs[i]? = some x → x.Sm
  | [], i, x, _, e => by simp at e
  | y :: xs, 0, x, h, e => by
    simp only [Sms] at h
    simp at e
    rw [← e]; exact h.1
  | y :: xs, i + 1, x, h, e => by
    simp only [Sms] at h
    exact Sms.of_get h.2 (by simpa using e)
mutual
theorem It.len_nu : ∀ x : It, x.Sm → (x.nu.length : Int) = x.sz
  | .pth ss, h => by
    simp only [It.Sm] at h
    simp only [It.nu, It.sz]
    have := len_go ss (ss.length - 1) (by omega)
    rw [show ss.length - 1 + 1 = ss.length by omega, List.take_length] at this
    exact this
  | .tms n xs, h => by
    simp only [It.Sm] at h
    simp only [It.nu, It.sz]
    rw [len_rep, Int.natCast_mul, len_nus xs h.2]
theorem len_nus : ∀ xs : List It, Sms xs → ((nus xs).length : Int) = szs xs
  | [], _ => by simp [nus, szs]
  | x :: xs, h => by
    simp only [Sms] at h
    simp only [nus, szs]
    rw [List.length_append, Int.natCast_add, It.len_nu x h.1, len_nus xs h.2]
end
theorem Sms.nn {xs : List It} (h : Sms xs) : 0 ≤ szs xs := by rw [← len_nus xs h]; omega
theorem It.Sm.nn {x : It} (h : x.Sm) : 0 ≤ x.sz := by rw [← x.len_nu h]; omega
theorem nus_snoc (xs : List It) (x : It) : nus (xs ++ [x]) = nus xs ++ x.nu := by
  rw [nus_map, nus_map, List.map_append, List.flatten_append]
  simp
theorem szs_snoc (xs : List It) (x : It) : szs (xs ++ [x]) = szs xs + x.sz := by
  rw [szs_map, szs_map, List.map_append, List.sum_append]
  simp
theorem szs_app (xs ys : List It) : szs (xs ++ ys) = szs xs + szs ys := by
  rw [szs_map, szs_map, szs_map, List.map_append, List.sum_append]
theorem Sms.app : ∀ {xs ys : List It}, Sms (xs ++ ys) → Sms xs ∧ Sms ys
  | [], ys, h => ⟨by simp only [Sms], h⟩
  | x :: xs, ys, h => by
    rw [List.cons_append] at h
    simp only [Sms] at h
    have := Sms.app h.2
    exact ⟨by simp only [Sms]; exact ⟨h.1, this.1⟩, this.2⟩
theorem take_le {xs : List It} (h : Sms xs) (i : Nat) : szs (xs.take i) ≤ szs xs ∧ 0 ≤ szs (xs.take i) := by
  have e : xs = xs.take i ++ xs.drop i := (List.take_append_drop i xs).symm
  have h' := h
  rw [e] at h'
  have a := Sms.app h'
  have e2 : szs xs = szs (xs.take i) + szs (xs.drop i) := by rw [← szs_app, List.take_append_drop]
  have n1 := a.1.nn
  have n2 := a.2.nn
  omega
section
variable {P : Program} {w : World} {K : PySem.W.Frag} {mg : Str → Option Value} {base : Heap} {t : Adr}
def sp_wnu (t : Adr) (d : Nat) : Sp := fun vs H Q _ => ∃ (li : Addr) (rs : List Addr) (xs : List It), vs = [.ref li] ∧ H li = some (.lst (rs.map V.ref)) ∧ AtIs t H d rs xs ∧ Sms xs ∧ szs xs ≤ 400 ∧
  ∀ q H', Same H H' → H q = none → H' q = some (.lst (vI (nus xs))) → Q (.ref q) H'
def sp_tnu (t : Adr) : Nat → Sp
  | 0 => fun _ _ _ _ => False
  | d + 1 => fun vs H Q _ => ∃ (a dx li : Addr) (n : Nat) (rs : List Addr) (xs : List It), vs = [.ref a] ∧ H a = some (.ins t.e_Times dx (tf n li)) ∧ H li = some (.lst (rs.map V.ref)) ∧ n ≤ 99 ∧ AtIs t H d rs xs ∧ (It.tms n xs).Sm ∧ (It.tms n xs).sz ≤ 400 ∧
      ∀ q H', Same H H' → H q = none → H' q = some (.lst (vI (It.tms n xs).nu)) → Q (.ref q) H'
theorem vI_rep (n : Nat) (l : List Int) : (List.replicate n (vI l)).flatten = vI (List.replicate n l).flatten := by
  induction n with
  | zero => rfl
  | succ n ih =>
    rw [List.replicate_succ, List.replicate_succ, List.flatten_cons, List.flatten_cons, ih]
    unfold vI
    rw [List.map_append]
theorem ok_Times_numbers0 (T : Txt K mg t) : FnOk P w K mg base CX0 1 t.f_Times_numbers t.d_Times_numbers ["self"] (sp_tnu t 0) :=
  T.m_Times_numbers.F.ok sc_Times_numbers (fun vs H Q E h => h.elim) (fun cdv A outer s H vs Q E hr h => h.elim)
theorem ok_Times_numbers {k d : Nat} (T : Txt K mg t) (G_all_numbers : FnOk P w K mg base CX0 k t.f_all_numbers t.d_all_numbers ["row_items"] (sp_wnu t d)) :
    FnOk P w K mg base CX0 (k + 1) t.f_Times_numbers t.d_Times_numbers ["self"] (sp_tnu t (d + 1)) := by
  refine T.m_Times_numbers.F.ok sc_Times_numbers (fun vs H Q E h => ?_) (fun cdv A outer s H vs Q E hr h => ?_)
  · obtain ⟨a, dx, li, n, rs, xs, rfl, _⟩ := h
    rfl
  · obtain ⟨a, dx, li, n, rs, xs, rfl, ho, hl, hn, hA, hS, h4, k⟩ := h
    have hsz : sizeLine = 16777216 := sizeLine_eq
    simp only [It.Sm] at hS
    simp only [It.sz] at h4
    have nn := hS.2.nn
    have z4 : szs xs ≤ 400 := by
      have : szs xs ≤ (n : Int) * szs xs := by
        have h1 := Int.mul_le_mul_of_nonneg_right (show (1 : Int) ≤ (n : Int) by omega) nn
        omega
      omega
    have len := len_nus xs hS.2
    refine ⟨_, (pss_one (ps_ret (pe_op op_rep (pe_call (G_all_numbers.mono (by omega)) hr rfl T.all_numbers.m T.all_numbers.F.kp T.all_numbers.b .nil pass0 (pa_cons (pe_fldK (K := K) (pv 0) rfl) pa_nil)) (pe_fldK (K := K) (pv 0) rfl)))), ?_⟩
    refine ⟨_, rfl, _, _, _, _, _, rfl, ho, T.o_Times.c, T.na_Times_inner, tf_inner n li, ?_⟩
    refine ⟨li, rs, xs, rfl, hl, hA, hS.2, z4, fun q H1 s1 nq hq => ?_⟩
    refine ⟨_, rfl, _, _, _, _, _, rfl, s1 _ _ ho, T.o_Times.c, T.na_Times_count, tf_count n li, ?_⟩
    refine ⟨q, (n : Int), vI (nus xs), rfl, rfl, hq, by omega, by omega, ?_, fun p hp => ?_⟩
    · rw [vI_len, Int.toNat_natCast]
      have : (nus xs).length ≤ 400 := by omega
      have : (nus xs).length * n ≤ 400 * 99 := Nat.mul_le_mul this hn
      omega
    · refine k p _ (s1.new hp) (s1.free hp) ?_
      rw [upd_same, Int.toNat_natCast, vI_rep]
      simp only [It.nu]
theorem ok_all_numbers {k d : Nat} (hk : 2 ≤ k) (T : Txt K mg t) (G_Times_numbers : FnOk P w K mg base CX0 k t.f_Times_numbers t.d_Times_numbers ["self"] (sp_tnu t d)) :
    FnOk P w K mg base CX0 (k + 1) t.f_all_numbers t.d_all_numbers ["row_items"] (sp_wnu t d) := by
  have G_Path_numbers : FnOk P w K mg base CX0 2 t.f_Path_numbers t.d_Path_numbers _ _ := ok_Path_numbers T
  refine T.all_numbers.F.ok sc_all_numbers (fun vs H Q E h => ?_) (fun cdv A outer s H vs Q E hr h => ?_)
  · obtain ⟨li, rs, xs, rfl, _⟩ := h
    rfl
  · obtain ⟨li, rs, xs, rfl, hl, hA, hS, h4, kk⟩ := h
    have ln := hA.len
    have hsz : sizeLine = 16777216 := sizeLine_eq
    refine ⟨_, (pss_cons (ps_set (i := 1) sc_all_numbers.nd rfl (Or.inl rfl) (pe_lst pa_nil))
      (pss_cons (ps_for PassesOwn.never rfl (pi_listK (K := K) (pv 0)) (pg_name (i := 2) sc_all_numbers.nd rfl (Or.inl rfl))
        (pss_one (ps_expr (pe_bmK (K := K) PySem.F.plainAttrs_list PySem.F.slot_list_extend PySem.F.type_list_extend mt_extend (pv 1) (pa_cons (pe_methD (pv 2) T.o_Path.c T.m_Path_numbers.m (G_Path_numbers.mono (by omega)) hr T.m_Path_numbers.b pass0 T.o_Times.c T.m_Times_numbers.m (G_Times_numbers.mono (by omega)) hr T.m_Times_numbers.b pass0) pa_nil)))))
      (pss_one (ps_ret (pv 1))))), ?_⟩
    refine ⟨Nat.zero_le _, fun q hq => ?_⟩
    have s1 : Same H (upd H q (.lst [])) := .upd hq
    refine ⟨_, rfl, _, rfl, ⟨_, SqL.of (s1 _ _ hl)⟩, ?_⟩
    refine for_list (K := K) (a := li) (xs := rs.map V.ref) (fun i σ H2 => ∃ v, σ = [some (.ref li), some (.ref q), v] ∧ Same H H2 ∧ H2 q = some (.lst (vI (nus (xs.take i)))))
      ⟨none, rfl, s1, by rw [upd_same]; simp [nus, vI]⟩ (fun i σ H2 _ ⟨_, _, s2, _⟩ => SqL.of (s2 _ _ hl)) ?_ ?_
    · rintro i x σ H2 hx ⟨v, rfl, s2, hq2⟩
      have hi : i < rs.length := by
        have := (List.getElem?_eq_some_iff.mp hx).1
        rwa [List.length_map] at this
      have hi' : i < xs.length := by omega
      rw [List.getElem?_map, List.getElem?_eq_getElem hi] at hx
      cases hx
      have hm : (xs[i]).Sm := hS.of_get (List.getElem?_eq_getElem hi')
      have hI := AtI.same s2 d _ _ (hA.at_ i _ _ (List.getElem?_eq_getElem hi) (List.getElem?_eq_getElem hi'))
      have e6 : (xs.take (i + 1)) = xs.take i ++ [xs[i]] := by rw [List.take_add_one, List.getElem?_eq_getElem hi']; rfl
      have p1 := take_le hS (i + 1)
      have p0 := take_le hS i
      have e7 : szs (xs.take (i + 1)) = szs (xs.take i) + (xs[i]).sz := by rw [e6, szs_snoc]
      have m0 := hm.nn
      have x4 : (xs[i]).sz ≤ 400 := by omega
      have l1 := (xs[i]).len_nu hm
      have sm : Sms (xs.take i) := by
        have h' := hS
        rw [← List.take_append_drop i xs] at h'
        exact h'.app.1
      have l0 := len_nus _ sm
      have fin : ∀ l2 H3, Same H2 H3 → H2 l2 = none → H3 l2 = some (.lst (vI (xs[i]).nu)) → ∀ (nz : (vI (nus (xs.take i))).length + (vI (xs[i]).nu).length ≤ sizeLine),
          ∃ v, [some (V.ref li), some (.ref q), some (.ref rs[i])] = [some (.ref li), some (.ref q), v] ∧ Same H (upd H3 q (.lst (vI (nus (xs.take i)) ++ vI (xs[i]).nu))) ∧ (upd H3 q (.lst (vI (nus (xs.take i)) ++ vI (xs[i]).nu))) q = some (.lst (vI (nus (xs.take (i + 1))))) := fun l2 H3 s3 n3 h3 _ => by
        refine ⟨_, rfl, (s2.trans s3).over hq, ?_⟩
        rw [upd_same, e6, nus_snoc]
        unfold vI
        rw [List.map_append]
      have nz : (vI (nus (xs.take i))).length + (vI (xs[i]).nu).length ≤ sizeLine := by rw [vI_len, vI_len]; omega
      generalize hx' : xs[i] = x at hI hm x4 fin nz
      refine ⟨_, rfl, .inl ⟨rfl, _, SqL.of hq2⟩, _, rfl, ?_⟩
      cases x with
      | pth ss =>
        have hP0 : AtP t H2 rs[i] ss := by cases d <;> exact hI
        obtain ⟨dx, l, hP⟩ := hP0
        simp only [It.Sm] at hm
        simp only [It.sz] at x4
        refine ⟨_, dx, pf l, rfl, rfl, .inl ⟨hP.o, _, dx, l, _, rfl, hP, x4, hm.2, fun l2 H3 s3 nl2 hl2 => ?_⟩⟩
        exact ⟨q, l2, _, _, rfl, rfl, s3 _ _ hq2, by rw [hl2]; simp only [It.nu], nz, fin l2 H3 s3 nl2 (by rw [hl2]; simp only [It.nu]) nz⟩
      | tms n ys =>
        cases d with
        | zero => exact hI.elim
        | succ d =>
          obtain ⟨dx, l2, rs2, h1, h2, h0, h3, h4', h5⟩ := hI
          refine ⟨_, dx, tf n l2, rfl, rfl, .inr ⟨h1, _, dx, l2, n, rs2, ys, rfl, h1, h2, h0, ⟨h3, h4', h5⟩, hm, x4, fun l3 H3 s3 nl3 hl3 => ?_⟩⟩
          exact ⟨q, l3, _, _, rfl, rfl, s3 _ _ hq2, hl3, nz, fin l3 H3 s3 nl3 hl3 nz⟩
    · rintro σ H2 ⟨v, rfl, s2, hq2⟩
      refine ⟨_, rfl, kk q H2 s2 hq ?_⟩
      rw [hq2, List.length_map, ln, List.take_length]
theorem ok_wnu (T : Txt K mg t) : ∀ d : Nat, FnOk P w K mg base CX0 (2 * d + 3) t.f_all_numbers t.d_all_numbers ["row_items"] (sp_wnu t d)
  | 0 => ok_all_numbers (Nat.le_refl 2) T ((ok_Times_numbers0 T).mono (by decide))
  | d + 1 => ok_all_numbers (k := 2 * d + 4) (by omega) T (ok_Times_numbers T (ok_wnu T d))
end
def dec (n : Nat) : List Nat := (Str.ofString (toString (n : Int))).cps.toList
theorem dec_tx (n : Nat) : Str.ofString (toString (n : Int)) = tx (dec n) := (tx_of _).symm
def decOk (n : Nat) : Bool := (dec n).all (fun c => decide (48 ≤ c ∧ c ≤ 57)) && decide (1 ≤ (dec n).length ∧ (dec n).length ≤ 2) && decide (¬ ((dec n).length = 2 ∧ (dec n)[0]? = some 48)) && decide (PySem.NumText.digitsVal (dec n) = n)
theorem dec_ok : ∀ n, n < 100 → decOk n = true := by decide +kernel
structure Dec (n : Nat) : Prop where
  dg : ∀ c ∈ dec n, 48 ≤ c ∧ c ≤ 57
  l1 : 1 ≤ (dec n).length
  l2 : (dec n).length ≤ 2
  z : ¬ ((dec n).length = 2 ∧ (dec n)[0]? = some 48)
  v : PySem.NumText.digitsVal (dec n) = n
theorem dec_is {n : Nat} (h : n < 100) : Dec n := by
  have := dec_ok n h
  unfold decOk at this
  simp only [Bool.and_eq_true, decide_eq_true_eq, List.all_eq_true] at this
  obtain ⟨⟨⟨h1, h2⟩, h3⟩, h4⟩ := this
  exact ⟨h1, h2.1, h2.2, h3, h4⟩
def tails : List Nat → List Nat
  | [] => []
  | n :: r => 45 :: (dec n ++ tails r)
def pathT : List Nat → List Nat
  | [] => []
  | n :: r => dec n ++ tails r
def Stop (rest : List Nat) : Prop := ∀ c, rest[0]? = some c → ¬ (48 ≤ c ∧ c ≤ 57) ∧ c ≠ 45
section
variable {P : Program} {w : World} {K : PySem.W.Frag} {mg : Str → Option Value} {base : Heap} {t : Adr}
theorem numV_dec {n : Nat} (h : n < 100) : numV (dec n) = .int (n : Int) := by
  have d := dec_is h
  unfold numV
  rw [if_pos ⟨⟨d.l1, d.l2⟩, d.z⟩, d.v]
theorem figs_dec {n : Nat} (h : n < 100) {rest : List Nat} (hs : ∀ c, rest[0]? = some c → ¬ (48 ≤ c ∧ c ≤ 57)) : figs (dec n ++ rest) = dec n := by
  have d := dec_is h
  rw [figs_eq (dec n ++ rest) (dec n).length (by rw [List.length_append]; omega)]
  · exact List.take_left
  · rw [List.take_left]
    exact fun c hc => decide_eq_true (d.dg c hc)
  · intro c hc
    rw [List.getElem?_append_right (Nat.le_refl _), Nat.sub_self] at hc
    exact decide_eq_false (hs c hc)
def SameB (r : Addr) (H H' : Hp) : Prop := ∀ b o, b ≠ r → H b = some o → H' b = some o
theorem SameB.trans {r : Addr} {H H1 H2 : Hp} (a : SameB r H H1) (b : SameB r H1 H2) : SameB r H H2 := fun c o n e => b c o n (a c o n e)
theorem SameB.upd {r : Addr} {H : Hp} {o : HO} : SameB r H (L2.upd H r o) := fun b o' n e => by rw [upd_ne n]; exact e
theorem sameB {r : Addr} {H H' : Hp} (s : Same H H') : SameB r H H' := fun b o _ e => s b o e
def sp_rnum (t : Adr) : Sp := fun vs H Q _ => ∃ r dx u p n rest, vs = [.ref r] ∧ Rd t H r dx u p ∧ n < 100 ∧ u.drop p = dec n ++ rest ∧ (∀ c, rest[0]? = some c → ¬ (48 ≤ c ∧ c ≤ 57)) ∧ Q (.int (n : Int)) (upd H r (.ins t.e_Reader dx (rf u (p + (dec n).length))))
theorem ok_read_number (T : Txt K mg t) : FnOk P w K mg base CX0 4 t.f_read_number t.d_read_number ["reader"] (sp_rnum t) := by
  have G_Reader_number : FnOk P w K mg base CX0 3 t.f_Reader_number t.d_Reader_number _ _ := ok_Reader_number T
  refine T.read_number.F.ok sc_read_number (fun vs H Q E h => ?_) (fun cdv A outer s H vs Q E hr h => ?_)
  · obtain ⟨r, dx, u, p, n, rest, rfl, _⟩ := h
    rfl
  · obtain ⟨r, dx, u, p, n, rest, rfl, hR, hn, hd, hs, k⟩ := h
    refine ⟨_, (pss_cons (ps_set (i := 1) sc_read_number.nd rfl (Or.inl rfl) (pe_meth0 (pv 0) T.o_Reader.c T.m_Reader_number.m (G_Reader_number.mono (by decide)) hr T.m_Reader_number.b .nil pass0))
      (pss_cons (ps_if (pt_cmpR op_isN (pv 1) pe_non (nomark _))
        (pss_one ps_never)
        pss_nil)
      (pss_one (ps_ret (pv 1))))), ?_⟩
    refine ⟨_, rfl, r, dx, rf u p, rfl, hR.1, (rf_meth u p).2.2.1, r, dx, u, p, rfl, hR, ?_⟩
    rw [hd, figs_dec hn hs, numV_dec hn]
    refine ⟨_, rfl, rfl, _, rfl, ?_⟩
    refine iteDn (fun z => nomatch z) ?_
    exact ⟨_, rfl, k⟩
theorem one_dash : (("-" : Str)) = tx [45] := by decide +kernel
def sp_rpath (t : Adr) : Sp := fun vs H Q _ => ∃ r dx u p n0 ns rest, vs = [.ref r, .int ((n0 : Nat) : Int)] ∧ Rd t H r dx u p ∧ (∀ n ∈ ns, n < 100) ∧ ns.length ≤ 900 ∧ u.drop p = tails ns ++ rest ∧ Stop rest ∧
  ∀ a H', SameB r H H' → Rd t H' r dx u (p + (tails ns).length) → H a = none → AtP t H' a ((n0 :: ns).map Int.ofNat) → Q (.ref a) H'
theorem ok_read_path (T : Txt K mg t) : FnOk P w K mg base CX0 5 t.f_read_path t.d_read_path ["reader", "first"] (sp_rpath t) := by
  have G_Reader_took : FnOk P w K mg base CX0 1 t.f_Reader_took t.d_Reader_took _ _ := ok_Reader_took T
  have G_read_number : FnOk P w K mg base CX0 4 t.f_read_number t.d_read_number _ _ := ok_read_number T
  have G_Path___init__ : FnOk P w K mg base CX0 1 t.f_Path___init__ t.d_Path___init__ _ _ := ok_Path___init__ T
  refine T.read_path.F.ok sc_read_path (fun vs H Q E h => ?_) (fun cdv A outer s H vs Q E hr h => ?_)
  · obtain ⟨r, dx, u, p, n0, ns, rest, rfl, _⟩ := h
    rfl
  · obtain ⟨r, dx, u, p, n0, ns, rest, rfl, hR, hn, hl, hd, hs, k⟩ := h
    refine ⟨_, (pss_cons (ps_set (i := 2) sc_read_path.nd rfl (Or.inl rfl) (pe_lst (pa_cons (pv 1) pa_nil)))
      (pss_cons (ps_while PassesOwn.never (pt_val (pe_meth (pv 0) T.o_Reader.c T.m_Reader_took.m (G_Reader_took.mono (by decide)) hr T.m_Reader_took.b .nil pass0 (pa_cons pe_str pa_nil)))
        (pss_one (ps_expr (pe_bmK (K := K) PySem.F.plainAttrs_list PySem.F.slot_list_append PySem.F.type_list_append mt_append (pv 2) (pa_cons (pe_call (G_read_number.mono (by decide)) hr rfl T.read_number.m T.read_number.F.kp T.read_number.b .nil pass0 (pa_cons (pv 0) pa_nil)) pa_nil)))))
      (pss_one (ps_ret (pe_make T.o_Path.m (G_Path___init__.mono (by decide)) hr rfl T.k_Path T.m_Path___init__.b .nil pass0 (pa_cons (pv 2) pa_nil)))))), ?_⟩
    refine ⟨_, rfl, (by show 1 ≤ sizeLine; decide), fun q hq => ?_⟩
    have nqr : q ≠ r := fun z => by rw [z, hR.1] at hq; cases hq
    refine ⟨fun m σ H2 => ∃ done todo, σ = [some (.ref r), some (.int (n0 : Int)), some (.ref q)] ∧ ns = done ++ todo ∧ SameB r H H2 ∧ H2 q = some (.lst (vI ((n0 :: done).map Int.ofNat))) ∧ Rd t H2 r dx u (p + (tails done).length) ∧ u.drop (p + (tails done).length) = tails todo ++ rest ∧ m = todo.length,
      ⟨_, [], ns, rfl, rfl, sameB (Same.upd hq), upd_same, ⟨by rw [upd_ne nqr.symm]; exact hR.1, hR.2⟩, hd, rfl⟩, ?_⟩
    rintro m σ H2 ⟨done, todo, rfl, rfl, s2, hq2, hR2, hd2, rfl⟩
    refine ⟨_, rfl, r, dx, rf u (p + (tails done).length), rfl, hR2.1, (rf_meth u _).2.1, r, dx, u, p + (tails done).length, [45], (by rw [one_dash]; rfl), hR2, (by decide), fun hyes => ?_, fun hno => ?_⟩
    · refine ⟨_, rfl, ?_⟩
      refine iteT ?_
      rw [hd2] at hyes
      cases todo with
      | nil =>
        exfalso
        cases rest with
        | nil => simp [tails] at hyes
        | cons c rest =>
          have : c = 45 := by simpa [tails] using hyes
          exact (hs c rfl).2 this
      | cons n td =>
        have hn2 : n < 100 := hn n (by simp)
        have hdr : u.drop (p + (tails done).length + 1) = dec n ++ (tails td ++ rest) := by
          rw [← List.drop_drop, hd2]
          simp [tails]
        have hlen : p + (tails done).length + 1 ≤ u.length := by
          have := congrArg List.length hd2
          rw [List.length_drop] at this
          simp [tails] at this
          omega
        have nx : ∀ c, (tails td ++ rest)[0]? = some c → ¬ (48 ≤ c ∧ c ≤ 57) := fun c hc => by
          cases td with
          | nil => exact (hs c (by simpa [tails] using hc)).1
          | cons m td =>
            have : 45 = c := by simpa [tails] using hc
            omega
        have hq3 : (upd H2 r (.ins t.e_Reader dx (rf u (p + (tails done).length + [45].length)))) q = some (.lst (vI ((n0 :: done).map Int.ofNat))) := by rw [upd_ne nqr]; exact hq2
        refine ⟨_, fun σ' H' h => h, ?_⟩
        refine ⟨_, rfl, .inl ⟨rfl, _, SqL.of hq3⟩, _, rfl, r, dx, u, p + (tails done).length + 1, n, tails td ++ rest, rfl, ⟨upd_same, hlen, hR2.2.2⟩, hn2, hdr, nx, ?_⟩
        rw [upd_upd]
        have hq4 : (upd H2 r (.ins t.e_Reader dx (rf u (p + (tails done).length + 1 + (dec n).length)))) q = some (.lst (vI ((n0 :: done).map Int.ofNat))) := by rw [upd_ne nqr]; exact hq2
        have ld : done.length ≤ 900 := by
          rw [List.length_append] at hl
          omega
        refine ⟨_, _, _, rfl, rfl, hq4, (by rw [vI_len, List.length_map, List.length_cons]; exact small1000 (by omega)), ?_⟩
        have et : (tails (done ++ [n])).length = (tails done).length + 1 + (dec n).length := by
          have : ∀ (d : List Nat), tails (d ++ [n]) = tails d ++ 45 :: dec n := by
            intro d
            induction d with
            | nil => simp [tails]
            | cons a d ih => simp [tails, ih]
          rw [this, List.length_append, List.length_cons]
          omega
        have hfin : p + (tails done).length + 1 + (dec n).length ≤ u.length := by
          have := congrArg List.length hdr
          rw [List.length_drop, List.length_append] at this
          omega
        refine ⟨td.length, by simp, done ++ [n], td, rfl, by simp, ?_, ?_, ?_, ?_, rfl⟩
        · intro b o hb e
          rw [upd_ne (ne_of_none e hq), upd_ne hb]
          exact s2 b o hb e
        · rw [upd_same]
          show some (HO.lst (vI ((n0 :: done).map Int.ofNat) ++ [V.int (Int.ofNat n)])) = _
          rw [vI_app, ← List.cons_append, List.map_append]
          rfl
        · refine ⟨?_, by rw [et]; omega, hR2.2.2⟩
          rw [upd_ne nqr.symm, upd_same, et]
          rw [show p + ((tails done).length + 1 + (dec n).length) = p + (tails done).length + 1 + (dec n).length by omega]
        · rw [et, show p + ((tails done).length + 1 + (dec n).length) = p + (tails done).length + 1 + (dec n).length by omega, ← List.drop_drop, hdr]
          exact List.drop_left
    · refine ⟨_, rfl, ?_⟩
      refine iteF ?_
      cases todo with
      | cons n td =>
        exfalso
        rw [hd2] at hno
        exact hno (by simp [tails])
      | nil =>
        rw [List.append_nil] at hl k
        refine ⟨_, rfl, fun x dx' hx hdx hne => ⟨x, dx', q, rfl, upd_same, rfl, ?_⟩⟩
        rw [upd_upd]
        have nx : ∀ b o, H2 b = some o → b ≠ x ∧ b ≠ dx' := fun b o e => ⟨ne_of_none e hx, ne_of_none e hdx⟩
        have keep : ∀ b o, H2 b = some o → (upd (upd H2 dx' (.own x)) x (.ins t.e_Path dx' (pf q))) b = some o := fun b o e => by rw [upd_ne (nx b o e).1, upd_ne (nx b o e).2]; exact e
        refine k x _ (fun b o hb e => keep b o (s2 b o hb e)) ⟨keep _ _ hR2.1, hR2.2⟩ ?_ ⟨dx', q, upd_same, keep _ _ hq2, by simp, by rw [List.length_map, List.length_cons]; omega⟩
        cases e : H x with
        | none => rfl
        | some o =>
          by_cases hxr : x = r
          · rw [hxr, hR2.1] at hx; cases hx
          · rw [s2 x o hxr e] at hx; cases hx
end
def ofN (ns : List Nat) : List Int := ns.map Int.ofNat
mutual
def It.tx : It → List Nat
  | .pth ss => pathT (ss.map Int.toNat)
  | .tms n xs => dec n ++ 42 :: 40 :: (rowX xs ++ [41])
def rowX : List It → List Nat
  | [] => []
  | x :: xs => x.tx ++ morX xs
def morX : List It → List Nat
  | [] => []
  | x :: xs => 32 :: (x.tx ++ morX xs)
end
def Gd : Nat → It → Prop
  | _, .pth ss => ∃ n0 ns, ss = ofN (n0 :: ns) ∧ (∀ n ∈ n0 :: ns, n < 100) ∧ ns.length ≤ 900
  | 0, .tms _ _ => False
  | d + 1, .tms n xs => 1 ≤ n ∧ n ≤ 99 ∧ xs ≠ [] ∧ xs.length ≤ 900 ∧ ∀ x ∈ xs, Gd d x
theorem toN_ofN (ns : List Nat) : (ofN ns).map Int.toNat = ns := by
  unfold ofN
  rw [List.map_map]
  induction ns with
  | nil => rfl
  | cons a l ih => rw [List.map_cons, ih]; rfl
def Aft (rest : List Nat) : Prop := ∀ c, rest[0]? = some c → c = 32 ∨ c = 41
theorem Aft.stop {rest : List Nat} (h : Aft rest) : Stop rest := fun c e => by
  rcases h c e with rfl | rfl <;> exact ⟨by decide, by decide⟩
theorem Aft.star {rest : List Nat} (h : Aft rest) : rest.take 2 ≠ [42, 40] := fun e => by
  cases rest with
  | nil => cases e
  | cons c r =>
    have := h c rfl
    simp at e
    omega
theorem aft_mor (xs : List It) {rest : List Nat} (h : ∀ c, rest[0]? = some c → c = 41) : Aft (morX xs ++ rest) := fun c e => by
  cases xs with
  | nil =>
    simp only [morX, List.nil_append] at e
    exact .inr (h c e)
  | cons x xs =>
    simp only [morX, List.cons_append] at e
    simp at e
    exact .inl e.symm
section
variable {P : Program} {w : World} {K : PySem.W.Frag} {mg : Str → Option Value} {base : Heap} {t : Adr}
def AtJ (t : Adr) (H : Hp) (F : Addr → Prop) : Nat → Addr → It → Prop
  | _, a, .pth ss => AtP t H a ss
  | 0, _, .tms _ _ => False
  | d + 1, a, .tms n xs => ∃ (dx li : Addr) (rs : List Addr), H a = some (.ins t.e_Times dx (tf n li)) ∧ H li = some (.lst (rs.map V.ref)) ∧ F li ∧ n ≤ 99 ∧ rs.length = xs.length ∧ rs.length ≤ 1000 ∧
      ∀ (i : Nat) r x, rs[i]? = some r → xs[i]? = some x → AtJ t H F d r x
structure Kp (t : Adr) (H H' : Hp) (F : Addr → Prop) : Prop where
  kp : ∀ (b dx l : Addr), H b = some (.ins t.e_Path dx (pf l)) → H' b = some (.ins t.e_Path dx (pf l))
  ks : ∀ (b : Addr) (ss : List Int), 1 ≤ ss.length → H b = some (.lst (vI ss)) → H' b = some (.lst (vI ss))
  kt : ∀ (b dx : Addr) (n : Nat) (l : Addr), H b = some (.ins t.e_Times dx (tf n l)) → H' b = some (.ins t.e_Times dx (tf n l))
  kl : ∀ (b : Addr) (rs : List Addr), F b → H b = some (.lst (rs.map V.ref)) → H' b = some (.lst (rs.map V.ref))
theorem AtJ.keep {H H' : Hp} {F : Addr → Prop} (k : Kp t H H' F) : ∀ (d : Nat) (a : Addr) (x : It), AtJ t H F d a x → AtJ t H' F d a x
  | 0, _, .pth _, ⟨dx, l, h⟩ => ⟨dx, l, k.kp _ _ _ h.o, k.ks _ _ h.ne h.l, h.ne, h.le⟩
  | 0, _, .tms _ _, h => h.elim
  | d + 1, _, .pth _, ⟨dx, l, h⟩ => ⟨dx, l, k.kp _ _ _ h.o, k.ks _ _ h.ne h.l, h.ne, h.le⟩
  | d + 1, _, .tms n xs, ⟨dx, li, rs, h1, h2, h0, h3, h4, h5, h6⟩ => ⟨dx, li, rs, k.kt _ _ _ _ h1, k.kl _ _ h0 h2, h0, h3, h4, h5, fun i r x e1 e2 => AtJ.keep k d r x (h6 i r x e1 e2)⟩
theorem AtJ.imp {H : Hp} {F F' : Addr → Prop} (k : ∀ b, F b → (∃ o, H b = some o) → F' b) : ∀ (d : Nat) (a : Addr) (x : It), AtJ t H F d a x → AtJ t H F' d a x
  | 0, _, .pth _, h => h
  | 0, _, .tms _ _, h => h.elim
  | d + 1, _, .pth _, h => h
  | d + 1, _, .tms n xs, ⟨dx, li, rs, h1, h2, h0, h3, h4, h5, h6⟩ => ⟨dx, li, rs, h1, h2, k _ h0 ⟨_, h2⟩, h3, h4, h5, fun i r x e1 e2 => AtJ.imp k d r x (h6 i r x e1 e2)⟩
theorem AtJ.to {H : Hp} {F : Addr → Prop} : ∀ (d : Nat) (a : Addr) (x : It), AtJ t H F d a x → AtI t H d a x
  | 0, _, .pth _, h => h
  | 0, _, .tms _ _, h => h.elim
  | d + 1, _, .pth _, h => h
  | d + 1, _, .tms n xs, ⟨dx, li, rs, h1, h2, h0, h3, h4, h5, h6⟩ => ⟨dx, li, rs, h1, h2, h3, h4, h5, fun i r x e1 e2 => AtJ.to d r x (h6 i r x e1 e2)⟩
structure AtJs (t : Adr) (H : Hp) (F : Addr → Prop) (d : Nat) (rs : List Addr) (xs : List It) : Prop where
  len : rs.length = xs.length
  le : rs.length ≤ 1000
  at_ : ∀ (i : Nat) r x, rs[i]? = some r → xs[i]? = some x → AtJ t H F d r x
theorem AtJs.snoc {H : Hp} {F : Addr → Prop} {d : Nat} {rs : List Addr} {xs : List It} {a : Addr} {x : It} (h : AtJs t H F d rs xs) (hx : AtJ t H F d a x) (hl : rs.length < 1000) : AtJs t H F d (rs ++ [a]) (xs ++ [x]) := by
  have ln := h.len
  refine ⟨by rw [List.length_append, List.length_append, ln]; rfl, by rw [List.length_append, List.length_singleton]; omega, fun i r y e1 e2 => ?_⟩
  by_cases hi : i < rs.length
  · rw [List.getElem?_append_left hi] at e1
    rw [List.getElem?_append_left (by omega)] at e2
    exact h.at_ i r y e1 e2
  · rw [List.getElem?_append_right (by omega)] at e1
    rw [List.getElem?_append_right (by omega)] at e2
    rw [ln] at e1
    cases hj : i - xs.length with
    | zero =>
      rw [hj] at e1 e2
      cases e1; cases e2
      exact hx
    | succ j => rw [hj] at e1; simp at e1
theorem AtJs.keep {H H' : Hp} {F : Addr → Prop} {d : Nat} {rs : List Addr} {xs : List It} (h : AtJs t H F d rs xs) (k : Kp t H H' F) : AtJs t H' F d rs xs := ⟨h.len, h.le, fun i r x e1 e2 => AtJ.keep k d r x (h.at_ i r x e1 e2)⟩
theorem Kp.same {H H' : Hp} {F : Addr → Prop} (s : Same H H') : Kp t H H' F := ⟨fun b dx l e => s _ _ e, fun b ss _ e => s _ _ e, fun b dx n l e => s _ _ e, fun b rs _ e => s _ _ e⟩
theorem Kp.but {H H' : Hp} {F : Addr → Prop} {r dr : Addr} {fs : List (Str × V)} (s : SameB r H H') (er : H r = some (.ins t.e_Reader dr fs)) (nc : t.e_Reader ≠ t.e_Path) (nt : t.e_Reader ≠ t.e_Times) : Kp t H H' F := by
  refine ⟨fun b dx l e => s _ _ (fun z => ?_) e, fun b ss _ e => s _ _ (fun z => ?_) e, fun b dx n l e => s _ _ (fun z => ?_) e, fun b rs _ e => s _ _ (fun z => ?_) e⟩
  · rw [z, er] at e
    injection e with e
    injection e with e
    exact nc e
  · rw [z, er] at e; cases e
  · rw [z, er] at e
    injection e with e
    injection e with e
    exact nt e
  · rw [z, er] at e; cases e
theorem Kp.app {H : Hp} {F : Addr → Prop} {li : Addr} {rs : List Addr} {o : HO} (hl : H li = some (.lst (rs.map V.ref))) (nF : ¬ F li) : Kp t H (upd H li o) F := by
  refine ⟨fun b dx l e => ?_, fun b ss n e => ?_, fun b dx n l e => ?_, fun b rs' f e => ?_⟩
  · rw [upd_ne (fun z => by rw [z, hl] at e; cases e)]; exact e
  · rw [upd_ne (fun z => by
      rw [z, hl] at e
      injection e with e
      injection e with e
      cases ss with
      | nil => simp at n
      | cons x y =>
        cases rs with
        | nil => simp [vI] at e
        | cons c d =>
          unfold vI at e
          rw [List.map_cons, List.map_cons] at e
          injection e with e
          cases e)]
    exact e
  · rw [upd_ne (fun z => by rw [z, hl] at e; cases e)]; exact e
  · rw [upd_ne (fun z => by rw [z] at f; exact nF f)]; exact e
theorem nc_of (T : Txt K mg t) : t.e_Reader ≠ t.e_Path := fun e => by
  have h1 := T.m_Reader___init__.m.at_
  have h2 := T.m_Path___init__.m.at_
  rw [e, h2] at h1
  injection h1 with h1
  injection h1 with h1
  injection h1 with h1
  obtain ⟨_, _, _, _, _, _, _, _, _, e1, l1, _⟩ := T.m_Reader___init__.F.ex
  obtain ⟨_, _, _, _, _, _, _, _, _, e2, l2, _⟩ := T.m_Path___init__.F.ex
  rw [h1, l1, e1, e2] at l2
  injection l2 with l2
  injection l2 with _ _ l2 _
  injection l2 with l2
  have q : (("Reader.__init__" : Str)) = ("Path.__init__" : Str) := congrArg FuncData.qualname l2
  exact absurd q (by decide +kernel)
theorem nt_of (T : Txt K mg t) : t.e_Reader ≠ t.e_Times := fun e => by
  have h1 := T.m_Reader___init__.m.at_
  have h2 := T.m_Times___init__.m.at_
  rw [e, h2] at h1
  injection h1 with h1
  injection h1 with h1
  injection h1 with h1
  obtain ⟨_, _, _, _, _, _, _, _, _, e1, l1, _⟩ := T.m_Reader___init__.F.ex
  obtain ⟨_, _, _, _, _, _, _, _, _, e2, l2, _⟩ := T.m_Times___init__.F.ex
  rw [h1, l1, e1, e2] at l2
  injection l2 with l2
  injection l2 with _ _ l2 _
  injection l2 with l2
  have q : (("Reader.__init__" : Str)) = ("Times.__init__" : Str) := congrArg FuncData.qualname l2
  exact absurd q (by decide +kernel)
theorem ok_Times___init__ (T : Txt K mg t) : FnOk P w K mg base CX0 1 t.f_Times___init__ t.d_Times___init__ ["self", "count", "inner"] (fun vs H Q E => ∃ (r dx l : Addr) (n : Nat), vs = [.ref r, .int (n : Int), .ref l] ∧ H r = some (.ins t.e_Times dx []) ∧ Q .non (upd H r (.ins t.e_Times dx (tf n l)))) := by
  refine T.m_Times___init__.F.ok sc_Times___init__ (fun vs H Q E h => ?_) (fun cdv A outer s H vs Q E hr h => ?_)
  · obtain ⟨r, dx, l, n, rfl, _⟩ := h
    rfl
  · obtain ⟨r, dx, l, n, rfl, h1, k⟩ := h
    refine ⟨_, (pss_cons (ps_fldK (K := K) (pv 0) (pv 1))
      (pss_one (ps_fldK (K := K) (pv 0) (pv 2)))), ?_⟩
    refine ⟨_, rfl, _, rfl, _, _, _, _, rfl, h1, T.o_Times.c, T.na_Times_count, (by decide), ?_⟩
    refine ⟨_, rfl, _, rfl, _, _, _, _, rfl, upd_same, T.o_Times.c, T.na_Times_inner, (by show 1 < 1000; decide), ?_⟩
    rw [upd_upd]
    exact k
theorem star_open : (("*(" : Str)) = tx [42, 40] := by decide +kernel
theorem close1 : ((")" : Str)) = tx [41] := by decide +kernel
theorem blank1 : ((" " : Str)) = tx [32] := by decide +kernel
theorem stepU {u : List Nat} {q : Nat} {x y : List Nat} (hq : q ≤ u.length) (e : u.drop q = x ++ y) : u.drop (q + x.length) = y ∧ q + x.length ≤ u.length := by
  refine ⟨by rw [← List.drop_drop, e]; exact List.drop_left, ?_⟩
  have := congrArg List.length e
  rw [List.length_drop, List.length_append] at this
  omega
theorem SameB.none {r b : Addr} {H H' : Hp} (s : SameB r H H') (n : H' b = none) (h : b ≠ r) : H b = none := by
  cases e : H b with
  | none => rfl
  | some o => rw [s b o h e] at n; cases n
def sp_ritems (t : Adr) (d : Nat) : Sp := fun vs H Q _ => ∃ (r dx : Addr) (u : List Nat) (p : Nat) (xs : List It) (rest : List Nat) (e : Nat), vs = [.ref r, .int (e : Int)] ∧ e + d ≤ 8 ∧ Rd t H r dx u p ∧ xs ≠ [] ∧ xs.length ≤ 900 ∧ (∀ x ∈ xs, Gd d x) ∧ u.drop p = rowX xs ++ rest ∧ (∀ c, rest[0]? = some c → c = 41) ∧
  ∀ (li : Addr) (rs : List Addr) (H' : Hp), SameB r H H' → Rd t H' r dx u (p + (rowX xs).length) → H li = none → H' li = some (.lst (rs.map V.ref)) → AtJs t H' (fun b => H b = none) d rs xs → Q (.ref li) H'
def sp_ritem (t : Adr) (d : Nat) : Sp := fun vs H Q _ => ∃ (r dx : Addr) (u : List Nat) (p : Nat) (x : It) (rest : List Nat) (e : Nat), vs = [.ref r, .int (e : Int)] ∧ e + d ≤ 8 ∧ Rd t H r dx u p ∧ Gd d x ∧ u.drop p = x.tx ++ rest ∧ Aft rest ∧
  ∀ (a : Addr) (H' : Hp), SameB r H H' → Rd t H' r dx u (p + x.tx.length) → H a = none → AtJ t H' (fun b => H b = none) d a x → Q (.ref a) H'
def sp_rtimes (t : Adr) : Nat → Sp
  | 0 => fun _ _ _ _ => False
  | d + 1 => fun vs H Q _ => ∃ (r dx : Addr) (u : List Nat) (p n : Nat) (xs : List It) (rest : List Nat) (e : Nat), vs = [.ref r, .int (n : Int), .int (e : Int)] ∧ e + d ≤ 8 ∧ Rd t H r dx u p ∧ 1 ≤ n ∧ n ≤ 99 ∧ xs ≠ [] ∧ xs.length ≤ 900 ∧ (∀ x ∈ xs, Gd d x) ∧ u.drop p = rowX xs ++ 41 :: rest ∧
      ∀ (a : Addr) (H' : Hp), SameB r H H' → Rd t H' r dx u (p + (rowX xs).length + 1) → H a = none → AtJ t H' (fun b => H b = none) (d + 1) a (.tms n xs) → Q (.ref a) H'
theorem ok_read_times0 (T : Txt K mg t) : FnOk P w K mg base CX0 1 t.f_read_times t.d_read_times ["reader", "count", "depth"] (sp_rtimes t 0) :=
  T.read_times.F.ok sc_read_times (fun vs H Q E h => h.elim) (fun cdv A outer s H vs Q E hr h => h.elim)
theorem ok_read_times {k d : Nat} (hk : 1 ≤ k) (T : Txt K mg t) (G_read_items : FnOk P w K mg base CX0 k t.f_read_items t.d_read_items ["reader", "depth"] (sp_ritems t d)) :
    FnOk P w K mg base CX0 (k + 2) t.f_read_times t.d_read_times ["reader", "count", "depth"] (sp_rtimes t (d + 1)) := by
  have G_Reader_took : FnOk P w K mg base CX0 1 t.f_Reader_took t.d_Reader_took _ _ := ok_Reader_took T
  have G_Times___init__ : FnOk P w K mg base CX0 1 t.f_Times___init__ t.d_Times___init__ _ _ := ok_Times___init__ T
  refine T.read_times.F.ok sc_read_times (fun vs H Q E h => ?_) (fun cdv A outer s H vs Q E hr h => ?_)
  · obtain ⟨r, dx, u, p, n, xs, rest, e, rfl, _⟩ := h
    rfl
  · obtain ⟨r, dx, u, p, n, xs, rest, e, rfl, he, hR, n1, n9, hne, hl, hG, hd, k⟩ := h
    refine ⟨_, (pss_cons (ps_if (pt_cmpR op_eq (pv 1) pe_int (nomark _))
        (pss_one ps_never)
        pss_nil)
      (pss_cons (ps_if (pt_cmpR op_gt (pv 2) (pe_glob (v := .int 8) rfl T.c_MOST_DEEP.choose_spec ⟨_, rfl⟩) (nomark _))
        (pss_one ps_never)
        pss_nil)
      (pss_cons (ps_set (i := 3) sc_read_times.nd rfl (Or.inl rfl) (pe_call (G_read_items.mono (by omega)) hr rfl T.read_items.m T.read_items.F.kp T.read_items.b .nil pass0 (pa_cons (pv 0) (pa_cons (pv 2) pa_nil))))
      (pss_cons (ps_if (pt_not (pt_val (pe_meth (pv 0) T.o_Reader.c T.m_Reader_took.m (G_Reader_took.mono (by omega)) hr T.m_Reader_took.b .nil pass0 (pa_cons pe_str pa_nil))))
        (pss_one ps_never)
        pss_nil)
      (pss_one (ps_ret (pe_make T.o_Times.m (G_Times___init__.mono (by omega)) hr rfl T.k_Times T.m_Times___init__.b .nil pass0 (pa_cons (pv 1) (pa_cons (pv 3) pa_nil))))))))), ?_⟩
    refine ⟨_, rfl, rfl, _, rfl, ?_⟩
    refine iteDn (fun z => by injection z with z; omega) ?_
    refine ⟨_, rfl, _, _, rfl, rfl, _, rfl, ?_⟩
    refine iteDn (fun z => by omega) ?_
    refine ⟨_, rfl, _, rfl, r, dx, u, p, xs, 41 :: rest, e, rfl, he, hR, hne, hl, hG, hd, fun c hc => by simpa using hc.symm, fun li rs H1 s1 hR1 nli hli hA => ?_⟩
    obtain ⟨hd1, hp1⟩ := stepU hR.2.1 hd
    refine ⟨_, rfl, r, dx, rf u _, rfl, hR1.1, (rf_meth u _).2.1, r, dx, u, p + (rowX xs).length, [41], (by rw [close1]; rfl), hR1, (by decide), fun hyes => ?_, fun hno => ?_⟩
    · refine ⟨_, rfl, ?_⟩
      refine iteF ?_
      have hS : (upd H1 r (.ins t.e_Reader dx (rf u (p + (rowX xs).length + [41].length)))) r = some (.ins t.e_Reader dx (rf u (p + (rowX xs).length + [41].length))) := upd_same
      have sB : SameB r H1 (upd H1 r (.ins t.e_Reader dx (rf u (p + (rowX xs).length + [41].length)))) := SameB.upd
      generalize upd H1 r (.ins t.e_Reader dx (rf u (p + (rowX xs).length + [41].length))) = H2 at hS sB ⊢
      have nlr : li ≠ r := fun z => by rw [z, hR.1] at nli; cases nli
      have hli2 := sB _ _ nlr hli
      have hA2 := hA.keep (Kp.but sB hR1.1 (nc_of T) (nt_of T))
      refine ⟨_, rfl, _, rfl, fun x dx' hx hdx hnx => ⟨x, dx', li, n, rfl, upd_same, rfl, ?_⟩⟩
      rw [upd_upd]
      have s3 : Same H2 (upd (upd H2 dx' (.own x)) x (.ins t.e_Times dx' (tf n li))) := (Same.upd hdx).over hx
      have hx2 : (upd (upd H2 dx' (.own x)) x (.ins t.e_Times dx' (tf n li))) x = some (.ins t.e_Times dx' (tf n li)) := upd_same
      generalize upd (upd H2 dx' (.own x)) x (.ins t.e_Times dx' (tf n li)) = H3 at s3 hx2 ⊢
      have nxr : x ≠ r := fun z => by rw [z, hS] at hx; cases hx
      have sH : SameB r H H2 := s1.trans sB
      have l9 := hA2.len
      refine k x H3 (sH.trans (sameB s3)) ⟨s3 _ _ hS, ?_, hR.2.2⟩ (sH.none hx nxr) ⟨dx', li, rs, hx2, s3 _ _ hli2, nli, n9, l9, hA2.le, (hA2.keep (Kp.same s3)).at_⟩
      have := (stepU hp1 (x := [41]) (y := rest) hd1).2
      exact this
    · exfalso
      rw [hd1] at hno
      exact hno (by simp)
theorem ok_read_item {k d : Nat} (hk : 5 ≤ k) (T : Txt K mg t) (G_read_times : FnOk P w K mg base CX0 k t.f_read_times t.d_read_times ["reader", "count", "depth"] (sp_rtimes t d)) :
    FnOk P w K mg base CX0 (k + 1) t.f_read_item t.d_read_item ["reader", "depth"] (sp_ritem t d) := by
  have G_Reader_took : FnOk P w K mg base CX0 1 t.f_Reader_took t.d_Reader_took _ _ := ok_Reader_took T
  have G_read_number : FnOk P w K mg base CX0 4 t.f_read_number t.d_read_number _ _ := ok_read_number T
  have G_read_path : FnOk P w K mg base CX0 5 t.f_read_path t.d_read_path _ _ := ok_read_path T
  refine T.read_item.F.ok sc_read_item (fun vs H Q E h => ?_) (fun cdv A outer s H vs Q E hr h => ?_)
  · obtain ⟨r, dx, u, p, x, rest, e, rfl, _⟩ := h
    rfl
  · obtain ⟨r, dx, u, p, x, rest, e, rfl, he, hR, hG, hd, hst, k⟩ := h
    refine ⟨_, (pss_cons (ps_set (i := 2) sc_read_item.nd rfl (Or.inl rfl) (pe_call (G_read_number.mono (by omega)) hr rfl T.read_number.m T.read_number.F.kp T.read_number.b .nil pass0 (pa_cons (pv 0) pa_nil)))
      (pss_cons (ps_if (pt_val (pe_meth (pv 0) T.o_Reader.c T.m_Reader_took.m (G_Reader_took.mono (by omega)) hr T.m_Reader_took.b .nil pass0 (pa_cons pe_str pa_nil)))
        (pss_one (ps_ret (pe_call (G_read_times.mono (by omega)) hr rfl T.read_times.m T.read_times.F.kp T.read_times.b .nil pass0 (pa_cons (pv 0) (pa_cons (pv 2) (pa_cons (pe_op op_add (pv 1) pe_int) pa_nil))))))
        pss_nil)
      (pss_one (ps_ret (pe_call (G_read_path.mono (by omega)) hr rfl T.read_path.m T.read_path.F.kp T.read_path.b .nil pass0 (pa_cons (pv 0) (pa_cons (pv 2) pa_nil))))))), ?_⟩
    cases x with
    | pth ss =>
      have hG0 : ∃ n0 ns, ss = ofN (n0 :: ns) ∧ (∀ n ∈ n0 :: ns, n < 100) ∧ ns.length ≤ 900 := by cases d <;> exact hG
      obtain ⟨n0, ns, rfl, hn, hl⟩ := hG0
      have ex : (It.pth (ofN (n0 :: ns))).tx = dec n0 ++ tails ns := by simp only [It.tx]; rw [toN_ofN]; rfl
      rw [ex] at hd k
      have h0 : n0 < 100 := hn n0 List.mem_cons_self
      have hd' : u.drop p = dec n0 ++ (tails ns ++ rest) := by rw [hd, List.append_assoc]
      obtain ⟨hdr, hle⟩ := stepU hR.2.1 hd'
      have nx : ∀ c, (tails ns ++ rest)[0]? = some c → ¬ (48 ≤ c ∧ c ≤ 57) := fun c hc => by
        cases ns with
        | nil => exact (hst.stop c (by simpa [tails] using hc)).1
        | cons m td =>
          have : 45 = c := by simpa [tails] using hc
          omega
      refine ⟨_, rfl, r, dx, u, p, n0, tails ns ++ rest, rfl, hR, h0, hd', nx, ?_⟩
      have hS : (upd H r (.ins t.e_Reader dx (rf u (p + (dec n0).length)))) r = some (.ins t.e_Reader dx (rf u (p + (dec n0).length))) := upd_same
      refine ⟨_, rfl, r, dx, rf u (p + (dec n0).length), rfl, hS, (rf_meth u _).2.1, r, dx, u, p + (dec n0).length, [42, 40], (by rw [star_open]; rfl), ⟨hS, hle, hR.2.2⟩, (by decide), fun hyes => ?_, fun hno => ?_⟩
      · exfalso
        rw [hdr] at hyes
        cases ns with
        | nil => exact hst.star (by simpa [tails] using hyes)
        | cons m td => simp [tails] at hyes
      · refine ⟨_, rfl, ?_⟩
        refine iteF ?_
        refine ⟨_, rfl, _, rfl, r, dx, u, p + (dec n0).length, n0, ns, rest, rfl, ⟨hS, hle, hR.2.2⟩, fun n h => hn n (List.mem_cons_of_mem _ h), hl, hdr, hst.stop, fun a H' s1 hR1 na hA => ?_⟩
        have na' : H a = none := by
          by_cases har : a = r
          · rw [har, hS] at na; cases na
          · rw [upd_ne har] at na; exact na
        refine k a H' (SameB.upd.trans s1) ?_ na' (by cases d <;> exact hA)
        rw [List.length_append, ← Nat.add_assoc]
        exact hR1
    | tms n xs =>
      cases d with
      | zero => exact hG.elim
      | succ d =>
        obtain ⟨n1, n9, hne, hl, hGs⟩ := hG
        have ex : (It.tms n xs).tx = dec n ++ 42 :: 40 :: (rowX xs ++ [41]) := by simp only [It.tx]
        rw [ex] at hd k
        have h0 : n < 100 := by omega
        have hd' : u.drop p = dec n ++ (42 :: 40 :: (rowX xs ++ 41 :: rest)) := by rw [hd]; simp
        obtain ⟨hdr, hle⟩ := stepU hR.2.1 hd'
        have nx : ∀ c, (42 :: 40 :: (rowX xs ++ 41 :: rest) : List Nat)[0]? = some c → ¬ (48 ≤ c ∧ c ≤ 57) := fun c hc => by
          have : 42 = c := by simpa using hc
          omega
        refine ⟨_, rfl, r, dx, u, p, n, _, rfl, hR, h0, hd', nx, ?_⟩
        have hS : (upd H r (.ins t.e_Reader dx (rf u (p + (dec n).length)))) r = some (.ins t.e_Reader dx (rf u (p + (dec n).length))) := upd_same
        refine ⟨_, rfl, r, dx, rf u (p + (dec n).length), rfl, hS, (rf_meth u _).2.1, r, dx, u, p + (dec n).length, [42, 40], (by rw [star_open]; rfl), ⟨hS, hle, hR.2.2⟩, (by decide), fun hyes => ?_, fun hno => ?_⟩
        · refine ⟨_, rfl, ?_⟩
          refine iteT ?_
          rw [upd_upd]
          obtain ⟨hdr2, hle2⟩ := stepU hle (x := [42, 40]) (y := rowX xs ++ 41 :: rest) hdr
          have hS2 : (upd H r (.ins t.e_Reader dx (rf u (p + (dec n).length + [42, 40].length)))) r = some (.ins t.e_Reader dx (rf u (p + (dec n).length + [42, 40].length))) := upd_same
          refine ⟨_, rfl, _, rfl, _, rfl, _, _, rfl, rfl, r, dx, u, p + (dec n).length + [42, 40].length, n, xs, rest, e + 1, rfl, by omega, ⟨hS2, hle2, hR.2.2⟩, n1, n9, hne, hl, hGs, hdr2, fun a H' s1 hR1 na hA => ?_⟩
          have back : ∀ b, (upd H r (.ins t.e_Reader dx (rf u (p + (dec n).length + [42, 40].length)))) b = none → H b = none := fun b hb => by
            by_cases hbr : b = r
            · rw [hbr, hS2] at hb; cases hb
            · rw [upd_ne hbr] at hb; exact hb
          refine k a H' (SameB.upd.trans s1) ?_ (back a na) (AtJ.imp (fun b hb _ => back b hb) _ _ _ hA)
          have e9 : p + (dec n ++ 42 :: 40 :: (rowX xs ++ [41])).length = p + (dec n).length + [42, 40].length + (rowX xs).length + 1 := by
            simp only [List.length_append, List.length_cons, List.length_nil]
            omega
          rw [e9]
          exact hR1
        · exfalso
          rw [hdr] at hno
          exact hno (by simp)
theorem ok_read_items {k d : Nat} (hk : 1 ≤ k) (T : Txt K mg t) (G_read_item : FnOk P w K mg base CX0 k t.f_read_item t.d_read_item ["reader", "depth"] (sp_ritem t d)) :
    FnOk P w K mg base CX0 (k + 1) t.f_read_items t.d_read_items ["reader", "depth"] (sp_ritems t d) := by
  have G_Reader_took : FnOk P w K mg base CX0 1 t.f_Reader_took t.d_Reader_took _ _ := ok_Reader_took T
  refine T.read_items.F.ok sc_read_items (fun vs H Q E h => ?_) (fun cdv A outer s H vs Q E hr h => ?_)
  · obtain ⟨r, dx, u, p, xs, rest, e, rfl, _⟩ := h
    rfl
  · obtain ⟨r, dx, u, p, xs, rest, e, rfl, he, hR, hne, hl, hG, hd, hrest, k⟩ := h
    obtain ⟨x0, xs, rfl⟩ : ∃ y ys, xs = y :: ys := by
      cases xs with
      | nil => exact absurd rfl hne
      | cons a b => exact ⟨a, b, rfl⟩
    simp only [rowX] at hd k
    have hd' : u.drop p = x0.tx ++ (morX xs ++ rest) := by rw [hd, List.append_assoc]
    refine ⟨_, (pss_cons (ps_set (i := 2) sc_read_items.nd rfl (Or.inl rfl) (pe_lst (pa_cons (pe_call (G_read_item.mono (by omega)) hr rfl T.read_item.m T.read_item.F.kp T.read_item.b .nil pass0 (pa_cons (pv 0) (pa_cons (pv 1) pa_nil))) pa_nil)))
      (pss_cons (ps_while PassesOwn.never (pt_val (pe_meth (pv 0) T.o_Reader.c T.m_Reader_took.m (G_Reader_took.mono (by omega)) hr T.m_Reader_took.b .nil pass0 (pa_cons pe_str pa_nil)))
        (pss_one (ps_expr (pe_bmK (K := K) PySem.F.plainAttrs_list PySem.F.slot_list_append PySem.F.type_list_append mt_append (pv 2) (pa_cons (pe_call (G_read_item.mono (by omega)) hr rfl T.read_item.m T.read_item.F.kp T.read_item.b .nil pass0 (pa_cons (pv 0) (pa_cons (pv 1) pa_nil))) pa_nil)))))
      (pss_one (ps_ret (pv 2))))), ?_⟩
    refine ⟨_, rfl, _, rfl, r, dx, u, p, x0, morX xs ++ rest, e, rfl, he, hR, hG _ List.mem_cons_self, hd', aft_mor xs hrest, fun a H1 s1 hR1 na hA => ?_⟩
    obtain ⟨hd1, hp1⟩ := stepU hR.2.1 hd'
    refine ⟨(by show 1 ≤ sizeLine; decide), fun li hli => ?_⟩
    have s2 : Same H1 (upd H1 li (.lst [.ref a])) := .upd hli
    have hl2 : (upd H1 li (.lst [.ref a])) li = some (.lst ([a].map V.ref)) := upd_same
    have nlr : li ≠ r := fun z => by rw [z, hR1.1] at hli; cases hli
    have nli : H li = none := s1.none hli nlr
    have a1 : AtJs t (upd H1 li (.lst [.ref a])) (fun b => H b = none ∧ b ≠ li) d [a] [x0] := ⟨rfl, by simp, fun i b x e1 e2 => by
      cases i with
      | zero =>
        cases e1; cases e2
        exact AtJ.keep (Kp.same s2) d _ _ (AtJ.imp (fun b hb ⟨o, ho⟩ => ⟨hb, fun z => by rw [z, hli] at ho; cases ho⟩) d _ _ hA)
      | succ i => simp at e1⟩
    generalize upd H1 li (.lst [.ref a]) = H1' at s2 hl2 a1 ⊢
    refine ⟨fun m σ H2 => ∃ (q : Nat) (rs : List Addr) (done todo : List It), σ = [some (.ref r), some (.int (e : Int)), some (.ref li)] ∧ xs = done ++ todo ∧ SameB r H H2 ∧ Rd t H2 r dx u q ∧ q + (morX todo).length = p + (x0.tx ++ morX xs).length ∧ u.drop q = morX todo ++ rest ∧ H2 li = some (.lst (rs.map V.ref)) ∧ AtJs t H2 (fun b => H b = none ∧ b ≠ li) d rs (x0 :: done) ∧ m = todo.length,
      ⟨_, p + x0.tx.length, [a], [], xs, rfl, rfl, s1.trans (sameB s2), ⟨s2 _ _ hR1.1, hR1.2⟩, by rw [List.length_append]; omega, hd1, hl2, a1, rfl⟩, ?_⟩
    rintro m σ H2 ⟨q, rs, done, todo, rfl, exs, s3, hR3, hq3, hd3, hl3, hA3, rfl⟩
    refine ⟨_, rfl, r, dx, rf u q, rfl, hR3.1, (rf_meth u _).2.1, r, dx, u, q, [32], (by rw [blank1]; rfl), hR3, (by decide), fun hyes => ?_, fun hno => ?_⟩
    · refine ⟨_, rfl, ?_⟩
      refine iteT ?_
      rw [hd3] at hyes
      cases todo with
      | nil =>
        exfalso
        simp only [morX, List.nil_append] at hyes
        cases rest with
        | nil => simp at hyes
        | cons c rr =>
          have := hrest c rfl
          simp at hyes
          omega
      | cons y td =>
        have hGy : Gd d y := hG y (by rw [exs]; simp)
        simp only [morX] at hd3 hq3
        have hd3' : u.drop q = [32] ++ (y.tx ++ (morX td ++ rest)) := by rw [hd3]; simp
        obtain ⟨hd4, hq4⟩ := stepU hR3.2.1 hd3'
        have hS4 : (upd H2 r (.ins t.e_Reader dx (rf u (q + [32].length)))) r = some (.ins t.e_Reader dx (rf u (q + [32].length))) := upd_same
        have hl4 : (upd H2 r (.ins t.e_Reader dx (rf u (q + [32].length)))) li = some (.lst (rs.map V.ref)) := by rw [upd_ne nlr]; exact hl3
        have s4 : SameB r H2 (upd H2 r (.ins t.e_Reader dx (rf u (q + [32].length)))) := SameB.upd
        generalize upd H2 r (.ins t.e_Reader dx (rf u (q + [32].length))) = H4 at hS4 hl4 s4 ⊢
        refine ⟨_, fun σ' H' h => h, ?_⟩
        refine ⟨_, rfl, .inl ⟨rfl, _, SqL.of hl4⟩, _, rfl, _, rfl, r, dx, u, q + [32].length, y, morX td ++ rest, e, rfl, he, ⟨hS4, hq4, hR3.2.2⟩, hGy, hd4, aft_mor td hrest, fun b H5 s5 hR5 nb hB => ?_⟩
        obtain ⟨hd5, _⟩ := stepU hq4 hd4
        have hl5 := s5 _ _ nlr hl4
        have lrs : rs.length ≤ 901 := by
          have := hA3.len
          have l2 := congrArg List.length exs
          rw [List.length_append] at l2
          rw [List.length_cons] at this hl
          omega
        refine ⟨_, _, _, rfl, rfl, hl5, (by rw [List.length_map]; exact small1000 (by omega)), ?_⟩
        have sB : SameB r H2 H5 := s4.trans s5
        have hA5 := hA3.keep (Kp.but sB hR3.1 (nc_of T) (nt_of T))
        have hB5 : AtJ t H5 (fun b => H b = none ∧ b ≠ li) d b y := AtJ.imp (fun c hc _ => ⟨(s3.trans s4).none hc (fun z => by rw [z, hS4] at hc; cases hc), fun z => by rw [z, hl4] at hc; cases hc⟩) d _ _ hB
        have nF : ¬ (H li = none ∧ li ≠ li) := fun z => z.2 rfl
        have hA6 := (hA5.snoc hB5 (by omega)).keep (Kp.app (o := .lst (rs.map V.ref ++ [V.ref b])) hl5 nF)
        refine ⟨td.length, by simp, q + [32].length + y.tx.length, rs ++ [b], done ++ [y], td, rfl, by rw [exs]; simp, ?_, ⟨?_, hR5.2⟩, ?_, hd5, ?_, ?_, rfl⟩
        · intro c o hc ec
          rw [upd_ne (ne_of_none ec nli)]
          exact sB c o hc (s3 c o hc ec)
        · rw [upd_ne nlr.symm]; exact hR5.1
        · rw [List.length_cons, List.length_append] at hq3
          simp only [List.length_cons, List.length_nil]
          omega
        · rw [upd_same, List.map_append]; rfl
        · rw [← List.cons_append]
          exact hA6
    · refine ⟨_, rfl, ?_⟩
      refine iteF ?_
      cases todo with
      | cons y td =>
        exfalso
        rw [hd3] at hno
        exact hno (by simp [morX])
      | nil =>
        rw [List.append_nil] at exs
        subst exs
        simp only [morX, List.length_nil, Nat.add_zero] at hq3
        rw [hq3] at hR3
        refine ⟨_, rfl, k li rs H2 s3 hR3 nli hl3 ⟨hA3.len, hA3.le, fun i r x e1 e2 => AtJ.imp (fun b hb _ => hb.1) d _ _ (hA3.at_ i r x e1 e2)⟩⟩
theorem ok_items (T : Txt K mg t) : ∀ d : Nat, FnOk P w K mg base CX0 (4 * d + 7) t.f_read_items t.d_read_items ["reader", "depth"] (sp_ritems t d)
  | 0 => ok_read_items (k := 6) (by decide) T (ok_read_item (k := 5) (by decide) T ((ok_read_times0 T).mono (by decide)))
  | d + 1 => ok_read_items (k := 4 * d + 10) (by omega) T (ok_read_item (k := 4 * d + 9) (by omega) T (ok_read_times (k := 4 * d + 7) (by omega) T (ok_items T d)))
theorem It.tx_pos : ∀ (d : Nat) (x : It), Gd d x → 1 ≤ x.tx.length
  | d, .pth ss, h => by
    have hG0 : ∃ n0 ns, ss = ofN (n0 :: ns) ∧ (∀ n ∈ n0 :: ns, n < 100) ∧ ns.length ≤ 900 := by cases d <;> exact h
    obtain ⟨n0, ns, rfl, hn, _⟩ := hG0
    have ex : (It.pth (ofN (n0 :: ns))).tx = dec n0 ++ tails ns := by simp only [It.tx]; rw [toN_ofN]; rfl
    rw [ex, List.length_append]
    have := (dec_is (hn n0 List.mem_cons_self)).l1
    omega
  | d, .tms n xs, h => by
    simp only [It.tx, List.length_append, List.length_cons]
    omega
structure Row (u : List Nat) (xs : List It) : Prop where
  le : xs.length ≤ 900
  gd : ∀ x ∈ xs, Gd 8 x
  tx : u = rowX xs
  ul : u.length ≤ 1000000
def sp_rrow (t : Adr) : Sp := fun vs H Q _ => ∃ (u : List Nat) (xs : List It), vs = [.str (tx u)] ∧ Row u xs ∧
  ∀ (li : Addr) (rs : List Addr) (H' : Hp), Same H H' → H li = none → H' li = some (.lst (rs.map V.ref)) → AtIs t H' 8 rs xs → Q (.ref li) H'
theorem ok_read_row (T : Txt K mg t) : FnOk P w K mg base CX0 40 t.f_read_row t.d_read_row ["text"] (sp_rrow t) := by
  have G_Reader_ended : FnOk P w K mg base CX0 1 t.f_Reader_ended t.d_Reader_ended _ _ := ok_Reader_ended T
  have G_Reader___init__ : FnOk P w K mg base CX0 1 t.f_Reader___init__ t.d_Reader___init__ _ _ := ok_Reader___init__ T
  have G_read_items : FnOk P w K mg base CX0 39 t.f_read_items t.d_read_items _ _ := ok_items T 8
  refine T.read_row.F.ok sc_read_row (fun vs H Q E h => ?_) (fun cdv A outer s H vs Q E hr h => ?_)
  · obtain ⟨u, xs, rfl, _⟩ := h
    rfl
  · obtain ⟨u, xs, rfl, hW, k⟩ := h
    refine ⟨_, (pss_cons (ps_if (pt_cmpR op_eq (pv 0) pe_str (nomark _))
        (pss_one (ps_ret (pe_lst pa_nil)))
        pss_nil)
      (pss_cons (ps_set (i := 1) sc_read_row.nd rfl (Or.inl rfl) (pe_make T.o_Reader.m (G_Reader___init__.mono (by decide)) hr rfl T.k_Reader T.m_Reader___init__.b .nil pass0 (pa_cons (pv 0) pa_nil)))
      (pss_cons (ps_set (i := 2) sc_read_row.nd rfl (Or.inl rfl) (pe_call (G_read_items.mono (by decide)) hr rfl T.read_items.m T.read_items.F.kp T.read_items.b .nil pass0 (pa_cons (pv 1) (pa_cons pe_int pa_nil))))
      (pss_cons (ps_if (pt_not (pt_val (pe_meth0 (pv 1) T.o_Reader.c T.m_Reader_ended.m (G_Reader_ended.mono (by decide)) hr T.m_Reader_ended.b .nil pass0)))
        (pss_one ps_never)
        pss_nil)
      (pss_one (ps_ret (pv 2))))))), ?_⟩
    refine ⟨_, rfl, rfl, _, rfl, ?_⟩
    cases xs with
    | nil =>
      have eu : u = [] := by rw [hW.tx]; simp only [rowX]
      refine iteDp (by rw [eu]; exact congrArg V.str (by decide +kernel)) ?_
      refine ⟨Nat.zero_le _, fun li hli => ?_⟩
      exact k li [] _ (.upd hli) hli upd_same ⟨rfl, by simp, fun i r x e1 _ => by simp at e1⟩
    | cons x0 xs =>
      have u1 : 1 ≤ u.length := by
        have := It.tx_pos 8 x0 (hW.gd _ List.mem_cons_self)
        rw [hW.tx]
        simp only [rowX, List.length_append]
        omega
      refine iteDn (fun z => ?_) ?_
      · injection z with z
        have : u = [] := tx_inj (z.trans (by decide +kernel))
        rw [this] at u1
        simp at u1
      refine ⟨_, rfl, fun r dx hr1 hdx hne => ⟨r, dx, u, rfl, upd_same, rfl, ?_⟩⟩
      rw [upd_upd]
      have hR : Rd t (upd (upd H dx (.own r)) r (.ins t.e_Reader dx (rf u 0))) r dx u 0 := ⟨upd_same, Nat.zero_le _, hW.ul⟩
      have s1 : Same H (upd (upd H dx (.own r)) r (.ins t.e_Reader dx (rf u 0))) := (Same.upd hdx).over hr1
      generalize upd (upd H dx (.own r)) r (.ins t.e_Reader dx (rf u 0)) = H1 at hR s1 ⊢
      refine ⟨_, rfl, r, dx, u, 0, x0 :: xs, [], 0, rfl, by decide, hR, by simp, hW.le, hW.gd, by rw [List.append_nil]; exact hW.tx, fun c hc => by simp at hc, fun li rs H' s2 hR' nli hli hA => ?_⟩
      rw [Nat.zero_add, ← hW.tx] at hR'
      refine ⟨_, rfl, r, dx, rf u u.length, rfl, hR'.1, (rf_meth u _).1, r, dx, u, u.length, rfl, hR', _, rfl, ?_⟩
      rw [decide_eq_true rfl]
      refine iteF ?_
      have s3 : Same H H' := fun b o e => s2 b o (ne_of_none e hr1) (s1 b o e)
      exact ⟨_, rfl, k li rs H' s3 (s1.free nli) hli ⟨hA.len, hA.le, fun i r x e1 e2 => AtJ.to 8 _ _ (hA.at_ i r x e1 e2)⟩⟩
end
theorem Sms.of_all : ∀ {xs : List It}, (∀ x ∈ xs, x.Sm) → Sms xs
  | [], _ => by simp only [Sms]
  | x :: xs, h => by
    simp only [Sms]
    exact ⟨h x List.mem_cons_self, Sms.of_all fun y hy => h y (List.mem_cons_of_mem _ hy)⟩
theorem Gd.sm : ∀ (d : Nat) (x : It), Gd d x → x.Sm
  | d, .pth ss, h => by
    have hG0 : ∃ n0 ns, ss = ofN (n0 :: ns) ∧ (∀ n ∈ n0 :: ns, n < 100) ∧ ns.length ≤ 900 := by cases d <;> exact h
    obtain ⟨n0, ns, rfl, hn, _⟩ := hG0
    simp only [It.Sm]
    refine ⟨by simp [ofN], fun s hs => ?_⟩
    obtain ⟨n, hn', rfl⟩ := List.mem_map.mp hs
    have := hn n hn'
    show n ≤ 400
    omega
  | 0, .tms n xs, h => h.elim
  | d + 1, .tms n xs, h => by
    obtain ⟨h1, _, _, _, h5⟩ := h
    simp only [It.Sm]
    exact ⟨h1, Sms.of_all fun y hy => Gd.sm d y (h5 y hy)⟩
section
variable {P : Program} {w : World} {K : PySem.W.Frag} {mg : Str → Option Value} {base : Heap} {t : Adr}
def sp_unf : Sp := fun vs H Q _ => ∃ (u : List Nat) (xs : List It), vs = [.str (tx u)] ∧ Row u xs ∧ szs xs ≤ 400 ∧ ∀ q H', Same H H' → H q = none → H' q = some (.lst (vI (nus xs))) → Q (.ref q) H'
theorem ok_unfolded (T : Txt K mg t) : FnOk P w K mg base CX0 41 t.f_unfolded t.d_unfolded ["text"] sp_unf := by
  have G_read_row : FnOk P w K mg base CX0 40 t.f_read_row t.d_read_row _ _ := ok_read_row T
  have G_whole_size : FnOk P w K mg base CX0 18 t.f_whole_size t.d_whole_size _ _ := ok_wsz T 8
  have G_all_numbers : FnOk P w K mg base CX0 19 t.f_all_numbers t.d_all_numbers _ _ := ok_wnu T 8
  refine T.unfolded.F.ok sc_unfolded (fun vs H Q E h => ?_) (fun cdv A outer s H vs Q E hr h => ?_)
  · obtain ⟨u, xs, rfl, _⟩ := h
    rfl
  · obtain ⟨u, xs, rfl, hW, c', k1⟩ := h
    refine ⟨_, (pss_cons (ps_set (i := 1) sc_unfolded.nd rfl (Or.inl rfl) (pe_call (G_read_row.mono (by decide)) hr rfl T.read_row.m T.read_row.F.kp T.read_row.b .nil pass0 (pa_cons (pv 0) pa_nil)))
      (pss_cons (ps_if (pt_cmpR op_gt (pe_call (G_whole_size.mono (by decide)) hr rfl T.whole_size.m T.whole_size.F.kp T.whole_size.b .nil pass0 (pa_cons (pv 1) pa_nil)) (pe_glob (v := .int 400) rfl T.c_MOST_NUMBERS.choose_spec ⟨_, rfl⟩) (nomark _))
        (pss_one ps_never)
        pss_nil)
      (pss_one (ps_ret (pe_call (G_all_numbers.mono (by decide)) hr rfl T.all_numbers.m T.all_numbers.F.kp T.all_numbers.b .nil pass0 (pa_cons (pv 1) pa_nil)))))), ?_⟩
    refine ⟨_, rfl, u, xs, rfl, hW, fun li rs H1 s1 nli hli hA => ?_⟩
    refine ⟨_, rfl, li, rs, _, rfl, hli, hA, fun H2 s2 => ?_⟩
    refine ⟨_, _, rfl, rfl, _, rfl, ?_⟩
    refine iteDn (by omega) ?_
    exact ⟨_, rfl, li, rs, xs, rfl, s2 _ _ hli, hA.same s2, Sms.of_all fun x hx => Gd.sm 8 x (hW.gd x hx), c', fun q H3 s3 nq hq => k1 q H3 ((s1.trans s2).trans s3) ((s1.trans s2).free nq) hq⟩
end
theorem glue_sep (z : List Nat) : ∀ (ys : List (List Nat)) (acc : Array Nat), (ys.map tx).foldl (fun acc p => acc ++ (tx z).cps ++ p.cps) acc = acc ++ ((ys.map fun y => z ++ y).flatten).toArray
  | [], acc => by simp
  | y :: ys, acc => by
    rw [List.map_cons, List.foldl_cons, glue_sep z ys]
    simp [tx]
theorem tx_joinS (z y : List Nat) (ys : List (List Nat)) : Txt.join (tx z) ((y :: ys).map tx) = tx (y ++ (ys.map fun y => z ++ y).flatten) := by
  show Str.mk _ = _
  simp only [List.map_cons, List.drop_one, List.tail_cons, List.headD_cons]
  rw [glue_sep]
  simp [tx]
theorem tails_flat : ∀ (ns : List Nat), ((ns.map dec).map fun y => [45] ++ y).flatten = tails ns
  | [] => rfl
  | n :: r => by
    rw [List.map_cons, List.map_cons, List.flatten_cons, tails_flat r, tails]
    rfl
theorem join_path (n0 : Nat) (ns : List Nat) : Txt.join (tx [45]) (((n0 :: ns).map dec).map tx) = tx (pathT (n0 :: ns)) := by
  rw [List.map_cons, tx_joinS, tails_flat, pathT]
def more : List (List Nat) → List Nat
  | [] => []
  | ps :: r => 32 :: (pathT ps ++ more r)
structure Okp (ps : List Nat) : Prop where
  ne : 1 ≤ ps.length
  le : ps.length ≤ 900
  bd : ∀ n ∈ ps, n < 100
def rowT (ps : List Nat) (pss : List (List Nat)) : List Nat := pathT ps ++ more pss
def rT : List (List Nat) → List Nat
  | [] => []
  | p :: r => rowT p r
def nT (pss : List (List Nat)) : List Int := ((pss.map ofN).map pnum).flatten
theorem nT_snoc (pss : List (List Nat)) (p : List Nat) : nT (pss ++ [p]) = nT pss ++ pnum (ofN p) := by
  unfold nT
  simp
theorem pnum_snoc {z : List Int} {a : Int} (b : Int) : pnum ((z ++ [a]) ++ [b]) = pnum (z ++ [a]) ++ stps a b := by
  cases z with
  | nil => simp [pnum, go]
  | cons s r => rw [List.cons_append, List.cons_append, pnum, go_snoc, lst_snoc, pnum, List.cons_append]
theorem ofN_app (a b : List Nat) : ofN (a ++ b) = ofN a ++ ofN b := by unfold ofN; rw [List.map_append]
theorem nT_ext (pss : List (List Nat)) (q : List Nat) (a n : Nat) : nT (pss ++ [(q ++ [a]) ++ [n]]) = nT (pss ++ [q ++ [a]]) ++ stps (a : Int) (n : Int) := by
  rw [nT_snoc, nT_snoc, ofN_app (q ++ [a]) [n], ofN_app q [a]]
  show nT pss ++ pnum ((ofN q ++ [(a : Int)]) ++ [(n : Int)]) = nT pss ++ pnum (ofN q ++ [(a : Int)]) ++ stps (a : Int) (n : Int)
  rw [pnum_snoc, List.append_assoc]
def gt (row : List Nat) (i : Nat) : Nat := row.getD i 0
def un (row : List Nat) (i : Nat) : Prop := gt row (i + 1) = gt row i + 1 ∨ gt row i = gt row (i + 1) + 1
instance (row : List Nat) (i : Nat) : Decidable (un row i) := inferInstanceAs (Decidable (_ ∨ _))
def Leg (row : List Nat) (j k : Nat) : Prop := ∃ d : Int, (d = 1 ∨ d = -1) ∧ ∀ i, j ≤ i → i < k → (gt row (i + 1) : Int) = (gt row i : Int) + d
theorem leg_at {row : List Nat} {j : Nat} {d : Int} : ∀ {q : Nat}, (∀ i, j ≤ i → i < j + q → (gt row (i + 1) : Int) = (gt row i : Int) + d) → (gt row (j + q) : Int) = (gt row j : Int) + d * (q : Int)
  | 0, _ => by simp
  | q + 1, h => by
    have h1 := leg_at (q := q) fun i h1 h2 => h i h1 (by omega)
    have h2 := h (j + q) (by omega) (by omega)
    rw [show j + (q + 1) = j + q + 1 by omega, h2, h1]
    have : d * ((q + 1 : Nat) : Int) = d * (q : Int) + d := by rw [show ((q + 1 : Nat) : Int) = (q : Int) + 1 by omega, Int.mul_add, Int.mul_one]
    omega
theorem leg_stps {row : List Nat} {j k : Nat} (hj : j ≤ k) (hk : k < row.length) (L : Leg row j k) : stps (gt row j : Int) (gt row k : Int) = ofN ((row.drop (j + 1)).take (k - j)) := by
  obtain ⟨d, hd, hL⟩ := L
  have at' : ∀ q, q ≤ k - j → (gt row (j + q) : Int) = (gt row j : Int) + d * (q : Int) := fun q hq => leg_at fun i h1 h2 => hL i h1 (by omega)
  have e := at' (k - j) (Nat.le_refl _)
  rw [show j + (k - j) = k by omega] at e
  have ab : absI ((gt row k : Int) - (gt row j : Int)) = ((k - j : Nat) : Int) := by
    unfold absI
    rcases hd with h | h <;> subst h
    · split <;> omega
    · split <;> omega
  have sg : ∀ q : Nat, 1 ≤ q → q ≤ k - j → (if (gt row k : Int) - (gt row j : Int) < 0 then (-1 : Int) else 1) * (q : Int) = d * (q : Int) := fun q h1 h2 => by
    rcases hd with h | h <;> subst h
    · rw [if_neg (by omega)]
    · rw [if_pos (by omega)]
  refine List.ext_getElem? fun i => ?_
  by_cases hi : i < k - j
  · have h1 := stps_get (a := (gt row j : Int)) (b := (gt row k : Int)) (q := i + 1) (by omega) (by rw [ab]; omega)
    rw [show i + 1 - 1 = i by omega] at h1
    rw [h1, sg (i + 1) (by omega) (by omega), ← at' (i + 1) (by omega)]
    have hl : j + (i + 1) < row.length := by omega
    unfold ofN
    rw [List.getElem?_map, List.getElem?_take_of_lt hi, List.getElem?_drop, show j + 1 + i = j + (i + 1) by omega, List.getElem?_eq_getElem hl]
    show some _ = some _
    congr 1
    unfold gt
    rw [List.getD_eq_getElem?_getD, List.getElem?_eq_getElem hl]
    rfl
  · have l1 := stps_len (gt row j : Int) (gt row k : Int)
    rw [ab] at l1
    rw [List.getElem?_eq_none (by omega), List.getElem?_eq_none (by unfold ofN; rw [List.length_map, List.length_take, List.length_drop]; omega)]
theorem take_leg {row : List Nat} {j k : Nat} (hj : j ≤ k) (hk : k < row.length) (L : Leg row j k) : ofN (row.take (j + 1)) ++ stps (gt row j : Int) (gt row k : Int) = ofN (row.take (k + 1)) := by
  rw [leg_stps hj hk L, ← ofN_app]
  congr 1
  have e : k + 1 = (j + 1) + (k - j) := by omega
  rw [e, show row.take ((j + 1) + (k - j)) = row.take (j + 1) ++ (row.drop (j + 1)).take (k - j) from List.take_add]
theorem Leg.one (row : List Nat) (j : Nat) : Leg row j j := ⟨1, .inl rfl, fun i h1 h2 => by omega⟩
theorem Leg.step {row : List Nat} {j k : Nat} (hj : j ≤ k) (L : Leg row j k) (u : un row k) (same : j < k → (gt row (k + 1) : Int) - gt row k = (gt row k : Int) - gt row (k - 1)) : Leg row j (k + 1) := by
  by_cases h : j = k
  · subst h
    rcases u with u | u
    · exact ⟨1, .inl rfl, fun i h1 h2 => by have : i = j := (by omega); subst this; omega⟩
    · exact ⟨-1, .inr rfl, fun i h1 h2 => by have : i = j := (by omega); subst this; omega⟩
  · obtain ⟨d, hd, hL⟩ := L
    refine ⟨d, hd, fun i h1 h2 => ?_⟩
    by_cases q : i < k
    · exact hL i h1 q
    · have : i = k := by omega
      subst this
      have s := same (by omega)
      have e := hL (i - 1) (by omega) (by omega)
      rw [show i - 1 + 1 = i by omega] at e
      omega
def cs (n : Nat) : Nat := (dec n).length + 1
def cP (p : List Nat) : Nat := (p.map cs).sum
def cT (pss : List (List Nat)) : Nat := (pss.map cP).sum
theorem cP_snoc (p : List Nat) (n : Nat) : cP (p ++ [n]) = cP p + cs n := by unfold cP; simp
theorem cT_snoc (pss : List (List Nat)) (p : List Nat) : cT (pss ++ [p]) = cT pss + cP p := by unfold cT; simp
theorem tails_lenC : ∀ r, (tails r).length = cP r
  | [] => rfl
  | n :: r => by
    rw [tails, List.length_cons, List.length_append, tails_lenC r]
    show _ = (dec n).length + 1 + cP r
    omega
theorem pathT_len1 {p : List Nat} (h : p ≠ []) : (pathT p).length + 1 = cP p := by
  cases p with
  | nil => exact absurd rfl h
  | cons n r =>
    rw [pathT, List.length_append, tails_lenC]
    show _ = (dec n).length + 1 + cP r
    omega
theorem more_len : ∀ r, (∀ p ∈ r, p ≠ []) → (more r).length = cT r
  | [], _ => rfl
  | p :: r, h => by
    have h1 := pathT_len1 (h p List.mem_cons_self)
    rw [more, List.length_cons, List.length_append, more_len r fun q hq => h q (List.mem_cons_of_mem _ hq)]
    show _ = cP p + cT r
    omega
theorem rT_len {pss : List (List Nat)} (h : pss ≠ []) (hp : ∀ p ∈ pss, p ≠ []) : (rT pss).length + 1 = cT pss := by
  cases pss with
  | nil => exact absurd rfl h
  | cons p r =>
    have h1 := pathT_len1 (hp p List.mem_cons_self)
    show (rowT p r).length + 1 = cP p + cT r
    unfold rowT
    rw [List.length_append, more_len r fun q hq => hp q (List.mem_cons_of_mem _ hq)]
    omega
def must (row : List Nat) (P : Nat → Bool) (i : Nat) : Prop := i = 0 ∨ i + 1 = row.length ∨ P i = true ∨ P (i + 1) = true ∨ (gt row (i + 1) : Int) - gt row i ≠ (gt row i : Int) - gt row (i - 1)
def gs (row : List Nat) (i : Nat) : Prop := i = 0 ∨ ¬ un row (i - 1) ∨ i + 1 = row.length ∨ ¬ un row i ∨ gt row (i - 1) = gt row (i + 1)
instance (row : List Nat) (i : Nat) : Decidable (gs row i) := inferInstanceAs (Decidable (_ ∨ _))
def gsum (row : List Nat) (k : Nat) : Nat := ((List.range k).map fun i => if gs row i then cs (gt row i) else 0).sum
def nb (row : List Nat) (k : Nat) : Nat := ((List.range k).map fun i => if 0 < i ∧ ¬ un row (i - 1) then 1 else 0).sum
theorem gsum_succ (row : List Nat) (k : Nat) : gsum row (k + 1) = gsum row k + (if gs row k then cs (gt row k) else 0) := by
  unfold gsum
  rw [List.range_succ, List.map_append, List.sum_append]
  simp
theorem nb_succ (row : List Nat) (k : Nat) : nb row (k + 1) = nb row k + (if 0 < k ∧ ¬ un row (k - 1) then 1 else 0) := by
  unfold nb
  rw [List.range_succ, List.map_append, List.sum_append]
  simp
structure Prt (row : List Nat) (P : Nat → Bool) : Prop where
  z : P 0 = false
  u : ∀ i, i < row.length → P i = false → 0 < i → un row (i - 1)
theorem gs_must {row : List Nat} {P : Nat → Bool} (hP : Prt row P) {i : Nat} (hi : i < row.length) (h : gs row i) : must row P i := by
  by_cases i0 : i = 0
  · exact .inl i0
  by_cases il : i + 1 = row.length
  · exact .inr (.inl il)
  by_cases p0 : P i = true
  · exact .inr (.inr (.inl p0))
  by_cases p1 : P (i + 1) = true
  · exact .inr (.inr (.inr (.inl p1)))
  refine .inr (.inr (.inr (.inr ?_)))
  have u0 := hP.u i hi (by simpa using p0) (by omega)
  have u1 := hP.u (i + 1) (by omega) (by simpa using p1) (by omega)
  rw [show i + 1 - 1 = i by omega] at u1
  rcases h with h | h | h | h | h
  · exact absurd h i0
  · exact absurd u0 h
  · exact absurd h il
  · exact absurd u1 h
  · unfold un at u0 u1
    rw [show i - 1 + 1 = i by omega] at u0
    omega
structure Wt (row : List Nat) (P : Nat → Bool) (k : Nat) (pss : List (List Nat)) (p : List Nat) (j : Nat) : Prop where
  q : ∃ q, p = q ++ [gt row j]
  jk : j < k
  num : nT (pss ++ [p]) = ofN (row.take (j + 1))
  leg : Leg row j (k - 1)
  skip : ∀ i, j < i → i < k → ¬ must row P i
  bd : ∀ q ∈ pss ++ [p], q ≠ [] ∧ ∀ n ∈ q, n < 100
  cost : gsum row k ≤ cT (pss ++ [p])
  cnt : nb row k + 1 ≤ (pss ++ [p]).length
  len : pss.length ≤ k ∧ ∀ q ∈ pss ++ [p], q.length ≤ 2 * k
section
variable {row : List Nat} {P : Nat → Bool} {k : Nat} {pss : List (List Nat)} {p : List Nat} {j : Nat}
theorem gt_lt (hb : ∀ n ∈ row, n < 100) (hk : k < row.length) : gt row k < 100 := by
  unfold gt
  rw [List.getD_eq_getElem?_getD, List.getElem?_eq_getElem hk]
  exact hb _ (List.getElem_mem hk)
theorem take_gt (hk : k < row.length) : row.take (k + 1) = row.take k ++ [gt row k] := by
  unfold gt
  rw [List.take_add_one, List.getElem?_eq_getElem hk, List.getD_eq_getElem?_getD, List.getElem?_eq_getElem hk]
  rfl
theorem wt_first (hb : ∀ n ∈ row, n < 100) (h0 : 0 < row.length) : Wt row P 1 [] [gt row 0] 0 := by
  refine ⟨⟨[], rfl⟩, by omega, ?_, Leg.one row 0, fun i h1 h2 => by omega, fun q hq => ?_, ?_, ?_, Nat.zero_le _, fun q hq => ?_⟩
  · rw [take_gt h0]
    simp [nT, ofN, pnum, go]
  · rw [List.mem_singleton.mp hq]
    exact ⟨by simp, fun n hn => by rw [List.mem_singleton.mp hn]; exact gt_lt hb h0⟩
  · rw [gsum_succ]
    have : gs row 0 := .inl rfl
    rw [if_pos this]
    simp [gsum, cT, cP]
  · rw [nb_succ, if_neg (by omega)]
    simp [nb]
  · rw [List.mem_singleton.mp hq]
    simp
theorem Wt.leg' (W : Wt row P k pss p j) (hP : Prt row P) (hk : k < row.length) (hp : P k = false) : Leg row j k := by
  have jk := W.jk
  have u := hP.u k hk hp (by omega)
  have := Leg.step (k := k - 1) (by omega) W.leg u fun h => ?_
  · rwa [show k - 1 + 1 = k by omega] at this
  · have nm := W.skip (k - 1) h (by omega)
    refine Classical.byContradiction fun z => nm (.inr (.inr (.inr (.inr ?_))))
    exact z
theorem Wt.skip' (W : Wt row P k pss p j) (hP : Prt row P) (hk : k < row.length) (nm : ¬ must row P k) : Wt row P (k + 1) pss p j := by
  have jk := W.jk
  have hp : P k = false := by
    cases e : P k with
    | false => rfl
    | true => exact absurd (.inr (.inr (.inl e))) nm
  refine ⟨W.q, by omega, W.num, by rw [Nat.add_sub_cancel]; exact W.leg' hP hk hp, fun i h1 h2 => ?_, W.bd, ?_, ?_, by have := W.len.1; omega, fun q hq => by have := W.len.2 q hq; omega⟩
  · by_cases q : i = k
    · rw [q]; exact nm
    · exact W.skip i h1 (by omega)
  · rw [gsum_succ, if_neg fun z => nm (gs_must hP hk z)]
    exact W.cost
  · rw [nb_succ, if_neg fun z => z.2 (hP.u k hk hp z.1)]
    exact W.cnt
theorem cs_le (row : List Nat) (k : Nat) : (if gs row k then cs (gt row k) else 0) ≤ cs (gt row k) := by split <;> omega
theorem Wt.ext (W : Wt row P k pss p j) (hP : Prt row P) (hb : ∀ n ∈ row, n < 100) (hk : k < row.length) (hp : P k = false) : Wt row P (k + 1) pss (p ++ [gt row k]) k := by
  have jk := W.jk
  obtain ⟨q, eq⟩ := W.q
  refine ⟨⟨p, rfl⟩, by omega, ?_, by rw [Nat.add_sub_cancel]; exact Leg.one row k, fun i h1 h2 => by omega, fun r hr => ?_, ?_, ?_, by have := W.len.1; omega, fun r hr => ?_⟩
  · have n := W.num
    rw [eq] at n ⊢
    rw [nT_ext, n]
    exact take_leg (by omega) hk (W.leg' hP hk hp)
  · rcases List.mem_append.mp hr with h | h
    · exact W.bd r (List.mem_append_left _ h)
    · rw [List.mem_singleton.mp h]
      refine ⟨by simp, fun n hn => ?_⟩
      rcases List.mem_append.mp hn with h | h
      · exact (W.bd p (List.mem_append_right _ List.mem_cons_self)).2 n h
      · rw [List.mem_singleton.mp h]; exact gt_lt hb hk
  · have c1 := W.cost
    have c2 := cs_le row k
    rw [cT_snoc] at c1
    rw [gsum_succ, cT_snoc, cP_snoc]
    omega
  · have c1 := W.cnt
    rw [nb_succ, if_neg fun z => z.2 (hP.u k hk hp z.1)]
    rw [List.length_append] at c1 ⊢
    exact c1
  · rcases List.mem_append.mp hr with h | h
    · have := W.len.2 r (List.mem_append_left _ h); omega
    · have := W.len.2 p (List.mem_append_right _ List.mem_cons_self)
      rw [List.mem_singleton.mp h, List.length_append]
      simp only [List.length_singleton]
      omega
theorem Wt.done (W : Wt row P row.length pss p j) : nT (pss ++ [p]) = ofN row := by
  have jk := W.jk
  have ej : j + 1 = row.length := Classical.byContradiction fun z => W.skip (row.length - 1) (by omega) (by omega) (.inr (.inl (by omega)))
  rw [W.num, ej, List.take_length]
end
def isst (v : List Nat) (i : Nat) : Prop := i = 0 ∨ i + 1 = v.length ∨ gt v (i - 1) = gt v (i + 1)
instance (v : List Nat) (i : Nat) : Decidable (isst v i) := inferInstanceAs (Decidable (_ ∨ _))
def stpTo (v : List Nat) (k : Nat) : List Nat := ((List.range k).filter fun i => decide (isst v i)).map (gt v)
def stp (v : List Nat) : List Nat := stpTo v v.length
def cv (v : List Nat) : Nat := ((List.range v.length).map fun i => if isst v i then cs (gt v i) else 0).sum
structure Run (v : List Nat) : Prop where
  ne : v ≠ []
  u : ∀ i, i + 1 < v.length → un v i
  bd : ∀ n ∈ v, n < 100
theorem stpTo_succ (v : List Nat) (k : Nat) : stpTo v (k + 1) = stpTo v k ++ (if isst v k then [gt v k] else []) := by
  unfold stpTo
  rw [List.range_succ, List.filter_append, List.map_append]
  congr 1
  by_cases h : isst v k
  · rw [if_pos h, List.filter_cons_of_pos (p := fun i => decide (isst v i)) (decide_eq_true h)]; rfl
  · rw [if_neg h, List.filter_cons_of_neg (p := fun i => decide (isst v i)) (by rw [decide_eq_false h]; simp)]; rfl
theorem run_prt {v : List Nat} (R : Run v) : Prt v fun _ => false := ⟨rfl, fun i hi _ h0 => R.u (i - 1) (by omega)⟩
theorem isst_must {v : List Nat} (R : Run v) {i : Nat} (hi : i < v.length) : isst v i ↔ must v (fun _ => false) i := by
  constructor
  · rintro (h | h | h)
    · exact .inl h
    · exact .inr (.inl h)
    · by_cases i0 : i = 0
      · exact .inl i0
      by_cases il : i + 1 = v.length
      · exact .inr (.inl il)
      have u0 := R.u (i - 1) (by omega)
      have u1 := R.u i (by omega)
      unfold un at u0 u1
      rw [show i - 1 + 1 = i by omega] at u0
      exact .inr (.inr (.inr (.inr (by omega))))
  · rintro (h | h | h | h | h)
    · exact .inl h
    · exact .inr (.inl h)
    · cases h
    · cases h
    · by_cases i0 : i = 0
      · exact .inl i0
      by_cases il : i + 1 = v.length
      · exact .inr (.inl il)
      have u0 := R.u (i - 1) (by omega)
      have u1 := R.u i (by omega)
      unfold un at u0 u1
      rw [show i - 1 + 1 = i by omega] at u0
      exact .inr (.inr (by omega))
theorem run_wt {v : List Nat} (R : Run v) : ∀ k, k + 1 ≤ v.length → ∃ j, Wt v (fun _ => false) (k + 1) [] (stpTo v (k + 1)) j
  | 0, h => by
    have : stpTo v 1 = [gt v 0] := by
      rw [stpTo_succ]
      have : isst v 0 := .inl rfl
      rw [if_pos this]
      rfl
    exact ⟨0, by rw [this]; exact wt_first R.bd h⟩
  | k + 1, h => by
    obtain ⟨j, W⟩ := run_wt R k (by omega)
    rw [stpTo_succ]
    by_cases q : isst v (k + 1)
    · rw [if_pos q]
      exact ⟨k + 1, W.ext (run_prt R) R.bd (by omega) rfl⟩
    · rw [if_neg q, List.append_nil]
      exact ⟨j, W.skip' (run_prt R) (by omega) fun z => q ((isst_must R (by omega)).mpr z)⟩
theorem stp_num {v : List Nat} (R : Run v) : pnum (ofN (stp v)) = ofN v ∧ stp v ≠ [] ∧ (∀ n ∈ stp v, n < 100) ∧ (stp v).length ≤ 2 * v.length := by
  have l : 0 < v.length := List.length_pos_iff.mpr R.ne
  obtain ⟨j, W⟩ := run_wt R (v.length - 1) (by omega)
  rw [show v.length - 1 + 1 = v.length by omega] at W
  have := W.done
  have b := W.bd (stp v) (by show stp v ∈ [] ++ [stpTo v v.length]; exact List.mem_cons_self)
  have c := W.len.2 (stp v) (by show stp v ∈ [] ++ [stpTo v v.length]; exact List.mem_cons_self)
  refine ⟨?_, b.1, b.2, c⟩
  rw [show nT ([] ++ [stpTo v v.length]) = pnum (ofN (stp v)) by simp [nT, stp]] at this
  exact this
theorem gt_left {v r : List Nat} {i : Nat} (h : i < v.length) : gt (v ++ r) i = gt v i := by
  unfold gt
  rw [List.getD_eq_getElem?_getD, List.getElem?_append_left h, ← List.getD_eq_getElem?_getD]
theorem gt_right (v r : List Nat) (i : Nat) : gt (v ++ r) (v.length + i) = gt r i := by
  unfold gt
  rw [List.getD_eq_getElem?_getD, List.getElem?_append_right (by omega), show v.length + i - v.length = i by omega, ← List.getD_eq_getElem?_getD]
theorem un_left {v r : List Nat} {i : Nat} (h : i + 1 < v.length) : un (v ++ r) i ↔ un v i := by
  unfold un
  rw [gt_left h, gt_left (by omega)]
section
variable {v r : List Nat}
end
def Rns : List (List Nat) → Prop
  | [] => True
  | [v] => Run v
  | v :: v' :: r => Run v ∧ ¬ (gt v' 0 = gt v (v.length - 1) + 1 ∨ gt v (v.length - 1) = gt v' 0 + 1) ∧ Rns (v' :: r)
theorem rns_all : ∀ {vss : List (List Nat)}, Rns vss → ∀ v ∈ vss, Run v
  | [], _, v, h => by cases h
  | [v'], h, v, hv => by rw [List.mem_singleton.mp hv]; exact h
  | v' :: v2 :: r, h, v, hv => by
    rcases List.mem_cons.mp hv with z | z
    · rw [z]; exact h.1
    · exact rns_all h.2.2 v z
theorem rns_snoc : ∀ {vss : List (List Nat)} {v w : List Nat}, Rns (vss ++ [v]) → Run w → ¬ (gt w 0 = gt v (v.length - 1) + 1 ∨ gt v (v.length - 1) = gt w 0 + 1) → Rns (vss ++ [v] ++ [w])
  | [], v, w, h, R, b => ⟨h, b, R⟩
  | [u], v, w, h, R, b => ⟨h.1, h.2.1, rns_snoc (vss := []) h.2.2 R b⟩
  | u :: u' :: r, v, w, h, R, b => ⟨h.1, h.2.1, rns_snoc (vss := u' :: r) h.2.2 R b⟩
theorem rns_ext : ∀ {vss : List (List Nat)} {v w : List Nat}, Rns (vss ++ [v]) → Run w → gt w 0 = gt v 0 → Rns (vss ++ [w])
  | [], v, w, h, R, b => R
  | [u], v, w, h, R, b => ⟨h.1, by rw [b]; exact h.2.1, R⟩
  | u :: u' :: r, v, w, h, R, b => ⟨h.1, h.2.1, rns_ext (vss := u' :: r) h.2.2 R b⟩
theorem run_add {v : List Nat} {n : Nat} (R : Run v) (hn : n < 100) (u : n = gt v (v.length - 1) + 1 ∨ gt v (v.length - 1) = n + 1) : Run (v ++ [n]) := by
  have vl : 0 < v.length := List.length_pos_iff.mpr R.ne
  refine ⟨by simp, fun i hi => ?_, fun m hm => ?_⟩
  · rw [List.length_append] at hi
    simp only [List.length_singleton] at hi
    by_cases q : i + 1 < v.length
    · exact (un_left q).mpr (R.u i q)
    · have e : i = v.length - 1 := by omega
      unfold un
      rw [e, show v.length - 1 + 1 = v.length + 0 by omega, gt_right, gt_left (by omega)]
      exact u
  · rcases List.mem_append.mp hm with h | h
    · exact R.bd m h
    · rw [List.mem_singleton.mp h]; exact hn
theorem rns_nT {vss : List (List Nat)} (h : Rns vss) : nT (vss.map stp) = ofN vss.flatten := by
  have : ∀ v ∈ vss, Run v := rns_all h
  clear h
  induction vss with
  | nil => rfl
  | cons v r ih =>
    have h1 := (stp_num (this v List.mem_cons_self)).1
    have h2 := ih fun u hu => this u (List.mem_cons_of_mem _ hu)
    unfold nT at h2 ⊢
    rw [List.map_cons, List.map_cons, List.map_cons, List.flatten_cons, h1, h2, List.flatten_cons, ofN_app]
section
variable {P : Program} {w : World} {K : PySem.W.Frag} {mg : Str → Option Value} {base : Heap} {t : Adr}
theorem oN_at {v : List Nat} {k : Nat} (h : k < v.length) : atI (vI (ofN v)) (k : Int) = some (.int (gt v k : Int)) := atI_of (by omega) (by
  rw [Int.toNat_natCast]
  unfold ofN gt
  refine vI_get ?_
  rw [List.getElem?_map, List.getElem?_eq_getElem h, List.getD_eq_getElem?_getD, List.getElem?_eq_getElem h]
  rfl)
theorem oN_len (v : List Nat) : (vI (ofN v)).length = v.length := by rw [vI_len]; unfold ofN; rw [List.length_map]
def sp_stop (K : PySem.W.Frag) : Sp := fun vs H Q _ => ∃ (l : Addr) (v : List Nat) (k : Nat), vs = [.ref l, .int (k : Int)] ∧ SqL K H l (vI (ofN v)) ∧ k < v.length ∧ Q (.bl (decide (isst v k))) H
theorem ok_is_stop (T : Txt K mg t) : FnOk P w K mg base CX0 1 t.f_is_stop t.d_is_stop ["path", "k"] (sp_stop K) := by
  refine T.is_stop.F.ok sc_is_stop (fun vs H Q E h => ?_) (fun cdv A outer s H vs Q E hr h => ?_)
  · obtain ⟨l, v, k, rfl, _⟩ := h
    rfl
  · obtain ⟨l, v, k, rfl, hS, hk, kk⟩ := h
    refine ⟨_, (pss_cons (ps_if (PW.pt (pw_or (pt_cmpR op_eq (pv 1) pe_int (nomark _)) (pw_or1 (pt_cmpR op_eq (pv 1) (pe_op op_sub (pe_callB (call_len_seqK (K := K)) rfl T.b_len bt_len (pa_cons (pv 0) pa_nil)) pe_int) (nomark _)))))
        (pss_one (ps_ret pe_bl))
        pss_nil)
      (pss_one (ps_ret (pe_cmpR op_eq (pe_ix (ix_listK (K := K)) (pv 0) (pe_op op_sub (pv 1) pe_int) (fun _ _ => rfl)) (pe_ix (ix_listK (K := K)) (pv 0) (pe_op op_add (pv 1) pe_int) (fun _ _ => rfl)) (nomark _))))), ?_⟩
    refine ⟨_, rfl, rfl, _, rfl, ?_⟩
    by_cases h0 : k = 0
    · have : isst v k := .inl h0
      rw [decide_eq_true this] at kk
      exact iteDp (by rw [h0]; rfl) (iteT kk)
    refine iteDn (fun z => h0 (by have := V.int.inj z; omega)) ?_
    refine ⟨_, rfl, _, rfl, _, _, rfl, .inl hS, _, _, rfl, rfl, rfl, _, rfl, ?_⟩
    rw [oN_len]
    by_cases h1 : k + 1 = v.length
    · have : isst v k := .inr (.inl h1)
      rw [decide_eq_true this] at kk
      exact iteDp (congrArg V.int (by omega)) kk
    refine iteDn (fun z => h1 (by have := V.int.inj z; omega)) ?_
    have e1 : atI (vI (ofN v)) ((k : Int) - 1) = some (.int (gt v (k - 1) : Int)) := by rw [show (k : Int) - 1 = ((k - 1 : Nat) : Int) by omega]; exact oN_at (by omega)
    have e2 : atI (vI (ofN v)) ((k : Int) + 1) = some (.int (gt v (k + 1) : Int)) := by rw [show (k : Int) + 1 = ((k + 1 : Nat) : Int) by omega]; exact oN_at (by omega)
    refine ⟨_, rfl, _, rfl, _, _, rfl, rfl, _, _, _, _, rfl, rfl, hS, e1, _, rfl, _, rfl, _, _, rfl, rfl, _, _, _, _, rfl, rfl, hS, e2, rfl, ?_⟩
    have : decide ((V.int (gt v (k - 1) : Int) : V) = V.int (gt v (k + 1) : Int)) = decide (isst v k) := decide_eq_decide.mpr ⟨fun z => .inr (.inr (by have := V.int.inj z; omega)), fun z => by
      rcases z with z | z | z
      · exact absurd z h0
      · exact absurd z h1
      · rw [z]⟩
    rw [this]
    exact kk
theorem dec_sum (ns : List Nat) (h : ∀ n ∈ ns, n < 100) : (((ns.map dec).map tx).map (·.length)).sum ≤ 2 * ns.length := by
  induction ns with
  | nil => exact Nat.le_refl _
  | cons n r ih =>
    have h1 := (dec_is (h n List.mem_cons_self)).l2
    have h2 := ih fun m hm => h m (List.mem_cons_of_mem _ hm)
    rw [List.map_cons, List.map_cons, List.map_cons, List.sum_cons, tx_len, List.length_cons]
    omega
def sp_wp (K : PySem.W.Frag) : Sp := fun vs H Q _ => ∃ (l : Addr) (v : List Nat), vs = [.ref l] ∧ SqL K H l (vI (ofN v)) ∧ Run v ∧ v.length ≤ 400 ∧ ∀ H', Same H H' → Q (.str (tx (pathT (stp v)))) H'
theorem ok_written_path (T : Txt K mg t) : FnOk P w K mg base CX0 2 t.f_written_path t.d_written_path ["path"] (sp_wp K) := by
  have G_is_stop : FnOk P w K mg base CX0 1 t.f_is_stop t.d_is_stop _ _ := ok_is_stop T
  refine T.written_path.F.ok sc_written_path (fun vs H Q E h => ?_) (fun cdv A outer s H vs Q E hr h => ?_)
  · obtain ⟨l, v, rfl, _⟩ := h
    rfl
  · obtain ⟨l, v, rfl, hS, R, v400, k⟩ := h
    have hsz : sizeLine = 16777216 := sizeLine_eq
    obtain ⟨sn, sne, sbd, sl⟩ := stp_num R
    refine ⟨_, (pss_one (ps_ret (pe_bmK (K := K) PySem.F.plainAttrs_str PySem.F.slot_str_join PySem.F.type_str_join (mt_joinK (K := K)) pe_str (pa_cons (pe_comp (CompOk.mk (caps := [0]) (Nc := ["k", "path"]) rfl (by decide +kernel) (by decide +kernel) (comp_fr (sc0 := defScope s_written_path) rfl (by decide +kernel)) rfl rfl rfl (by decide +kernel) (fun k j h => match k, h with | 0, h => by obtain rfl := Option.some.inj h; exact ⟨_, rfl, rfl, rfl⟩ | _ + 1, h => by simp at h)) rfl (pi_range1 rfl T.b_range (pa_cons (pe_callB (call_len_seqK (K := K)) rfl T.b_len bt_len (pa_cons (pv 0) pa_nil)) pa_nil)) (fun _ _ _ _ _ => .one (pt_val (pe_call (G_is_stop.mono (by decide)) hr rfl T.is_stop.m T.is_stop.F.kp T.is_stop.b .nil pass0 (pa_cons (pv 1) (pa_cons (pv 0) pa_nil))))) (fun _ _ _ _ _ => (pe_callTy call_str_int rfl T.b_str bt_str (pa_cons (pe_ix (ix_listK (K := K)) (pv 1) (pv 0) (fun _ _ => rfl)) pa_nil)))) pa_nil)))), ?_⟩
    refine ⟨rfl, _, rfl, _, _, rfl, .inl hS, _, rfl, (by omega), (by rw [oN_len]; omega), ?_⟩
    rw [Int.toNat_natCast, oN_len]
    refine comp_range (lo := 0) (n := v.length) (fun i ys H2 => H2 = H ∧ ys = vS ((stpTo v i).map dec)) ⟨rfl, rfl⟩ ?_ ?_ ?_ ?_
    · rintro i ys H2 hi ⟨rfl, rfl⟩
      rw [vS_len, List.length_map]
      unfold stpTo
      rw [List.length_map]
      have := List.length_filter_le (fun i => decide (isst v i)) (List.range i)
      rwa [List.length_range] at this
    · omega
    · rintro i ys H2 hi ⟨rfl, rfl⟩
      refine ⟨_, rfl, _, rfl, l, v, i, (by rw [Int.zero_add]; rfl), hS, hi, ?_⟩
      refine ⟨_, rfl, ?_⟩
      have st := stpTo_succ v i
      refine ite2D (fun q => ?_) (fun q => ?_)
      · rw [if_pos q] at st
        have e1 : atI (vI (ofN v)) (0 + (i : Int)) = some (.int (gt v i : Int)) := by rw [Int.zero_add]; exact oN_at hi
        have g100 := gt_lt R.bd hi
        refine ⟨_, rfl, _, rfl, _, _, _, _, rfl, rfl, hS, e1, _, rfl, ?_, ?_⟩
        · show (gt v i).log2 < 1920
          exact Nat.lt_of_le_of_lt (Nat.log2_le_self _) (by omega)
        · show CN v.length _ i (vS ((stpTo v i).map dec) ++ [.str (Str.ofString (toString ((gt v i : Nat) : Int)))]) H2
          rw [dec_tx, vS_app]
          refine CN.of hi ⟨rfl, ?_⟩
          rw [st, List.map_append]
          rfl
      · rw [if_neg q, List.append_nil] at st
        exact CN.of hi ⟨rfl, by rw [st]⟩
    · rintro ys H2 q ⟨rfl, rfl⟩ hq
      refine ⟨_, _, ((stp v).map dec).map tx, rfl, rfl, SqL.of (by rw [upd_same, vS_map]; rfl), ?_, ?_⟩
      · have := dec_sum (stp v) sbd
        have d1 : Str.length "-" = 1 := by decide +kernel
        rw [List.length_map, List.length_map, d1]
        omega
      · rw [show (("-" : Str)) = tx [45] from by decide +kernel]
        obtain ⟨a, r, e⟩ : ∃ a r, stp v = a :: r := by
          cases e : stp v with
          | nil => exact absurd e sne
          | cons a r => exact ⟨a, r, rfl⟩
        have k' := k _ (.upd (o := .lst (vS ((stpTo v v.length).map dec))) hq)
        rw [e] at k' ⊢
        rw [join_path]
        exact k'
structure NL (H : Hp) (y : Addr) (rs : List Addr) (tss : List (List Int)) : Prop where
  h : H y = some (.lst (rs.map V.ref))
  l : rs.length = tss.length
  r : ∀ (i : Nat) (a : Addr) (ks : List Int), rs[i]? = some a → tss[i]? = some ks → H a = some (.lst (vI ks))
theorem NL.same {H H' : Hp} {y : Addr} {rs : List Addr} {tss : List (List Int)} (N : NL H y rs tss) (s : Same H H') : NL H' y rs tss := ⟨s _ _ N.h, N.l, fun i a ks h1 h2 => s _ _ (N.r i a ks h1 h2)⟩
theorem NL.at {H : Hp} {y : Addr} {rs : List Addr} {tss : List (List Int)} (N : NL H y rs tss) {i : Nat} {a : V} (h : (rs.map V.ref)[i]? = some a) : ∃ r ks, a = .ref r ∧ rs[i]? = some r ∧ tss[i]? = some ks ∧ H r = some (.lst (vI ks)) := by
  rw [List.getElem?_map] at h
  cases e : rs[i]? with
  | none => rw [e] at h; cases h
  | some r =>
    rw [e] at h
    cases h
    have hi : i < tss.length := by rw [← N.l]; exact (List.getElem?_eq_some_iff.mp e).1
    exact ⟨r, tss[i], rfl, rfl, List.getElem?_eq_getElem hi, N.r i r _ e (List.getElem?_eq_getElem hi)⟩
theorem at_last {α : Type} (xs : List α) (x : α) : atI (xs ++ [x]) (-1) = some x := by
  unfold atI ixN
  rw [if_neg (by decide), if_pos (by rw [List.length_append]; simp; omega)]
  have : (-1 + ((xs ++ [x]).length : Int)).toNat = xs.length := by rw [List.length_append]; simp; omega
  rw [this]
  show (xs ++ [x])[xs.length]? = some x
  rw [List.getElem?_append_right (Nat.le_refl _), Nat.sub_self]
  rfl
theorem nil_or_snoc {α : Type} : ∀ (l : List α), l = [] ∨ ∃ a b, l = a ++ [b]
  | [] => .inl rfl
  | x :: l => by
    rcases nil_or_snoc l with h | ⟨a, b, h⟩
    · exact .inr ⟨[], x, by rw [h]; rfl⟩
    · exact .inr ⟨x :: a, b, by rw [h]; rfl⟩
theorem NL.lastMut {H : Hp} {y r : Addr} {rs : List Addr} {tss : List (List Int)} {z z' : List Int} (N : NL H y (rs ++ [r]) (tss ++ [z])) (hy : y ∉ rs ++ [r]) (nd : (rs ++ [r]).Nodup) : NL (upd H r (.lst (vI z'))) y (rs ++ [r]) (tss ++ [z']) := by
  have l := N.l
  rw [List.length_append, List.length_append] at l
  simp only [List.length_singleton] at l
  refine ⟨by rw [upd_ne fun e => hy (by rw [e]; exact List.mem_append_right _ List.mem_cons_self)]; exact N.h, by rw [List.length_append, List.length_append]; simp only [List.length_singleton]; omega, fun i a ks h1 h2 => ?_⟩
  by_cases hi : i < rs.length
  · rw [List.getElem?_append_left hi] at h1
    rw [List.getElem?_append_left (by omega)] at h2
    have ne : a ≠ r := fun e => by
      have := (List.nodup_append.mp nd).2.2 a (List.mem_of_getElem? h1) r List.mem_cons_self
      exact this e
    rw [upd_ne ne]
    exact N.r i a ks (by rw [List.getElem?_append_left hi]; exact h1) (by rw [List.getElem?_append_left (by omega)]; exact h2)
  · have il := (List.getElem?_eq_some_iff.mp h1).1
    rw [List.length_append] at il
    simp only [List.length_singleton] at il
    have e : i = rs.length := by omega
    subst e
    rw [List.getElem?_append_right (Nat.le_refl _), Nat.sub_self] at h1
    rw [List.getElem?_append_right (by omega), show rs.length - tss.length = 0 by omega] at h2
    cases h1
    cases h2
    exact upd_same
theorem NL.more {H : Hp} {y r : Addr} {rs : List Addr} {tss : List (List Int)} {z : List Int} (N : NL H y rs tss) (hr : H r = some (.lst (vI z))) (hy : y ∉ rs) (ry : r ≠ y) : NL (upd H y (.lst ((rs ++ [r]).map V.ref))) y (rs ++ [r]) (tss ++ [z]) := by
  have l := N.l
  refine ⟨upd_same, by rw [List.length_append, List.length_append, l]; rfl, fun i a ks h1 h2 => ?_⟩
  by_cases hi : i < rs.length
  · rw [List.getElem?_append_left hi] at h1
    rw [List.getElem?_append_left (by omega)] at h2
    rw [upd_ne fun e => hy (by rw [← e]; exact List.mem_of_getElem? h1)]
    exact N.r i a ks h1 h2
  · have il := (List.getElem?_eq_some_iff.mp h1).1
    rw [List.length_append] at il
    simp only [List.length_singleton] at il
    have e : i = rs.length := by omega
    subst e
    rw [List.getElem?_append_right (Nat.le_refl _), Nat.sub_self] at h1
    rw [List.getElem?_append_right (by omega), show rs.length - tss.length = 0 by omega] at h2
    cases h1
    cases h2
    rw [upd_ne ry]
    exact hr
def sp_parted (K : PySem.W.Frag) : Sp := fun vs H Q _ => ∃ (l : Addr) (row : List Nat), vs = [.ref l] ∧ SqL K H l (vI (ofN row)) ∧ (∀ n ∈ row, n < 100) ∧ row.length ≤ 400 ∧ ∀ (y : Addr) (rs : List Addr) (vss : List (List Nat)) (H' : Hp), Same H H' → NL H' y rs (vss.map ofN) → Rns vss → vss.flatten = row → Q (.ref y) H'
theorem flat_len {vss : List (List Nat)} (h : ∀ v ∈ vss, v ≠ []) : vss.length ≤ vss.flatten.length := by
  induction vss with
  | nil => exact Nat.le_refl _
  | cons v r ih =>
    have h1 := List.length_pos_iff.mpr (h v List.mem_cons_self)
    have h2 := ih fun u hu => h u (List.mem_cons_of_mem _ hu)
    rw [List.flatten_cons, List.length_append, List.length_cons]
    omega
theorem ok_parted (T : Txt K mg t) : FnOk P w K mg base CX0 1 t.f_parted t.d_parted ["row"] (sp_parted K) := by
  refine T.parted.F.ok sc_parted (fun vs H Q E h => ?_) (fun cdv A outer s H vs Q E hr h => ?_)
  · obtain ⟨l, row, rfl, _⟩ := h
    rfl
  · obtain ⟨l, row, rfl, hS, hb, r400, k⟩ := h
    have hsz : sizeLine = 16777216 := sizeLine_eq
    refine ⟨_, (pss_cons (ps_set (i := 1) sc_parted.nd rfl (Or.inl rfl) (pe_lst pa_nil))
      (pss_cons (ps_for PassesOwn.never rfl (pi_listK (K := K) (pv 0)) (pg_name (i := 2) sc_parted.nd rfl (Or.inl rfl))
        (pss_one (ps_if (PW.pt (pw_and (pt_truthK (K := K) (pv 1) (fun _ => rfl)) (pw_and1 (pt_cmpR op_eq (pe_callB call_abs rfl T.b_abs bt_abs (pa_cons (pe_op op_sub (pv 2) (pe_ix (ix_listK (K := K)) (pe_ix (ix_listK (K := K)) (pv 1) (pe_un un_neg pe_int) (fun _ _ => rfl)) (pe_un un_neg pe_int) (fun _ _ => rfl))) pa_nil)) pe_int (nomark _)))))
          (pss_one (ps_expr (pe_bmK (K := K) PySem.F.plainAttrs_list PySem.F.slot_list_append PySem.F.type_list_append mt_append (pe_ix (ix_listK (K := K)) (pv 1) (pe_un un_neg pe_int) (fun _ _ => rfl)) (pa_cons (pv 2) pa_nil))))
          (pss_one (ps_expr (pe_bmK (K := K) PySem.F.plainAttrs_list PySem.F.slot_list_append PySem.F.type_list_append mt_append (pv 1) (pa_cons (pe_lst (pa_cons (pv 2) pa_nil)) pa_nil)))))))
      (pss_one (ps_ret (pv 1))))), ?_⟩
    refine ⟨Nat.zero_le _, fun y ny => ?_⟩
    have s1 : Same H (upd H y (.lst [])) := .upd ny
    have hy1 : (upd H y (.lst [])) y = some (.lst (([] : List Addr).map V.ref)) := upd_same
    generalize upd H y (.lst []) = H1 at s1 hy1 ⊢
    refine ⟨_, rfl, _, rfl, ⟨_, s1.seq hS⟩, for_list (K := K) (a := l) (xs := vI (ofN row)) (fun i σ H2 => ∃ (vss : List (List Nat)) (rs : List Addr) (v2 : Option V), σ = [some (.ref l), some (.ref y), v2] ∧ Same H H2 ∧ NL H2 y rs (vss.map ofN) ∧ (∀ r ∈ rs, H r = none) ∧ y ∉ rs ∧ rs.Nodup ∧ Rns vss ∧ vss.flatten = row.take i)
      ⟨[], [], none, rfl, s1, ⟨hy1, rfl, fun i a ks h => by simp at h⟩, fun r h => (by cases h), (by simp), List.nodup_nil, trivial, rfl⟩ (fun i σ H2 _ ⟨_, _, _, _, g, _⟩ => g.seq hS) ?_ ?_⟩
    · rintro i x σ H2 hx ⟨vss, rs, v2, rfl, s2, N, fr, yr, nd, R, fl⟩
      have il : i < row.length := by have := (List.getElem?_eq_some_iff.mp hx).1; rwa [oN_len] at this
      obtain rfl : x = .int (gt row i : Int) := by
        have e := oN_at (v := row) il
        unfold atI at e
        have : ixN (vI (ofN row)).length (i : Int) = some i := by
          have := ixN_of (n := (vI (ofN row)).length) (i := (i : Int)) (by omega) (by rw [oN_len]; omega)
          rwa [Int.toNat_natCast] at this
        rw [this] at e
        have e : (vI (ofN row))[i]? = some (.int (gt row i : Int)) := e
        rw [hx] at e
        exact Option.some.inj e
      have g100 := gt_lt hb il
      have tk := take_gt il
      have vl : vss.length ≤ 400 := by
        have := flat_len fun v hv => (rns_all R v hv).ne
        rw [fl, List.length_take] at this
        omega
      have rl : rs.length = vss.length := by have := N.l; rwa [List.length_map] at this
      have newrun : Run [gt row i] := ⟨by simp, fun i hi => by simp at hi, fun n hn => by rw [List.mem_singleton.mp hn]; exact g100⟩
      refine ⟨_, rfl, _, .inl ⟨_, SqL.of N.h, rfl⟩, ?_⟩
      have addN : ∀ r, H2 r = none → Rns (vss ++ [[gt row i]]) → (fun (i : Nat) (σ : St) (H2 : Hp) => ∃ (vss : List (List Nat)) (rs : List Addr) (v2 : Option V), σ = [some (.ref l), some (.ref y), v2] ∧ Same H H2 ∧ NL H2 y rs (vss.map ofN) ∧ (∀ r ∈ rs, H r = none) ∧ y ∉ rs ∧ rs.Nodup ∧ Rns vss ∧ vss.flatten = row.take i) (i + 1) [some (.ref l), some (.ref y), some (.int (gt row i : Int))] (upd (upd H2 r (.lst [.int (gt row i : Int)])) y (.lst (rs.map V.ref ++ [.ref r]))) := fun r nr R' => by
        have s3 : Same H2 (upd H2 r (.lst [.int (gt row i : Int)])) := .upd nr
        have ry : r ≠ y := fun e => by have := N.h; rw [← e, nr] at this; cases this
        have rn : r ∉ rs := fun z => by
          obtain ⟨j, hj, e⟩ := List.getElem_of_mem z
          have := N.r j r _ (by rw [List.getElem?_eq_getElem hj, e]) (List.getElem?_eq_getElem (by rw [← N.l]; exact hj))
          rw [nr] at this
          cases this
        have N3 := (N.same s3).more (r := r) (z := ofN [gt row i]) (by rw [upd_same]; rfl) yr ry
        refine ⟨vss ++ [[gt row i]], rs ++ [r], _, rfl, (s2.trans s3).over ny, ?_, fun r' hr' => ?_, fun z => ?_, List.nodup_append.mpr ⟨nd, by simp, fun a ha b hb e => ?_⟩, R', ?_⟩
        · have e1 : rs.map V.ref ++ [V.ref r] = (rs ++ [r]).map V.ref := by rw [List.map_append]; rfl
          have e2 : (vss ++ [[gt row i]]).map ofN = vss.map ofN ++ [ofN [gt row i]] := by rw [List.map_append]; rfl
          rw [e1, e2]
          exact N3
        · rcases List.mem_append.mp hr' with h | h
          · exact fr r' h
          · rw [List.mem_singleton.mp h]; exact s2.free nr
        · rcases List.mem_append.mp z with h | h
          · exact yr h
          · exact ry (List.mem_singleton.mp h).symm
        · rw [List.mem_singleton.mp hb] at e
          rw [e] at ha
          exact rn ha
        · rw [List.flatten_append, fl, tk]
          simp
      rcases nil_or_snoc vss with e | ⟨ws, v, e⟩
      · have er : rs = [] := List.length_eq_zero_iff.mp (by rw [rl, e]; rfl)
        have ee : (rs.map V.ref).isEmpty = true := by rw [er]; rfl
        rw [ee]
        refine iteF ?_
        refine iteF ?_
        refine ⟨_, rfl, .inl ⟨rfl, _, SqL.of N.h⟩, _, rfl, (by show 1 ≤ sizeLine; decide), fun r nr => ?_⟩
        refine ⟨_, _, _, rfl, rfl, (Same.upd nr) _ _ N.h, (by rw [List.length_map]; omega), ?_⟩
        exact addN r nr (by rw [e]; exact newrun)
      · obtain ⟨rs0, r, er⟩ : ∃ rs0 r, rs = rs0 ++ [r] := by
          rcases nil_or_snoc rs with z | ⟨a, b, z⟩
          · rw [z, e, List.length_append] at rl
            simp at rl
          · exact ⟨a, b, z⟩
        have Rv := rns_all R v (by rw [e]; exact List.mem_append_right _ List.mem_cons_self)
        have v0 := List.length_pos_iff.mpr Rv.ne
        have vrow : v.length ≤ row.length := by
          have h1 : v.length ≤ vss.flatten.length := by
            rw [e, List.flatten_append, List.length_append]
            simp
          rw [fl, List.length_take] at h1
          omega
        have ee : (rs.map V.ref).isEmpty = false := by rw [er, List.map_append]; simp
        rw [ee]
        refine iteT ?_
        have N' : NL H2 y (rs0 ++ [r]) (ws.map ofN ++ [ofN v]) := by
          have : (ws ++ [v]).map ofN = ws.map ofN ++ [ofN v] := by rw [List.map_append]; rfl
          rw [← er, ← this, ← e]
          exact N
        have rl0 : rs0.length = ws.length := by
          have := N'.l
          rw [List.length_append, List.length_append, List.length_map] at this
          simpa using this
        have hr2 : H2 r = some (.lst (vI (ofN v))) := N'.r rs0.length r (ofN v) (by rw [List.getElem?_append_right (Nat.le_refl _), Nat.sub_self]; rfl) (by rw [List.getElem?_append_right (by rw [List.length_map]; omega), List.length_map, rl0, Nat.sub_self]; rfl)
        have aL : atI (rs.map V.ref) (-1) = some (.ref r) := by rw [er, List.map_append]; exact at_last _ _
        have bL : atI (vI (ofN v)) (-1) = some (.int (gt v (v.length - 1) : Int)) := by
          rcases nil_or_snoc v with z | ⟨v1, m, z⟩
          · exact absurd z Rv.ne
          · have : vI (ofN v) = vI (ofN v1) ++ [.int (m : Int)] := by rw [z, ofN_app]; unfold vI; rw [List.map_append]; rfl
            rw [this, at_last]
            have : gt v (v.length - 1) = m := by
              rw [z, show (v1 ++ [m]).length - 1 = v1.length + 0 by rw [List.length_append]; simp, gt_right]
              rfl
            rw [this]
        refine ⟨_, rfl, _, rfl, _, rfl, _, _, _, _, rfl, rfl, SqL.of N.h, aL, _, rfl, _, _, _, _, rfl, rfl, SqL.of hr2, bL, _, _, rfl, rfl, _, rfl, rfl, _, rfl, ?_⟩
        by_cases u : gt row i = gt v (v.length - 1) + 1 ∨ gt v (v.length - 1) = gt row i + 1
        · refine iteDp (congrArg V.int (by show (if (gt row i : Int) - (gt v (v.length - 1) : Int) < 0 then -((gt row i : Int) - (gt v (v.length - 1) : Int)) else (gt row i : Int) - (gt v (v.length - 1) : Int)) = 1; split <;> omega)) ?_
          refine ⟨_, rfl, _, rfl, _, _, _, _, rfl, rfl, SqL.of N.h, aL, .inl ⟨rfl, _, SqL.of hr2⟩, _, rfl, _, _, _, rfl, rfl, hr2, (by rw [oN_len]; omega), ?_⟩
          have ea : vI (ofN v) ++ [.int (gt row i : Int)] = vI (ofN (v ++ [gt row i])) := by rw [ofN_app]; unfold vI; rw [List.map_append]; rfl
          rw [ea]
          have Rn := run_add Rv g100 u
          refine ⟨ws ++ [v ++ [gt row i]], rs, _, rfl, s2.over (fr r (by rw [er]; exact List.mem_append_right _ List.mem_cons_self)), ?_, fr, yr, nd, ?_, ?_⟩
          · have e2 : (ws ++ [v ++ [gt row i]]).map ofN = ws.map ofN ++ [ofN (v ++ [gt row i])] := by rw [List.map_append]; rfl
            rw [e2, er]
            exact N'.lastMut (by rw [← er]; exact yr) (by rw [← er]; exact nd)
          · rw [e] at R
            exact rns_ext R Rn (gt_left v0)
          · rw [e] at fl
            rw [List.flatten_append] at fl ⊢
            rw [tk, ← fl]
            simp
        · refine iteDn (fun z => u (by
            have z : (if (gt row i : Int) - (gt v (v.length - 1) : Int) < 0 then -((gt row i : Int) - (gt v (v.length - 1) : Int)) else (gt row i : Int) - (gt v (v.length - 1) : Int)) = 1 := V.int.inj z
            split at z <;> omega)) ?_
          refine ⟨_, rfl, .inl ⟨rfl, _, SqL.of N.h⟩, _, rfl, (by show 1 ≤ sizeLine; decide), fun r' nr' => ?_⟩
          refine ⟨_, _, _, rfl, rfl, (Same.upd nr') _ _ N.h, (by rw [List.length_map]; omega), ?_⟩
          refine addN r' nr' ?_
          rw [e] at R ⊢
          exact rns_snoc R newrun u
    · rintro σ H2 ⟨vss, rs, v2, rfl, s2, N, fr, yr, nd, R, fl⟩
      rw [oN_len, List.take_length] at fl
      exact ⟨_, rfl, k y rs vss H2 s2 N R fl⟩
theorem more_flat : ∀ (r : List (List Nat)), ((r.map pathT).map fun y => [32] ++ y).flatten = more r
  | [] => rfl
  | p :: r => by
    rw [List.map_cons, List.map_cons, List.flatten_cons, more_flat r, more]
    rfl
theorem join_rows (pss : List (List Nat)) : Txt.join (tx [32]) ((pss.map pathT).map tx) = tx (rT pss) := by
  cases pss with
  | nil => simp [Txt.join, Builtin.Str.glued, tx, Str.empty, rT]
  | cons p r =>
    rw [List.map_cons, tx_joinS, more_flat]
    rfl
theorem cP_le {p : List Nat} (h : ∀ n ∈ p, n < 100) : cP p ≤ 3 * p.length := by
  induction p with
  | nil => exact Nat.le_refl _
  | cons n r ih =>
    have h1 := (dec_is (h n List.mem_cons_self)).l2
    have h2 := ih fun m hm => h m (List.mem_cons_of_mem _ hm)
    show (dec n).length + 1 + cP r ≤ 3 * (r.length + 1)
    omega
theorem shown_sum {vss : List (List Nat)} (h : ∀ v ∈ vss, Run v) : ((((vss.map stp).map pathT).map tx).map (·.length)).sum ≤ 6 * vss.flatten.length := by
  induction vss with
  | nil => exact Nat.le_refl _
  | cons v r ih =>
    have R := h v List.mem_cons_self
    obtain ⟨_, ne, bd, le⟩ := stp_num R
    have h1 := pathT_len1 ne
    have h2 := cP_le bd
    have h3 := ih fun u hu => h u (List.mem_cons_of_mem _ hu)
    rw [List.map_cons, List.map_cons, List.map_cons, List.map_cons, List.sum_cons, tx_len, List.flatten_cons, List.length_append]
    omega
def sp_shown (K : PySem.W.Frag) : Sp := fun vs H Q _ => ∃ (l : Addr) (row : List Nat), vs = [.ref l] ∧ SqL K H l (vI (ofN row)) ∧ (∀ n ∈ row, n < 100) ∧ row.length ≤ 400 ∧ ∀ (vss : List (List Nat)) (H' : Hp), Same H H' → Rns vss → vss.flatten = row → Q (.str (tx (rT (vss.map stp)))) H'
theorem ok_shown (T : Txt K mg t) : FnOk P w K mg base CX0 3 t.f_shown t.d_shown ["row"] (sp_shown K) := by
  have G_parted : FnOk P w K mg base CX0 1 t.f_parted t.d_parted _ _ := ok_parted T
  have G_written_path : FnOk P w K mg base CX0 2 t.f_written_path t.d_written_path _ _ := ok_written_path T
  refine T.shown.F.ok sc_shown (fun vs H Q E h => ?_) (fun cdv A outer s H vs Q E hr h => ?_)
  · obtain ⟨l, row, rfl, _⟩ := h
    rfl
  · obtain ⟨l, row, rfl, hS, hb, r400, k⟩ := h
    have hsz : sizeLine = 16777216 := sizeLine_eq
    refine ⟨_, (pss_one (ps_ret (pe_bmK (K := K) PySem.F.plainAttrs_str PySem.F.slot_str_join PySem.F.type_str_join (mt_joinK (K := K)) pe_str (pa_cons (pe_comp (CompOk.mk (caps := []) (Nc := ["path"]) rfl (by decide +kernel) (by decide +kernel) (comp_fr (sc0 := defScope s_shown) rfl (by decide +kernel)) rfl rfl rfl (by decide +kernel) (fun _ _ h => by simp at h)) rfl (pi_listK (K := K) (pe_call (G_parted.mono (by decide)) hr rfl T.parted.m T.parted.F.kp T.parted.b .nil pass0 (pa_cons (pv 0) pa_nil))) (fun _ _ _ _ _ => .nil) (fun _ _ _ _ _ => (pe_call (G_written_path.mono (by decide)) hr rfl T.written_path.m T.written_path.F.kp T.written_path.b .nil pass0 (pa_cons (pv 0) pa_nil)))) pa_nil)))), ?_⟩
    refine ⟨rfl, _, rfl, l, row, rfl, hS, hb, r400, fun y rs vss H1 s1 N R fl => ?_⟩
    have all := rns_all R
    have vl : vss.length ≤ 400 := by
      have := flat_len fun v hv => (all v hv).ne
      rw [fl] at this
      omega
    have rl : rs.length = vss.length := by have := N.l; rwa [List.length_map] at this
    have vle : ∀ v ∈ vss, v.length ≤ 400 := fun v hv => by
      have : v.length ≤ vss.flatten.length := by
        obtain ⟨a, b, e⟩ := List.append_of_mem hv
        rw [e, List.flatten_append, List.flatten_cons, List.length_append, List.length_append]
        omega
      rw [fl] at this
      omega
    refine ⟨_, rfl, ⟨_, SqL.of N.h⟩, comp_list (K := K) (a := y) (xs := rs.map V.ref) (fun i ys H2 => Same H1 H2 ∧ ys = vS (((vss.take i).map stp).map pathT)) ⟨.refl _, rfl⟩ ?_ ?_ ?_ ?_⟩
    · rintro i ys H2 hi ⟨s2, rfl⟩
      refine ⟨SqL.of (s2 _ _ N.h), ?_⟩
      rw [vS_len, List.length_map, List.length_map, List.length_take]
      omega
    · rw [List.length_map]; omega
    · rintro i x ys H2 hi hx ⟨s2, rfl⟩
      obtain ⟨r, ks, rfl, h1, h2, h3⟩ := (N.same s2).at hx
      rw [List.getElem?_map] at h2
      cases hv : vss[i]? with
      | none => rw [hv] at h2; cases h2
      | some v =>
        rw [hv] at h2
        obtain rfl : ofN v = ks := Option.some.inj h2
        have vm := List.mem_of_getElem? hv
        refine CTurn.no ?_
        refine ⟨_, rfl, r, v, rfl, SqL.of h3, all v vm, vle v vm, fun H3 s3 => ?_⟩
        dsimp only
        rw [vS_app]
        refine CN.of hi ⟨s2.trans s3, ?_⟩
        rw [List.take_add_one, hv, List.map_append, List.map_append]
        rfl
    · rintro ys H2 q ⟨s2, rfl⟩ hq
      rw [List.length_map, rl, List.take_length]
      refine ⟨_, _, ((vss.map stp).map pathT).map tx, rfl, rfl, SqL.of (by rw [upd_same, vS_map]), ?_, ?_⟩
      · have := shown_sum all
        have d1 : Str.length " " = 1 := by decide +kernel
        rw [fl] at this
        rw [List.length_map, List.length_map, List.length_map, d1]
        omega
      · rw [show ((" " : Str)) = tx [32] from by decide +kernel, join_rows]
        exact k vss _ ((s1.trans s2).new hq) R fl
theorem rns_uniq : ∀ {vss wss : List (List Nat)}, Rns vss → Rns wss → vss.flatten = wss.flatten → vss = wss
  | [], [], _, _, _ => rfl
  | [], w :: r, _, R, e => by
    have := (rns_all R w List.mem_cons_self).ne
    rw [List.flatten_nil, List.flatten_cons] at e
    exact absurd (List.append_eq_nil_iff.mp e.symm).1 this
  | v :: r, [], R, _, e => by
    have := (rns_all R v List.mem_cons_self).ne
    rw [List.flatten_nil, List.flatten_cons] at e
    exact absurd (List.append_eq_nil_iff.mp e).1 this
  | v :: r, w :: q, R, S, e => by
    have Rv := rns_all R v List.mem_cons_self
    have Sw := rns_all S w List.mem_cons_self
    rw [List.flatten_cons, List.flatten_cons] at e
    have key : ∀ {v w : List Nat} {r q : List (List Nat)}, Rns (v :: r) → Rns (w :: q) → v ++ r.flatten = w ++ q.flatten → ¬ v.length < w.length := fun {v w r q} R S e lt => by
      have Rv := rns_all R v List.mem_cons_self
      have Sw := rns_all S w List.mem_cons_self
      have vp : 0 < v.length := List.length_pos_iff.mpr Rv.ne
      match r, R with
      | [], R =>
        have := congrArg List.length e
        rw [List.flatten_nil, List.append_nil, List.length_append] at this
        omega
      | v2 :: r2, R =>
        have V2 := rns_all R v2 (by simp)
        have p2 : 0 < v2.length := List.length_pos_iff.mpr V2.ne
        have h := Sw.u (v.length - 1) (by omega)
        rw [← un_left (r := q.flatten) (by omega), ← e] at h
        unfold un at h
        have a1 : gt (v ++ (v2 :: r2).flatten) (v.length - 1) = gt v (v.length - 1) := gt_left (by omega)
        have a2 : gt (v ++ (v2 :: r2).flatten) (v.length - 1 + 1) = gt v2 0 := by rw [show v.length - 1 + 1 = v.length + 0 by omega, gt_right, List.flatten_cons, gt_left p2]
        rw [a1, a2] at h
        exact R.2.1 h
    have n1 := key R S e
    have n2 := key S R e.symm
    have hv := List.append_inj e (by omega)
    have R' : Rns r := match r, R with
      | [], _ => trivial
      | _ :: _, R => R.2.2
    have S' : Rns q := match q, S with
      | [], _ => trivial
      | _ :: _, S => S.2.2
    rw [hv.1, rns_uniq R' S' hv.2]
open Classical in
noncomputable def prt (row : List Nat) : List (List Nat) := if h : ∃ vss, Rns vss ∧ vss.flatten = row then h.choose else []
theorem prt_is {row : List Nat} {vss : List (List Nat)} (R : Rns vss) (e : vss.flatten = row) : prt row = vss := by
  have h : ∃ vss, Rns vss ∧ vss.flatten = row := ⟨vss, R, e⟩
  unfold prt
  rw [dif_pos h]
  exact rns_uniq h.choose_spec.1 R (h.choose_spec.2.trans e.symm)
noncomputable def shT (row : List Nat) : List Nat := rT ((prt row).map stp)
structure Shn (row : List Nat) : Prop where
  r : Rns (prt row)
  e : (prt row).flatten = row
def sp_shw (K : PySem.W.Frag) : Sp := fun vs H Q _ => ∃ (l : Addr) (row : List Nat), vs = [.ref l] ∧ SqL K H l (vI (ofN row)) ∧ (∀ n ∈ row, n < 100) ∧ row.length ≤ 400 ∧ ∀ H', Same H H' → Shn row → Q (.str (tx (shT row))) H'
theorem ok_shw (T : Txt K mg t) : FnOk P w K mg base CX0 3 t.f_shown t.d_shown ["row"] (sp_shw K) := (ok_shown T).imp fun vs H Q E ⟨l, row, e, hS, hb, hl, k⟩ => ⟨l, row, e, hS, hb, hl, fun vss H' s R fl => by
  have p := prt_is R fl
  have := k H' s ⟨by rw [p]; exact R, by rw [p]; exact fl⟩
  unfold shT at this
  rwa [p] at this⟩
theorem signs_dec {n : Nat} (h : n < 100) : ∀ c ∈ dec n, c ≠ 47 ∧ c ≠ 44 := fun c hc => by have := (dec_is h).dg c hc; omega
theorem signs_tails : ∀ {r : List Nat}, (∀ n ∈ r, n < 100) → ∀ c ∈ tails r, c ≠ 47 ∧ c ≠ 44
  | [], _, c, hc => by cases hc
  | n :: r, h, c, hc => by
    rw [tails] at hc
    rcases List.mem_cons.mp hc with z | z
    · omega
    · rcases List.mem_append.mp z with z | z
      · exact signs_dec (h n List.mem_cons_self) c z
      · exact signs_tails (fun m hm => h m (List.mem_cons_of_mem _ hm)) c z
theorem signs_path {p : List Nat} (h : ∀ n ∈ p, n < 100) : ∀ c ∈ pathT p, c ≠ 47 ∧ c ≠ 44 := fun c hc => by
  cases p with
  | nil => cases hc
  | cons n r =>
    rcases List.mem_append.mp hc with z | z
    · exact signs_dec (h n List.mem_cons_self) c z
    · exact signs_tails (fun m hm => h m (List.mem_cons_of_mem _ hm)) c z
theorem signs_mor {p : It → Prop} (k : ∀ x, p x → ∀ c ∈ x.tx, c ≠ 47 ∧ c ≠ 44) : ∀ {xs : List It}, (∀ x ∈ xs, p x) → ∀ c ∈ morX xs, c ≠ 47 ∧ c ≠ 44
  | [], _, c, hc => by rw [morX] at hc; cases hc
  | x :: xs, h, c, hc => by
    rw [morX] at hc
    rcases List.mem_cons.mp hc with z | z
    · omega
    · rcases List.mem_append.mp z with z | z
      · exact k x (h x List.mem_cons_self) c z
      · exact signs_mor k (fun y hy => h y (List.mem_cons_of_mem _ hy)) c z
theorem signs_row {p : It → Prop} (k : ∀ x, p x → ∀ c ∈ x.tx, c ≠ 47 ∧ c ≠ 44) {xs : List It} (h : ∀ x ∈ xs, p x) : ∀ c ∈ rowX xs, c ≠ 47 ∧ c ≠ 44 := fun c hc => by
  cases xs with
  | nil => rw [rowX] at hc; cases hc
  | cons x xs =>
    rw [rowX] at hc
    rcases List.mem_append.mp hc with z | z
    · exact k x (h x List.mem_cons_self) c z
    · exact signs_mor k (fun y hy => h y (List.mem_cons_of_mem _ hy)) c z
theorem signs_it : ∀ (d : Nat) (x : It), Gd d x → ∀ c ∈ x.tx, c ≠ 47 ∧ c ≠ 44
  | d, .pth ss, h, c, hc => by
    rw [Gd] at h
    obtain ⟨n0, ns, rfl, hb, _⟩ := h
    rw [It.tx, toN_ofN] at hc
    exact signs_path hb c hc
  | 0, .tms _ _, h, c, hc => by rw [Gd] at h; exact h.elim
  | d + 1, .tms n xs, h, c, hc => by
    rw [Gd] at h
    obtain ⟨h1, h2, h3, h4, h5⟩ := h
    rw [It.tx] at hc
    rcases List.mem_append.mp hc with z | z
    · exact signs_dec (by omega) c z
    · rcases List.mem_cons.mp z with z | z
      · omega
      · rcases List.mem_cons.mp z with z | z
        · omega
        · rcases List.mem_append.mp z with z | z
          · exact signs_row (signs_it d) h5 c z
          · have := List.mem_singleton.mp z; omega
def Wr (u : List Nat) (ks : List Int) : Prop := ∃ xs, Row u xs ∧ szs xs ≤ 400 ∧ nus xs = ks
theorem Wr.signs {u : List Nat} {ks : List Int} (h : Wr u ks) : ∀ c ∈ u, c ≠ 47 ∧ c ≠ 44 := by
  obtain ⟨xs, R, _, _⟩ := h
  rw [R.tx]
  exact signs_row (signs_it 8) R.gd
def sp_unW : Sp := fun vs H Q _ => ∃ (u : List Nat) (ks : List Int), vs = [.str (tx u)] ∧ Wr u ks ∧ ∀ q H', Same H H' → H q = none → H' q = some (.lst (vI ks)) → Q (.ref q) H'
theorem ok_unW (T : Txt K mg t) : FnOk P w K mg base CX0 41 t.f_unfolded t.d_unfolded ["text"] sp_unW := (ok_unfolded T).imp fun vs H Q E ⟨u, ks, e, ⟨xs, R, hs, en⟩, k⟩ => ⟨u, xs, e, R, hs, fun q H' s nq hq => k q H' s nq (en ▸ hq)⟩
def pIt (p : List Nat) : It := .pth (ofN p)
theorem mor_pIt : ∀ pss : List (List Nat), morX (pss.map pIt) = more pss
  | [] => by rw [List.map_nil, morX]; rfl
  | p :: r => by
    rw [List.map_cons, morX, mor_pIt r, more]
    unfold pIt
    rw [It.tx, toN_ofN]
theorem row_pIt (pss : List (List Nat)) : rowX (pss.map pIt) = rT pss := by
  cases pss with
  | nil => rw [List.map_nil, rowX]; rfl
  | cons p r =>
    rw [List.map_cons, rowX, mor_pIt]
    unfold pIt
    rw [It.tx, toN_ofN]
    rfl
theorem nus_pIt (pss : List (List Nat)) : nus (pss.map pIt) = nT pss := by
  rw [nus_map, List.map_map]
  unfold nT
  rw [List.map_map]
  congr 1
theorem gd_pIt {d : Nat} {p : List Nat} (h : Okp p) : Gd d (pIt p) := by
  unfold pIt
  cases p with
  | nil => exact absurd h.ne (by decide)
  | cons n r =>
    cases d with
    | zero => rw [Gd]; exact ⟨n, r, rfl, h.bd, by have := h.le; simp at this; omega⟩
    | succ d => rw [Gd]; exact ⟨n, r, rfl, h.bd, by have := h.le; simp at this; omega⟩
theorem wr_paths {pss : List (List Nat)} (h : ∀ p ∈ pss, Okp p) (hl : pss.length ≤ 900) (hu : (rT pss).length ≤ 1000000) (hn : (nT pss).length ≤ 400) : Wr (rT pss) (nT pss) := by
  have gd : ∀ x ∈ pss.map pIt, Gd 8 x := fun x hx => by
    obtain ⟨p, hp, rfl⟩ := List.mem_map.mp hx
    exact gd_pIt (h p hp)
  refine ⟨pss.map pIt, ⟨by rw [List.length_map]; exact hl, gd, (row_pIt pss).symm, hu⟩, ?_, nus_pIt pss⟩
  have := len_nus (pss.map pIt) (Sms.of_all fun x hx => Gd.sm 8 x (gd x hx))
  rw [nus_pIt] at this
  omega
theorem Shn.okp {row : List Nat} (S : Shn row) (hl : row.length ≤ 400) : (∀ p ∈ (prt row).map stp, Okp p) ∧ (prt row).length ≤ 400 := by
  have all := rns_all S.r
  have vl : (prt row).length ≤ 400 := by
    have := flat_len fun v hv => (all v hv).ne
    rw [S.e] at this
    omega
  refine ⟨fun p hp => ?_, vl⟩
  obtain ⟨v, hv, rfl⟩ := List.mem_map.mp hp
  obtain ⟨_, ne, bd, le⟩ := stp_num (all v hv)
  have : v.length ≤ (prt row).flatten.length := by
    obtain ⟨a, b, e⟩ := List.append_of_mem hv
    rw [e, List.flatten_append, List.flatten_cons, List.length_append, List.length_append]
    omega
  rw [S.e] at this
  exact ⟨List.length_pos_iff.mpr ne, by omega, bd⟩
theorem rT_short : ∀ {pss : List (List Nat)}, (∀ p ∈ pss, Okp p) → (rT pss).length ≤ 3 * pss.flatten.length := fun {pss} h => by
  have key : ∀ {r : List (List Nat)}, (∀ p ∈ r, Okp p) → cT r ≤ 3 * r.flatten.length := fun {r} h => by
    induction r with
    | nil => exact Nat.le_refl _
    | cons p r ih =>
      have h1 := cP_le (h p List.mem_cons_self).bd
      have h2 := ih fun q hq => h q (List.mem_cons_of_mem _ hq)
      unfold cT at h2 ⊢
      rw [List.map_cons, List.sum_cons, List.flatten_cons, List.length_append]
      omega
  by_cases c : pss = []
  · rw [c]; exact Nat.zero_le _
  · have := rT_len c fun p hp => List.length_pos_iff.mp (h p hp).ne
    have := key h
    omega
theorem stp_sum {vss : List (List Nat)} (h : ∀ v ∈ vss, Run v) : (vss.map stp).flatten.length ≤ 2 * vss.flatten.length := by
  induction vss with
  | nil => exact Nat.le_refl _
  | cons v r ih =>
    have h1 := (stp_num (h v List.mem_cons_self)).2.2.2
    have h2 := ih fun u hu => h u (List.mem_cons_of_mem _ hu)
    rw [List.map_cons, List.flatten_cons, List.flatten_cons, List.length_append, List.length_append]
    omega
theorem Shn.len {row : List Nat} (S : Shn row) (hl : row.length ≤ 400) : (shT row).length ≤ 6 * row.length := by
  have h1 := rT_short (S.okp hl).1
  have h2 := stp_sum (rns_all S.r)
  rw [S.e] at h2
  unfold shT
  omega
theorem Shn.num {row : List Nat} (S : Shn row) : nT ((prt row).map stp) = ofN row := by rw [rns_nT S.r, S.e]
theorem ofN_len (l : List Nat) : (ofN l).length = l.length := by unfold ofN; rw [List.length_map]
theorem Shn.wr {row : List Nat} (S : Shn row) (hl : row.length ≤ 400) : Wr (shT row) (ofN row) := by
  have h1 := S.okp hl
  have h2 := S.len hl
  have h3 := S.num
  have := wr_paths h1.1 (by rw [List.length_map]; omega) (by unfold shT at h2; omega) (by rw [h3, ofN_len]; exact hl)
  rw [h3] at this
  exact this
theorem Shn.times {row : List Nat} (S : Shn row) (hl : row.length ≤ 400) (ne : row ≠ []) : Wr ([49, 42, 40] ++ shT row ++ [41]) (ofN row) := by
  have h1 := S.okp hl
  have h2 := S.len hl
  have h3 := S.num
  have gd : ∀ x ∈ ((prt row).map stp).map pIt, Gd 7 x := fun x hx => by
    obtain ⟨p, hp, rfl⟩ := List.mem_map.mp hx
    exact gd_pIt (h1.1 p hp)
  have gx : Gd 8 (.tms 1 (((prt row).map stp).map pIt)) := by
    rw [Gd]
    refine ⟨by decide, by decide, fun z => ?_, by rw [List.length_map, List.length_map]; omega, gd⟩
    have : (prt row) = [] := by
      have := congrArg List.length z
      rw [List.length_map, List.length_map] at this
      exact List.length_eq_zero_iff.mp this
    have e := S.e
    rw [this] at e
    exact ne e.symm
  have nu : nus [It.tms 1 (((prt row).map stp).map pIt)] = ofN row := by
    rw [nus_map, List.map_cons, List.map_nil, List.flatten_cons, List.flatten_nil, List.append_nil, It.nu, nus_pIt, h3]
    simp
  have gx' : ∀ x ∈ [It.tms 1 (((prt row).map stp).map pIt)], Gd 8 x := fun x hx => by rw [List.mem_singleton.mp hx]; exact gx
  refine ⟨[.tms 1 (((prt row).map stp).map pIt)], ⟨by simp, gx', ?_, ?_⟩, ?_, nu⟩
  · rw [rowX, morX, It.tx, row_pIt, List.append_nil, show dec 1 = [49] from by decide +kernel]
    unfold shT
    simp
  · simp only [List.length_append, List.length_cons, List.length_nil]
    omega
  · have := len_nus _ (Sms.of_all fun x hx => Gd.sm 8 x (gx' x hx))
    rw [nu, ofN_len] at this
    omega
theorem z0 (i : Nat) : (0 + (i : Int)).toNat = i := by omega
theorem kit_same (K : PySem.W.Frag) (n : String) : PySem.W.kitOne K (.type n) (.type n) = some true := if_pos (beq_self_eq_true _)
def sp_ccount : Sp := fun vs H Q _ => ∃ c : Nat, vs = [.int (c : Int)] ∧ 1 ≤ c ∧ c ≤ 40 ∧ Q .non H
theorem ok_check_count (T : Txt K mg t) : FnOk P w K mg base CX0 1 t.f_check_count t.d_check_count ["count"] sp_ccount := by
  refine T.check_count.F.ok sc_check_count (fun vs H Q E h => ?_) (fun cdv A outer s H vs Q E hr h => ?_)
  · obtain ⟨c, rfl, _⟩ := h
    rfl
  · obtain ⟨c, rfl, h1, h2, k⟩ := h
    refine ⟨_, (pss_one (ps_if (PW.pt (pw_or (pt_cmpR op_lt (pv 0) pe_int (nomark _)) (pw_or1 (pt_cmpR op_gt (pv 0) (pe_glob (v := .int 40) rfl T.c_MOST_STRANDS.choose_spec ⟨_, rfl⟩) (nomark _)))))
        (pss_one ps_never)
        pss_nil)), ?_⟩
    refine ⟨_, rfl, _, _, rfl, rfl, _, rfl, ?_⟩
    refine iteDn (by omega) ?_
    refine ⟨_, rfl, _, _, rfl, rfl, _, rfl, ?_⟩
    exact iteDn (by omega) k
def sp_cshaft : Sp := fun vs H Q _ => ∃ v : Int, vs = [.int v] ∧ 0 ≤ v ∧ v < 40 ∧ Q .non H
theorem ok_check_shaft (T : Txt K mg t) : FnOk P w K mg base CX0 1 t.f_check_shaft t.d_check_shaft ["shaft"] sp_cshaft := by
  refine T.check_shaft.F.ok sc_check_shaft (fun vs H Q E h => ?_) (fun cdv A outer s H vs Q E hr h => ?_)
  · obtain ⟨v, rfl, _⟩ := h
    rfl
  · obtain ⟨v, rfl, h1, h2, k⟩ := h
    refine ⟨_, (pss_one (ps_if (PW.pt (pw_or (pt_cmpR op_lt (pv 0) pe_int (nomark _)) (pw_or1 (pt_cmpR op_ge (pv 0) (pe_glob (v := .int 40) rfl T.c_MOST_SHAFTS.choose_spec ⟨_, rfl⟩) (nomark _)))))
        (pss_one ps_never)
        pss_nil)), ?_⟩
    refine ⟨_, rfl, _, _, rfl, rfl, _, rfl, ?_⟩
    refine iteDn (by omega) ?_
    refine ⟨_, rfl, _, _, rfl, rfl, _, rfl, ?_⟩
    exact iteDn (by omega) k
def sp_ctie : Sp := fun vs H Q _ => ∃ (a : Addr) (ks : List Int), vs = [.ref a] ∧ H a = some (.lst (vI ks)) ∧ Rs ks ∧ ks.length ≤ 1000 ∧ Q .non H
theorem ok_check_tie (T : Txt K mg t) : FnOk P w K mg base CX0 2 t.f_check_tie t.d_check_tie ["tie"] sp_ctie := by
  have G_check_shaft : FnOk P w K mg base CX0 1 t.f_check_shaft t.d_check_shaft _ _ := ok_check_shaft T
  refine T.check_tie.F.ok sc_check_tie (fun vs H Q E h => ?_) (fun cdv A outer s H vs Q E hr h => ?_)
  · obtain ⟨a, ks, rfl, _⟩ := h
    rfl
  · obtain ⟨a, ks, rfl, ha, R, hl, k⟩ := h
    refine ⟨_, (pss_one (ps_for PassesOwn.never rfl (pi_range1 rfl T.b_range (pa_cons (pe_callB (call_len_seqK (K := K)) rfl T.b_len bt_len (pa_cons (pv 0) pa_nil)) pa_nil)) (pg_name (i := 1) sc_check_tie.nd rfl (Or.inl rfl))
        (pss_cons (ps_expr (pe_call (G_check_shaft.mono (by decide)) hr rfl T.check_shaft.m T.check_shaft.F.kp T.check_shaft.b .nil pass0 (pa_cons (pe_ix (ix_listK (K := K)) (pv 0) (pv 1) (fun _ _ => rfl)) pa_nil)))
        (pss_one (ps_if (PW.pt (pw_and (pt_cmpR op_gt (pv 1) pe_int (nomark _)) (pw_and1 (pt_cmpR op_le (pe_ix (ix_listK (K := K)) (pv 0) (pv 1) (fun _ _ => rfl)) (pe_ix (ix_listK (K := K)) (pv 0) (pe_op op_sub (pv 1) pe_int) (fun _ _ => rfl)) (nomark _)))))
          (pss_one ps_never)
          pss_nil))))), ?_⟩
    refine ⟨_, rfl, _, _, rfl, .inl (SqL.of ha), _, rfl, (by omega), (by rw [vI_len]; omega), ?_⟩
    rw [Int.toNat_natCast, vI_len]
    refine for_range (lo := 0) (n := ks.length) (fun i σ H2 => ∃ v, σ = [some (.ref a), v] ∧ H2 = H) ⟨none, rfl, rfl⟩ ?_ ?_
    · rintro i σ H2 hi ⟨v, rfl, rfl⟩
      have e1 : atI (vI ks) (0 + (i : Int)) = some (.int ks[i]) := atI_of (by omega) (by rw [z0]; exact vI_get (List.getElem?_eq_getElem hi))
      have b := R.2 _ (List.getElem_mem hi)
      refine ⟨_, rfl, _, rfl, _, _, _, _, rfl, rfl, SqL.of ha, e1, _, rfl, b.1, b.2, ?_⟩
      refine ⟨_, rfl, _, _, rfl, rfl, _, rfl, ?_⟩
      by_cases h0 : i = 0
      · subst h0
        refine iteDn (by omega) ?_
        exact iteF ⟨_, rfl, rfl⟩
      · have hi1 : i - 1 < ks.length := by omega
        have e2 : atI (vI ks) (0 + (i : Int) - 1) = some (.int ks[i - 1]) := atI_of (by omega) (by rw [show (0 + (i : Int) - 1).toNat = i - 1 by omega]; exact vI_get (List.getElem?_eq_getElem hi1))
        have lt := R.1 (i - 1) ks[i - 1] ks[i] (List.getElem?_eq_getElem hi1) (by rw [show i - 1 + 1 = i by omega]; exact List.getElem?_eq_getElem hi)
        refine iteDp (by omega) ?_
        refine ⟨_, rfl, _, rfl, _, _, _, _, rfl, rfl, SqL.of ha, e1, _, rfl, _, rfl, _, _, rfl, rfl, _, _, _, _, rfl, rfl, SqL.of ha, e2, _, _, rfl, rfl, _, rfl, ?_⟩
        refine iteDn (by omega) ?_
        exact ⟨_, rfl, rfl⟩
    · rintro σ H2 ⟨v, rfl, rfl⟩
      exact k
theorem rs40 {ks : List Int} (R : Rs ks) : ks.length ≤ 40 := by
  have step : ∀ (i : Nat) (a : Int), ks[i]? = some a → (i : Int) ≤ a := by
    intro i
    induction i with
    | zero => exact fun a h => (R.2 a (List.mem_of_getElem? h)).1
    | succ i ih =>
      intro a h
      have hi : i < ks.length := by have := (List.getElem?_eq_some_iff.mp h).1; omega
      have := ih ks[i] (List.getElem?_eq_getElem hi)
      have := R.1 i ks[i] a (List.getElem?_eq_getElem hi) h
      omega
  by_cases h : ks.length = 0
  · omega
  · have hi : ks.length - 1 < ks.length := by omega
    have h1 := step (ks.length - 1) _ (List.getElem?_eq_getElem hi)
    have h2 := R.2 _ (List.getElem_mem hi)
    omega
theorem rs_short {ks : List Int} (R : Rs ks) : ks.length ≤ 1000 := Nat.le_trans (rs40 R) (by decide)
def sp_csetting : Sp := fun vs H Q _ => ∃ (x y : Addr) (rs : List Addr) (th : List Int) (tss : List (List Int)) (tr : List Int), vs = [.ref x, .ref y] ∧ H x = some (.lst (vI th)) ∧ NL H y rs tss ∧ Ft th tss tr ∧ Q .non H
theorem ok_check_setting (T : Txt K mg t) : FnOk P w K mg base CX0 3 t.f_check_setting t.d_check_setting ["threading", "ties"] sp_csetting := by
  have G_check_count : FnOk P w K mg base CX0 1 t.f_check_count t.d_check_count _ _ := ok_check_count T
  have G_check_shaft : FnOk P w K mg base CX0 1 t.f_check_shaft t.d_check_shaft _ _ := ok_check_shaft T
  have G_check_tie : FnOk P w K mg base CX0 2 t.f_check_tie t.d_check_tie _ _ := ok_check_tie T
  refine T.check_setting.F.ok sc_check_setting (fun vs H Q E h => ?_) (fun cdv A outer s H vs Q E hr h => ?_)
  · obtain ⟨x, y, rs, th, tss, tr, rfl, _⟩ := h
    rfl
  · obtain ⟨x, y, rs, th, tss, tr, rfl, hx, N, F, k⟩ := h
    refine ⟨_, (pss_cons (ps_expr (pe_call (G_check_count.mono (by decide)) hr rfl T.check_count.m T.check_count.F.kp T.check_count.b .nil pass0 (pa_cons (pe_callB (call_len_seqK (K := K)) rfl T.b_len bt_len (pa_cons (pv 0) pa_nil)) pa_nil)))
      (pss_cons (ps_expr (pe_call (G_check_count.mono (by decide)) hr rfl T.check_count.m T.check_count.F.kp T.check_count.b .nil pass0 (pa_cons (pe_callB (call_len_seqK (K := K)) rfl T.b_len bt_len (pa_cons (pv 1) pa_nil)) pa_nil)))
      (pss_cons (ps_for PassesOwn.never rfl (pi_listK (K := K) (pv 0)) (pg_name (i := 2) sc_check_setting.nd rfl (Or.inl rfl))
        (pss_one (ps_expr (pe_call (G_check_shaft.mono (by decide)) hr rfl T.check_shaft.m T.check_shaft.F.kp T.check_shaft.b .nil pass0 (pa_cons (pv 2) pa_nil)))))
      (pss_one (ps_for PassesOwn.never rfl (pi_listK (K := K) (pv 1)) (pg_name (i := 3) sc_check_setting.nd rfl (Or.inl rfl))
        (pss_one (ps_expr (pe_call (G_check_tie.mono (by decide)) hr rfl T.check_tie.m T.check_tie.F.kp T.check_tie.b .nil pass0 (pa_cons (pv 3) pa_nil))))))))), ?_⟩
    refine ⟨_, rfl, _, _, rfl, .inl (SqL.of hx), th.length, (by rw [vI_len] <;> rfl), F.m1, F.m40, ?_⟩
    refine ⟨_, rfl, _, _, rfl, .inl (SqL.of N.h), tss.length, (by rw [List.length_map, N.l] <;> rfl), F.t1, F.t40, ?_⟩
    refine ⟨_, rfl, _, rfl, ⟨_, SqL.of hx⟩, for_list (K := K) (a := x) (xs := vI th) (fun i σ H2 => ∃ v1 v2, σ = [some (.ref x), some (.ref y), v1, v2] ∧ H2 = H) ⟨none, none, rfl, rfl⟩ (fun i σ H2 _ ⟨_, _, _, e⟩ => e ▸ SqL.of hx) ?_ ?_⟩
    · rintro i xv σ H2 hxv ⟨v1, v2, rfl, rfl⟩
      obtain ⟨z, hz, rfl⟩ := vI_got hxv
      have b := F.hth z (List.mem_of_getElem? hz)
      exact ⟨_, rfl, z, rfl, b.1, b.2, _, _, rfl, rfl⟩
    · rintro σ H2 ⟨v1, v2, rfl, rfl⟩
      refine ⟨_, rfl, _, rfl, ⟨_, SqL.of N.h⟩, for_list (K := K) (a := y) (xs := rs.map V.ref) (fun i σ H3 => ∃ v1 v2, σ = [some (.ref x), some (.ref y), v1, v2] ∧ H3 = H2) ⟨v1, v2, rfl, rfl⟩ (fun i σ H3 _ ⟨_, _, _, e⟩ => e ▸ SqL.of N.h) ?_ ?_⟩
      · rintro i xv σ H3 hxv ⟨v1, v2, rfl, rfl⟩
        obtain ⟨r, ks, rfl, _, hks, hr'⟩ := N.at hxv
        have R := F.hti ks (List.mem_of_getElem? hks)
        exact ⟨_, rfl, r, ks, rfl, hr', R, rs_short R, _, _, rfl, rfl⟩
      · rintro σ H3 ⟨v1, v2, rfl, rfl⟩
        exact k
def sp_ctreading : Sp := fun vs H Q _ => ∃ (z : Addr) (th : List Int) (tss : List (List Int)) (tr : List Int), vs = [.ref z, .int (tss.length : Int)] ∧ H z = some (.lst (vI tr)) ∧ Ft th tss tr ∧ Q .non H
theorem ok_check_treading (T : Txt K mg t) : FnOk P w K mg base CX0 2 t.f_check_treading t.d_check_treading ["treading", "treadles"] sp_ctreading := by
  have G_check_count : FnOk P w K mg base CX0 1 t.f_check_count t.d_check_count _ _ := ok_check_count T
  refine T.check_treading.F.ok sc_check_treading (fun vs H Q E h => ?_) (fun cdv A outer s H vs Q E hr h => ?_)
  · obtain ⟨z, th, tss, tr, rfl, _⟩ := h
    rfl
  · obtain ⟨z, th, tss, tr, rfl, hz, F, k⟩ := h
    refine ⟨_, (pss_cons (ps_expr (pe_call (G_check_count.mono (by decide)) hr rfl T.check_count.m T.check_count.F.kp T.check_count.b .nil pass0 (pa_cons (pe_callB (call_len_seqK (K := K)) rfl T.b_len bt_len (pa_cons (pv 0) pa_nil)) pa_nil)))
      (pss_one (ps_for PassesOwn.never rfl (pi_listK (K := K) (pv 0)) (pg_name (i := 2) sc_check_treading.nd rfl (Or.inl rfl))
        (pss_one (ps_if (PW.pt (pw_or (pt_cmpR op_lt (pv 2) pe_int (nomark _)) (pw_or1 (pt_cmpR op_ge (pv 2) (pv 1) (nomark _)))))
          (pss_one ps_never)
          pss_nil))))), ?_⟩
    refine ⟨_, rfl, _, _, rfl, .inl (SqL.of hz), tr.length, (by rw [vI_len] <;> rfl), F.n1, F.n40, ?_⟩
    refine ⟨_, rfl, _, rfl, ⟨_, SqL.of hz⟩, for_list (K := K) (a := z) (xs := vI tr) (fun i σ H2 => ∃ v1, σ = [some (.ref z), some (.int (tss.length : Int)), v1] ∧ H2 = H) ⟨none, rfl, rfl⟩ (fun i σ H2 _ ⟨_, _, e⟩ => e ▸ SqL.of hz) ?_ ?_⟩
    · rintro i xv σ H2 hxv ⟨v1, rfl, rfl⟩
      obtain ⟨v, hv, rfl⟩ := vI_got hxv
      have b := F.htr v (List.mem_of_getElem? hv)
      refine ⟨_, rfl, _, _, rfl, rfl, _, rfl, ?_⟩
      refine iteDn (by omega) ?_
      refine ⟨_, rfl, _, rfl, _, _, rfl, rfl, _, rfl, ?_⟩
      refine iteDn (by omega) ?_
      exact ⟨_, rfl, rfl⟩
    · rintro σ H2 ⟨v1, rfl, rfl⟩
      exact k
def df (a b c : Addr) : List (Str × V) := [("threading", .ref a), ("ties", .ref b), ("treading", .ref c)]
theorem df_th (a b c : Addr) : (df a b c).lookup ("threading" : Str) = some (V.ref a) := rfl
theorem df_ti (a b c : Addr) : (df a b c).lookup ("ties" : Str) = some (V.ref b) := rfl
theorem df_tr (a b c : Addr) : (df a b c).lookup ("treading" : Str) = some (V.ref c) := rfl
theorem NL.other {H H' : Hp} {r C dx y : Addr} {fs : List (Str × V)} {rs : List Addr} {tss : List (List Int)} (N : NL H y rs tss) (b : SameB r H H') (hr : H r = some (.ins C dx fs)) : NL H' y rs tss :=
  ⟨b _ _ (fun e => by have := N.h; rw [e, hr] at this; cases this) N.h, N.l, fun i a ks h1 h2 => b _ _ (fun e => by have := N.r i a ks h1 h2; rw [e, hr] at this; cases this) (N.r i a ks h1 h2)⟩
structure IsD (t : Adr) (H : Hp) (d dx a b c : Addr) (qs : List Addr) (th : List Int) (tss : List (List Int)) (tr : List Int) : Prop where
  o : H d = some (.ins t.e_Draft dx (df a b c))
  ha : H a = some (.lst (vI th))
  hb : NL H b qs tss
  hc : H c = some (.lst (vI tr))
theorem IsD.same {H H' : Hp} {d dx a b c : Addr} {qs : List Addr} {th : List Int} {tss : List (List Int)} {tr : List Int} (D : IsD t H d dx a b c qs th tss tr) (s : Same H H') : IsD t H' d dx a b c qs th tss tr := ⟨s _ _ D.o, s _ _ D.ha, D.hb.same s, s _ _ D.hc⟩
def sp_dinit (t : Adr) : Sp := fun vs H Q _ => ∃ (r dx x y z : Addr) (rs : List Addr) (th : List Int) (tss : List (List Int)) (tr : List Int), vs = [.ref r, .ref x, .ref y, .ref z] ∧ H r = some (.ins t.e_Draft dx []) ∧ H x = some (.lst (vI th)) ∧ NL H y rs tss ∧ H z = some (.lst (vI tr)) ∧ Ft th tss tr ∧
  ∀ a b c qs H', SameB r H H' → H a = none → H b = none → H c = none → (∀ q ∈ qs, H q = none) → IsD t H' r dx a b c qs th tss tr → Q .non H'
theorem ok_Draft___init__ (T : Txt K mg t) : FnOk P w K mg base CX0 4 t.f_Draft___init__ t.d_Draft___init__ ["self", "threading", "ties", "treading"] (sp_dinit t) := by
  have G_check_setting : FnOk P w K mg base CX0 3 t.f_check_setting t.d_check_setting _ _ := ok_check_setting T
  have G_check_treading : FnOk P w K mg base CX0 2 t.f_check_treading t.d_check_treading _ _ := ok_check_treading T
  refine T.m_Draft___init__.F.ok sc_Draft___init__ (fun vs H Q E h => ?_) (fun cdv A outer s H vs Q E hr h => ?_)
  · obtain ⟨r, dx, x, y, z, rs, th, tss, tr, rfl, _⟩ := h
    rfl
  · obtain ⟨r, dx, x, y, z, rs, th, tss, tr, rfl, hr1, hx, N, hz, F, k⟩ := h
    have hsz : sizeLine = 16777216 := sizeLine_eq
    refine ⟨_, (pss_cons (ps_expr (pe_call (G_check_setting.mono (by decide)) hr rfl T.check_setting.m T.check_setting.F.kp T.check_setting.b .nil pass0 (pa_cons (pv 1) (pa_cons (pv 2) pa_nil))))
      (pss_cons (ps_expr (pe_call (G_check_treading.mono (by decide)) hr rfl T.check_treading.m T.check_treading.F.kp T.check_treading.b .nil pass0 (pa_cons (pv 3) (pa_cons (pe_callB (call_len_seqK (K := K)) rfl T.b_len bt_len (pa_cons (pv 2) pa_nil)) pa_nil))))
      (pss_cons (ps_fldK (K := K) (pv 0) (pe_callTy (call_list_ofK (K := K)) rfl T.b_list bt_list (pa_cons (pv 1) pa_nil)))
      (pss_cons (ps_fldK (K := K) (pv 0) (pe_comp (CompOk.mk (caps := []) (Nc := ["tie"]) rfl (by decide +kernel) (by decide +kernel) (comp_fr (sc0 := defScope s_Draft___init__) rfl (by decide +kernel)) rfl rfl rfl (by decide +kernel) (fun _ _ h => by simp at h)) rfl (pi_listK (K := K) (pv 2)) (fun _ _ _ _ _ => .nil) (fun _ _ _ _ _ => (pe_callTy (call_list_ofK (K := K)) rfl T.b_list bt_list (pa_cons (pv 0) pa_nil)))))
      (pss_one (ps_fldK (K := K) (pv 0) (pe_callTy (call_list_ofK (K := K)) rfl T.b_list bt_list (pa_cons (pv 3) pa_nil)))))))), ?_⟩
    refine ⟨_, rfl, _, rfl, x, y, rs, th, tss, tr, rfl, hx, N, F, ?_⟩
    refine ⟨_, rfl, _, rfl, _, _, rfl, .inl (SqL.of N.h), z, th, tss, tr, (by rw [List.length_map, N.l] <;> rfl), hz, F, ?_⟩
    refine ⟨_, rfl, _, _, rfl, .inl (SqL.of hx), fun a na => ?_⟩
    have s1 : Same H (upd H a (.lst (vI th))) := .upd na
    have nra : a ≠ r := fun e => by rw [e, hr1] at na; cases na
    refine ⟨_, rfl, _, _, _, _, rfl, s1 _ _ hr1, T.o_Draft.c, T.na_Draft_threading, (by decide), ?_⟩
    generalize hH2 : upd (upd H a (.lst (vI th))) r (.ins t.e_Draft dx (putF "threading" (.ref a) [])) = H2
    have b2 : SameB r H H2 := fun b o nb e => by rw [← hH2, upd_ne nb]; exact s1 _ _ e
    have hr2 : H2 r = some (.ins t.e_Draft dx [("threading", .ref a)]) := by rw [← hH2]; exact upd_same
    have ha2 : H2 a = some (.lst (vI th)) := by rw [← hH2, upd_ne nra]; exact upd_same
    have fre : ∀ q, H2 q = none → H q = none := fun q hq => by
      have nq : q ≠ r := fun e => by rw [e, hr2] at hq; cases hq
      cases e : H q with
      | none => rfl
      | some o => rw [b2 q o nq e] at hq; cases hq
    clear hH2
    have N2 := N.other b2 hr1
    refine ⟨_, rfl, _, rfl, ⟨_, SqL.of N2.h⟩, comp_list (K := K) (a := y) (xs := rs.map V.ref) (fun i ys H3 => Same H2 H3 ∧ ∃ qs : List Addr, ys = qs.map V.ref ∧ qs.length = i ∧ (∀ q ∈ qs, H2 q = none) ∧ ∀ (j : Nat) (q : Addr) (ks : List Int), qs[j]? = some q → tss[j]? = some ks → H3 q = some (.lst (vI ks)))
      ⟨.refl _, [], rfl, rfl, fun q hq => (by cases hq), fun j q ks h => (by simp at h)⟩ ?_ ?_ ?_ ?_⟩
    · rintro i ys H3 hi ⟨s3, qs, rfl, hq, _⟩
      exact ⟨SqL.of (s3 _ _ N2.h), by rw [List.length_map]; omega⟩
    · rw [List.length_map, N.l]; have := F.t40; omega
    · rintro i xv ys H3 hi hxv ⟨s3, qs, rfl, hq, nq, hqs⟩
      obtain ⟨r', ks', rfl, _, hks, hr'⟩ := N2.at hxv
      refine CTurn.no ?_
      refine ⟨_, rfl, _, _, rfl, .inl (SqL.of (s3 _ _ hr')), fun l nl => ?_⟩
      refine CN.of hi ⟨s3.new nl, qs ++ [l], by rw [List.map_append]; rfl, by rw [List.length_append, hq]; rfl, fun q h => ?_, fun j q ks h1 h2 => ?_⟩
      · rcases List.mem_append.mp h with h | h
        · exact nq q h
        · rw [List.mem_singleton.mp h]; exact s3.free nl
      · by_cases hj : j < qs.length
        · rw [List.getElem?_append_left hj] at h1
          exact (Same.upd nl) _ _ (hqs j q ks h1 h2)
        · rw [List.getElem?_append_right (by omega)] at h1
          have e0 : j = i := by
            have := (List.getElem?_eq_some_iff.mp h1).1
            simp at this
            omega
          rw [show j - qs.length = 0 by omega] at h1
          have e1 : l = q := by simpa using h1
          rw [e0, hks] at h2
          cases h2
          rw [← e1]
          exact upd_same
    · rintro ys H3 b ⟨s3, qs, rfl, hq, nq, hqs⟩ nb
      rw [List.length_map, N.l] at hq
      have s4 : Same H2 (upd H3 b (.lst (qs.map V.ref))) := s3.new nb
      have nbr : b ≠ r := fun e => by rw [e, s3 _ _ hr2] at nb; cases nb
      refine ⟨_, rfl, _, _, _, _, rfl, s4 _ _ hr2, T.o_Draft.c, T.na_Draft_ties, (by show 1 < 1000; decide), ?_⟩
      generalize hH5 : upd (upd H3 b (.lst (qs.map V.ref))) r (.ins t.e_Draft dx (putF "ties" (.ref b) [("threading", .ref a)])) = H5
      have b5 : SameB r H2 H5 := fun b' o nb e => by rw [← hH5, upd_ne nb]; exact s4 _ _ e
      have hr5 : H5 r = some (.ins t.e_Draft dx [("threading", .ref a), ("ties", .ref b)]) := by rw [← hH5]; exact upd_same
      have hb5 : H5 b = some (.lst (qs.map V.ref)) := by rw [← hH5, upd_ne nbr]; exact upd_same
      have hq5 : ∀ (j : Nat) (q : Addr) (ks : List Int), qs[j]? = some q → tss[j]? = some ks → H5 q = some (.lst (vI ks)) := fun j q ks h1 h2 => by
        have nqr : q ≠ r := fun e => by have := nq q (List.mem_of_getElem? h1); rw [e, hr2] at this; cases this
        rw [← hH5, upd_ne nqr]
        exact (Same.upd nb) _ _ (hqs j q ks h1 h2)
      clear hH5
      have nzr : z ≠ r := fun e => by rw [e, hr1] at hz; cases hz
      have hz5 : H5 z = some (.lst (vI tr)) := b5 _ _ nzr (b2 _ _ nzr hz)
      refine ⟨_, rfl, _, _, rfl, .inl (SqL.of hz5), fun c nc => ?_⟩
      have s6 : Same H5 (upd H5 c (.lst (vI tr))) := .upd nc
      have ncr : c ≠ r := fun e => by rw [e, hr5] at nc; cases nc
      refine ⟨_, rfl, _, _, _, _, rfl, s6 _ _ hr5, T.o_Draft.c, T.na_Draft_treading, (by show 2 < 1000; decide), ?_⟩
      have f5 : ∀ q, H5 q = none → H q = none := fun q h => fre q (by
        have nqr : q ≠ r := fun e => by rw [e, hr5] at h; cases h
        cases e : H2 q with
        | none => rfl
        | some o => rw [b5 q o nqr e] at h; cases h)
      refine k a b c qs _ (fun b' o nb' e => by rw [upd_ne nb']; exact s6 _ _ (b5 _ _ nb' (b2 _ _ nb' e))) na (fre b (s3.free nb)) (f5 c nc) (fun q h => fre q (nq q h)) ⟨upd_same, ?_, ⟨?_, hq, fun j q ks h1 h2 => ?_⟩, ?_⟩
      · rw [upd_ne nra]; exact s6 _ _ (b5 _ _ nra ha2)
      · rw [upd_ne nbr]; exact s6 _ _ hb5
      · have nqr : q ≠ r := fun e => by have := nq q (List.mem_of_getElem? h1); rw [e, hr2] at this; cases this
        rw [upd_ne nqr]; exact s6 _ _ (hq5 j q ks h1 h2)
      · rw [upd_ne ncr]; exact upd_same
theorem rep_vI (m : Nat) (z : Int) : (List.replicate m [V.int z]).flatten = vI (List.replicate m z) := by
  induction m with
  | zero => rfl
  | succ m ih => rw [List.replicate_succ, List.flatten_cons, ih, List.replicate_succ]; rfl
theorem set_nonneg {ks : List Int} {j : Nat} {z : Int} (h : ∀ k ∈ ks, 0 ≤ k) (hz : 0 ≤ z) : ∀ k ∈ ks.set j z, 0 ≤ k := fun k hk => by
  rcases List.mem_or_eq_of_mem_set hk with h1 | h1
  · exact h k h1
  · subst h1; exact hz
def sp_numbers (K : PySem.W.Frag) : Sp := fun vs H Q _ => ∃ (a : Addr) (ns : List Int) (m : Nat), vs = [.ref a, .int (m : Int)] ∧ SqL K H a (vI ns) ∧ ns.length ≤ 63 ∧ 63 ≤ m ∧ m ≤ 1000 ∧
  ∀ (l : Addr) (ks : List Int) (H' : Hp), Same H H' → H l = none → H' l = some (.lst (vI ks)) → ks.length = m → (∀ k ∈ ks, 0 ≤ k) → Q (.ref l) H'
theorem ok_law_numbers (T : Txt K mg t) : FnOk P w K mg base CX0 1 t.f_law_numbers t.d_law_numbers ["script", "many"] (sp_numbers K) := by
  refine T.law_numbers.F.ok sc_law_numbers (fun vs H Q E h => ?_) (fun cdv A outer s H vs Q E hr h => ?_)
  · obtain ⟨a, ns, m, rfl, _⟩ := h
    rfl
  · obtain ⟨a, ns, m, rfl, hS, hl, hm, hm2, k⟩ := h
    have hsz : sizeLine = 16777216 := sizeLine_eq
    refine ⟨_, (pss_cons (ps_set (i := 2) sc_law_numbers.nd rfl (Or.inl rfl) pe_int)
      (pss_cons (ps_set (i := 3) sc_law_numbers.nd rfl (Or.inl rfl) (pe_op op_rep (pe_lst (pa_cons pe_int pa_nil)) (pv 1)))
      (pss_cons (ps_for PassesOwn.never rfl (pi_range1 rfl T.b_range (pa_cons (pe_callB (call_len_seqK (K := K)) rfl T.b_len bt_len (pa_cons (pv 0) pa_nil)) pa_nil)) (pg_name (i := 4) sc_law_numbers.nd rfl (Or.inl rfl))
        (pss_cons (ps_asg (pe_op op_mod (pe_op op_add (pe_op op_mul (pe_ix (ix_listK (K := K)) (pv 3) (pe_op op_mod (pv 4) (pv 1)) (fun _ _ => rfl)) pe_int) (pe_ix (ix_listK (K := K)) (pv 0) (pv 4) (fun _ _ => rfl))) (pe_op op_pow pe_int pe_int)) (pg_sub (pv 3) (pe_op op_mod (pv 4) (pv 1)) set_list))
        (pss_one (ps_set (i := 2) sc_law_numbers.nd rfl (Or.inl rfl) (pe_op op_mod (pe_op op_add (pe_op op_mul (pv 2) pe_int) (pe_ix (ix_listK (K := K)) (pv 0) (pv 4) (fun _ _ => rfl))) pe_int)))))
      (pss_cons (ps_for PassesOwn.never rfl (pi_range2 rfl T.b_range (pa_cons (pe_callB (call_len_seqK (K := K)) rfl T.b_len bt_len (pa_cons (pv 0) pa_nil)) (pa_cons (pv 1) pa_nil))) (pg_name (i := 4) sc_law_numbers.nd rfl (Or.inl rfl))
        (pss_cons (ps_set (i := 2) sc_law_numbers.nd rfl (Or.inl rfl) (pe_op op_mod (pe_op op_add (pe_op op_mul (pv 2) pe_int) (pv 4)) pe_int))
        (pss_one (ps_asg (pe_op op_fdiv (pv 2) pe_int) (pg_sub (pv 3) (pv 4) set_list)))))
      (pss_one (ps_ret (pv 3))))))), ?_⟩
    refine ⟨(by show 1 ≤ sizeLine; decide), fun p hp => ?_⟩
    refine ⟨_, rfl, _, _, _, rfl, rfl, upd_same, (by omega), (by omega), (by show 1 * ((m : Int).toNat) ≤ sizeLine; omega), fun q hq => ?_⟩
    rw [Int.toNat_natCast, rep_vI]
    have s1 : Same H (upd H p (.lst [.int 0])) := .upd hp
    have nq : H q = none := s1.free hq
    have s2 : Same H (upd (upd H p (.lst [.int 0])) q (.lst (vI (List.replicate m 0)))) := s1.new hq
    refine ⟨_, rfl, _, _, rfl, .inl (s2.seq hS), _, rfl, (by omega), (by rw [vI_len]; omega), ?_⟩
    rw [Int.toNat_natCast, vI_len]
    refine for_range (lo := 0) (n := ns.length) (fun i σ H2 => ∃ (mx : Int) (ks : List Int) (v : Option V), σ = [some (.ref a), some (.int (m : Int)), some (.int mx), some (.ref q), v] ∧ Same H H2 ∧ H2 q = some (.lst (vI ks)) ∧ ks.length = m ∧ (∀ k ∈ ks, 0 ≤ k) ∧ 0 ≤ mx)
      ⟨7, _, none, rfl, s2, upd_same, by rw [List.length_replicate], fun k hk => by rw [List.eq_of_mem_replicate hk]; exact Int.le_refl _, by decide⟩ ?_ ?_
    · rintro i σ H2 hi ⟨mx, ks, v, rfl, s3, hq2, hkl, hkn, hmx⟩
      have hix : (0 + (i : Int)) % (m : Int) = ((i % m : Nat) : Int) := by rw [Int.zero_add]; omega
      have hlt : i % m < ks.length := by rw [hkl]; exact Nat.mod_lt _ (by omega)
      have e1 : (vI ks)[((0 + (i : Int)) % (m : Int)).toNat]? = some (.int ks[i % m]) := by
        rw [hix, Int.toNat_natCast]
        exact vI_get (List.getElem?_eq_getElem hlt)
      have e2 : (vI ns)[(0 + (i : Int)).toNat]? = some (.int ns[i]) := by
        rw [Int.zero_add, Int.toNat_natCast]
        exact vI_get (List.getElem?_eq_getElem hi)
      have n1 : 0 ≤ (0 + (i : Int)) % (m : Int) := by rw [hix]; omega
      refine ⟨_, rfl, _, rfl, _, rfl, _, _, rfl, rfl, (by show (0 : Int) < m; omega), ?_⟩
      refine ⟨_, _, _, _, rfl, rfl, SqL.of hq2, atI_of n1 e1, ?_⟩
      refine ⟨_, _, rfl, rfl, .inr ⟨by decide, by decide⟩, ?_⟩
      refine ⟨_, rfl, _, rfl, _, _, _, _, rfl, rfl, s3.seq hS, atI_of (by omega) e2, ?_⟩
      refine ⟨_, _, rfl, rfl, ?_⟩
      refine ⟨_, _, rfl, rfl, ⟨by decide, by decide, by decide⟩, ?_⟩
      refine ⟨_, _, rfl, rfl, (by show (0 : Int) < 10 ^ 60; decide), ?_⟩
      refine ⟨_, rfl, _, rfl, _, rfl, _, _, rfl, rfl, (by show (0 : Int) < m; omega), ?_⟩
      refine ⟨_, _, _, _, rfl, rfl, hq2, ixN_of n1 (by rw [vI_len, hkl]; rw [hix]; omega), ?_⟩
      rw [vI_set]
      refine ⟨_, rfl, _, _, rfl, rfl, .inr ⟨by decide, by decide⟩, ?_⟩
      have s4 : Same H (upd H2 q (.lst (vI (ks.set ((0 + (i : Int)) % (m : Int)).toNat ((ks[i % m] * 31 + ns[i]) % 10 ^ (60 : Int).toNat))))) := s3.over nq
      refine ⟨_, rfl, _, rfl, _, _, _, _, rfl, rfl, s4.seq hS, atI_of (by omega) e2, ?_⟩
      refine ⟨_, _, rfl, rfl, ?_⟩
      refine ⟨_, _, rfl, rfl, (by show (0 : Int) < 2147483647; decide), ?_⟩
      exact ⟨_, _, _, rfl, s4, upd_same, by rw [List.length_set]; exact hkl, set_nonneg hkn (Int.emod_nonneg _ (by decide)), Int.emod_nonneg _ (by decide)⟩
    · rintro σ H2 ⟨mx, ks, v, rfl, s3, hq2, hkl, hkn, hmx⟩
      refine ⟨_, rfl, _, _, rfl, .inl (s3.seq hS), _, rfl, _, _, rfl, ⟨by omega, by rw [vI_len]; omega, by omega, by omega⟩, ?_⟩
      rw [vI_len]
      refine for_range (lo := (ns.length : Int)) (n := ((m : Int) - (ns.length : Int)).toNat) (fun i σ H2 => ∃ (mx : Int) (ks : List Int) (v : Option V), σ = [some (.ref a), some (.int (m : Int)), some (.int mx), some (.ref q), v] ∧ Same H H2 ∧ H2 q = some (.lst (vI ks)) ∧ ks.length = m ∧ (∀ k ∈ ks, 0 ≤ k) ∧ 0 ≤ mx)
        ⟨mx, ks, v, rfl, s3, hq2, hkl, hkn, hmx⟩ ?_ ?_
      · rintro i σ H3 hi ⟨mx, ks, v, rfl, s3, hq2, hkl, hkn, hmx⟩
        refine ⟨_, rfl, _, _, rfl, rfl, .inr ⟨by decide, by decide⟩, ?_⟩
        refine ⟨_, rfl, _, _, rfl, rfl, ?_⟩
        refine ⟨_, _, rfl, rfl, (by show (0 : Int) < 2147483647; decide), ?_⟩
        have hnn : 0 ≤ (mx * 16807 + ((ns.length : Int) + (i : Int))) % 2147483647 := Int.emod_nonneg _ (by decide)
        refine ⟨_, rfl, _, _, rfl, rfl, ⟨by decide, by decide⟩, ?_⟩
        refine ⟨_, rfl, _, rfl, _, _, _, _, rfl, rfl, hq2, ixN_of (by omega) (by rw [vI_len, hkl]; omega), ?_⟩
        rw [vI_set]
        exact ⟨_, _, _, rfl, s3.over nq, upd_same, by rw [List.length_set]; exact hkl, set_nonneg hkn (Int.ediv_nonneg hnn (by decide)), hnn⟩
      · rintro σ H3 ⟨mx, ks, v, rfl, s3, hq2, hkl, hkn, hmx⟩
        exact ⟨_, rfl, k q ks H3 s3 nq hq2 hkl hkn⟩
theorem below {ks : List Int} {i : Nat} (h : ∀ k ∈ ks, k < (i : Int)) : ∀ k ∈ ks ++ [0 + (i : Int)], k < ((i + 1 : Nat) : Int) := fun k hk => by
  rcases List.mem_append.mp hk with h1 | h1
  · have := h k h1; omega
  · rw [List.mem_singleton.mp h1]; omega
theorem all_add {zs : List Int} {z : Int} {p : Int → Prop} (h : ∀ v ∈ zs, p v) (hz : p z) : ∀ v ∈ zs ++ [z], p v := fun v hv => by
  rcases List.mem_append.mp hv with h1 | h1
  · exact h v h1
  · rw [List.mem_singleton.mp h1]; exact hz
def sp_subset : Sp := fun vs H Q _ => ∃ (n : Int), vs = [.int n] ∧ 0 ≤ n ∧ ∀ (l : Addr) (ks : List Int) (H' : Hp), Same H H' → H l = none → H' l = some (.lst (vI ks)) → Rs ks → Q (.ref l) H'
theorem ok_law_subset (T : Txt K mg t) : FnOk P w K mg base CX0 1 t.f_law_subset t.d_law_subset ["number"] sp_subset := by
  refine T.law_subset.F.ok sc_law_subset (fun vs H Q E h => ?_) (fun cdv A outer s H vs Q E hr h => ?_)
  · obtain ⟨n, rfl, _⟩ := h
    rfl
  · obtain ⟨n, rfl, hn, k⟩ := h
    refine ⟨_, (pss_cons (ps_if (PW.pt (pw_and (pt_cmpR op_lt (pv 0) (pe_op op_pow pe_int pe_int) (nomark _)) (pw_and1 (pt_cmpR op_eq (pe_op op_mod (pv 0) pe_int) pe_int (nomark _)))))
        (pss_one (ps_ret (pe_lst pa_nil)))
        pss_nil)
      (pss_cons (ps_if (pt_cmpR op_lt (pv 0) (pe_op op_pow pe_int pe_int) (nomark _))
        (pss_one (ps_set (i := 0) sc_law_subset.nd rfl (Or.inl rfl) (pe_op op_add (pe_op op_mul (pe_op op_mul (pv 0) (pv 0)) pe_int) (pv 0))))
        pss_nil)
      (pss_cons (ps_set (i := 1) sc_law_subset.nd rfl (Or.inl rfl) (pe_lst pa_nil))
      (pss_cons (ps_for PassesOwn.never rfl (pi_range1 rfl T.b_range (pa_cons pe_int pa_nil)) (pg_name (i := 2) sc_law_subset.nd rfl (Or.inl rfl))
        (pss_cons (ps_if (pt_cmpR op_eq (pe_op op_mod (pv 0) pe_int) pe_int (nomark _))
          (pss_one (ps_expr (pe_bmK (K := K) PySem.F.plainAttrs_list PySem.F.slot_list_append PySem.F.type_list_append mt_append (pv 1) (pa_cons (pv 2) pa_nil))))
          pss_nil)
        (pss_one (ps_set (i := 0) sc_law_subset.nd rfl (Or.inl rfl) (pe_op op_fdiv (pv 0) pe_int)))))
      (pss_one (ps_ret (pv 1))))))), ?_⟩
    have e6 : (10 : Int) ^ (6 : Int).toNat = 1000000 := by decide
    refine ⟨_, rfl, _, _, rfl, rfl, ⟨by decide, by decide, by decide⟩, _, _, rfl, rfl, _, rfl, ?_⟩
    rw [e6]
    refine ite2D (fun h6 => ?_) (fun h6 => ?_)
    · refine ⟨_, rfl, _, _, rfl, rfl, (by show (0 : Int) < 8; decide), rfl, _, rfl, ?_⟩
      refine ite2D (fun _ => ?_) (fun _ => ?_)
      · exact ⟨Nat.zero_le _, fun p hp => k p [] _ (.upd hp) hp upd_same rs_nil⟩
      · refine ⟨_, rfl, _, _, rfl, rfl, ⟨by decide, by decide, by decide⟩, _, _, rfl, rfl, _, rfl, ?_⟩
        rw [e6]
        refine iteDp h6 ?_
        refine ⟨_, rfl, _, rfl, _, _, rfl, rfl, .inl ⟨by omega, by omega⟩, ?_⟩
        refine ⟨_, _, rfl, rfl, .inr ⟨by decide, by decide⟩, ?_⟩
        refine ⟨_, rfl, _, _, rfl, rfl, ?_⟩
        refine ⟨Nat.zero_le _, fun p hp => ?_⟩
        refine ⟨_, rfl, by decide, by decide, ?_⟩
        refine for_range (lo := 0) (n := 40) (fun i σ H2 => ∃ (z : Int) (ks : List Int) (v : Option V), σ = [some (.int z), some (.ref p), v] ∧ Same H H2 ∧ H2 p = some (.lst (vI ks)) ∧ ks.length ≤ i ∧ Rs ks ∧ ∀ k ∈ ks, k < (i : Int))
          ⟨_, [], none, rfl, .upd hp, upd_same, Nat.le_refl _, rs_nil, fun k h => (by cases h)⟩ ?_ ?_
        · rintro i σ H2 hi ⟨z, ks, v, rfl, s2, hp2, hkl, R, lt⟩
          refine ⟨_, rfl, _, _, rfl, rfl, (by show (0 : Int) < 2; decide), rfl, _, rfl, ?_⟩
          refine ite2D (fun _ => ?_) (fun _ => ?_)
          · refine ⟨_, rfl, .inl ⟨rfl, _, SqL.of hp2⟩, _, rfl, _, _, _, rfl, rfl, hp2, (by rw [vI_len]; exact small1000 (by omega)), ?_⟩
            rw [vI_app]
            refine ⟨_, rfl, _, _, rfl, rfl, ⟨by decide, by decide⟩, ?_⟩
            exact ⟨_, _, _, rfl, s2.over hp, upd_same, by rw [List.length_append, List.length_singleton]; omega, rs_add R (fun k h => by have := lt k h; omega) (by omega) (by omega), below lt⟩
          · refine ⟨_, rfl, _, _, rfl, rfl, ⟨by decide, by decide⟩, ?_⟩
            exact ⟨_, _, _, rfl, s2, hp2, by omega, R, fun k h => by have := lt k h; omega⟩
        · rintro σ H2 ⟨z, ks, v, rfl, s2, hp2, hkl, R, lt⟩
          exact ⟨_, rfl, k p ks H2 s2 hp hp2 R⟩
    · refine iteF ?_
      refine ⟨_, rfl, _, _, rfl, rfl, ⟨by decide, by decide, by decide⟩, _, _, rfl, rfl, _, rfl, ?_⟩
      rw [e6]
      refine iteDn h6 ?_
      refine ⟨Nat.zero_le _, fun p hp => ?_⟩
      refine ⟨_, rfl, by decide, by decide, ?_⟩
      refine for_range (lo := 0) (n := 40) (fun i σ H2 => ∃ (z : Int) (ks : List Int) (v : Option V), σ = [some (.int z), some (.ref p), v] ∧ Same H H2 ∧ H2 p = some (.lst (vI ks)) ∧ ks.length ≤ i ∧ Rs ks ∧ ∀ k ∈ ks, k < (i : Int))
        ⟨_, [], none, rfl, .upd hp, upd_same, Nat.le_refl _, rs_nil, fun k h => (by cases h)⟩ ?_ ?_
      · rintro i σ H2 hi ⟨z, ks, v, rfl, s2, hp2, hkl, R, lt⟩
        refine ⟨_, rfl, _, _, rfl, rfl, (by show (0 : Int) < 2; decide), rfl, _, rfl, ?_⟩
        refine ite2D (fun _ => ?_) (fun _ => ?_)
        · refine ⟨_, rfl, .inl ⟨rfl, _, SqL.of hp2⟩, _, rfl, _, _, _, rfl, rfl, hp2, (by rw [vI_len]; exact small1000 (by omega)), ?_⟩
          rw [vI_app]
          refine ⟨_, rfl, _, _, rfl, rfl, ⟨by decide, by decide⟩, ?_⟩
          exact ⟨_, _, _, rfl, s2.over hp, upd_same, by rw [List.length_append, List.length_singleton]; omega, rs_add R (fun k h => by have := lt k h; omega) (by omega) (by omega), below lt⟩
        · refine ⟨_, rfl, _, _, rfl, rfl, ⟨by decide, by decide⟩, ?_⟩
          exact ⟨_, _, _, rfl, s2, hp2, by omega, R, fun k h => by have := lt k h; omega⟩
      · rintro σ H2 ⟨z, ks, v, rfl, s2, hp2, hkl, R, lt⟩
        exact ⟨_, rfl, k p ks H2 s2 hp hp2 R⟩
theorem cut_vI {ks : List Int} {i j : Int} (h0 : 0 ≤ i) (h1 : i ≤ j) (h2 : j ≤ ks.length) : cutV (vI ks) (some i) (some j) = vI ((ks.drop i.toNat).take (j.toNat - i.toNat)) := by
  unfold cutV
  have e1 : HT.sIx (vI ks).length 0 (some i) = i.toNat := by
    show (if i < 0 then _ else _) = _
    rw [if_neg (by omega), vI_len]; omega
  have e2 : HT.sIx (vI ks).length (vI ks).length (some j) = j.toNat := by
    show (if j < 0 then _ else _) = _
    rw [if_neg (by omega), vI_len]; omega
  rw [e1, e2]
  unfold vI
  rw [← List.map_drop, ← List.map_take]
theorem cut_mem {ks : List Int} {a b : Nat} {x : Int} (h : x ∈ (ks.drop a).take b) : x ∈ ks := List.mem_of_mem_drop (List.mem_of_mem_take h)
def sp_draft (K : PySem.W.Frag) : Sp := fun vs H Q _ => ∃ (a : Addr) (ks : List Int), vs = [.ref a] ∧ SqL K H a (vI ks) ∧ 123 ≤ ks.length ∧ ks.length ≤ 1000 ∧ (∀ k ∈ ks, 0 ≤ k) ∧
  ∀ (p : Addr) (H' : Hp) (x y z : Addr) (rs : List Addr) (th : List Int) (tss : List (List Int)) (tr : List Int), Same H H' → H' p = some (.tup [.ref x, .ref y, .ref z]) → H' x = some (.lst (vI th)) → NL H' y rs tss → H' z = some (.lst (vI tr)) → Ft th tss tr → Q (.ref p) H'
theorem ok_law_draft_by (T : Txt K mg t) : FnOk P w K mg base CX0 2 t.f_law_draft_by t.d_law_draft_by ["numbers"] (sp_draft K) := by
  have G_law_subset : FnOk P w K mg base CX0 1 t.f_law_subset t.d_law_subset _ _ := ok_law_subset T
  refine T.law_draft_by.F.ok sc_law_draft_by (fun vs H Q E h => ?_) (fun cdv A outer s H vs Q E hr h => ?_)
  · obtain ⟨a, ks, rfl, _⟩ := h
    rfl
  · obtain ⟨a, ks, rfl, hS, hl1, hl2, hnn, k⟩ := h
    have hsz : sizeLine = 16777216 := sizeLine_eq
    have g : ∀ (i : Int), 0 ≤ i → i < 3 → atI (vI ks) i = some (.int (ks.getD i.toNat 0)) := fun i h0 h3 => atI_of h0 (by
      have : i.toNat < ks.length := by omega
      rw [vI_get (List.getElem?_eq_getElem this)]
      simp [List.getD, this])
    have p3 : ∀ z : Int, 0 ≤ z % 3 := fun z => Int.emod_nonneg z (by decide)
    have r40 : ∀ z : Int, 0 ≤ z % 40 ∧ z % 40 < 40 := fun z => ⟨Int.emod_nonneg z (by decide), Int.emod_lt_of_pos z (by decide)⟩
    refine ⟨_, (pss_cons (ps_set (i := 1) sc_law_draft_by.nd rfl (Or.inl rfl) (pe_op op_add pe_int (pe_op op_mod (pe_ix (ix_listK (K := K)) (pv 0) pe_int (fun _ _ => rfl)) pe_int)))
      (pss_cons (ps_set (i := 2) sc_law_draft_by.nd rfl (Or.inr rfl) (pe_op op_add pe_int (pe_op op_mod (pe_ix (ix_listK (K := K)) (pv 0) pe_int (fun _ _ => rfl)) pe_int)))
      (pss_cons (ps_set (i := 3) sc_law_draft_by.nd rfl (Or.inl rfl) (pe_op op_add pe_int (pe_op op_mod (pe_ix (ix_listK (K := K)) (pv 0) pe_int (fun _ _ => rfl)) pe_int)))
      (pss_cons (ps_set (i := 4) sc_law_draft_by.nd rfl (Or.inr rfl) (pe_op op_add pe_int (pe_op op_mod (pe_op op_fdiv (pe_ix (ix_listK (K := K)) (pv 0) pe_int (fun _ _ => rfl)) pe_int) pe_int)))
      (pss_cons (ps_if (pt_cmpR op_eq (pe_op op_mod (pe_op op_fdiv (pe_ix (ix_listK (K := K)) (pv 0) pe_int (fun _ _ => rfl)) pe_int) pe_int) pe_int (nomark _))
        (pss_one (ps_set (i := 4) sc_law_draft_by.nd rfl (Or.inr rfl) pe_int))
        pss_nil)
      (pss_cons (ps_setC (i := 5) (CompOk.mk (caps := [4]) (Nc := ["number", "high"]) rfl (by decide +kernel) (by decide +kernel) (comp_fr (sc0 := defScope s_law_draft_by) rfl (by decide +kernel)) rfl rfl rfl (by decide +kernel) (fun k j h => match k, h with | 0, h => by obtain rfl := Option.some.inj h; exact ⟨_, rfl, rfl, rfl⟩ | _ + 1, h => by simp at h)) rfl sc_law_draft_by.nd rfl rfl (pi_listK (K := K) (pe_slice (sl_listK (K := K)) (pv 0) (po_some pe_int) (po_some (pe_op op_add pe_int (pv 1))))) (fun _ _ _ _ _ => .nil) (fun _ _ _ _ _ => (pe_op op_mod (pv 0) (pv 1))) rfl)
      (pss_cons (ps_setC (i := 6) (CompOk.mk (caps := []) (Nc := ["number"]) rfl (by decide +kernel) (by decide +kernel) (comp_fr (sc0 := defScope s_law_draft_by) rfl (by decide +kernel)) rfl rfl rfl (by decide +kernel) (fun _ _ h => by simp at h)) rfl sc_law_draft_by.nd rfl rfl (pi_listK (K := K) (pe_slice (sl_listK (K := K)) (pv 0) (po_some (pe_op op_add pe_int (pv 1))) (po_some (pe_op op_add (pe_op op_add pe_int (pv 1)) (pv 2))))) (fun _ _ _ _ _ => .nil) (fun _ _ _ _ _ => (pe_call (G_law_subset.mono (by decide)) hr rfl T.law_subset.m T.law_subset.F.kp T.law_subset.b .nil pass0 (pa_cons (pv 0) pa_nil))) rfl)
      (pss_cons (ps_set (i := 7) sc_law_draft_by.nd rfl (Or.inl rfl) (pe_op op_add (pe_op op_add pe_int (pv 1)) (pv 2)))
      (pss_cons (ps_setC (i := 8) (CompOk.mk (caps := [2]) (Nc := ["number", "treadles"]) rfl (by decide +kernel) (by decide +kernel) (comp_fr (sc0 := defScope s_law_draft_by) rfl (by decide +kernel)) rfl rfl rfl (by decide +kernel) (fun k j h => match k, h with | 0, h => by obtain rfl := Option.some.inj h; exact ⟨_, rfl, rfl, rfl⟩ | _ + 1, h => by simp at h)) rfl sc_law_draft_by.nd rfl rfl (pi_listK (K := K) (pe_slice (sl_listK (K := K)) (pv 0) (po_some (pv 7)) (po_some (pe_op op_add (pv 7) (pv 3))))) (fun _ _ _ _ _ => .nil) (fun _ _ _ _ _ => (pe_op op_mod (pv 0) (pv 1))) rfl)
      (pss_one (ps_ret (pe_tup (pa_cons (pv 5) (pa_cons (pv 6) (pa_cons (pv 8) pa_nil))))))))))))))), ?_⟩
    refine ⟨_, rfl, _, _, _, _, rfl, rfl, hS, g 0 (by decide) (by decide), _, _, rfl, rfl, (by show (0 : Int) < 40; decide), _, _, rfl, rfl, ?_⟩
    refine ⟨_, rfl, _, _, _, _, rfl, rfl, hS, g 1 (by decide) (by decide), _, _, rfl, rfl, (by show (0 : Int) < 40; decide), _, _, rfl, rfl, ?_⟩
    refine ⟨_, rfl, _, _, _, _, rfl, rfl, hS, g 2 (by decide) (by decide), _, _, rfl, rfl, (by show (0 : Int) < 40; decide), _, _, rfl, rfl, ?_⟩
    refine ⟨_, rfl, _, _, _, _, rfl, rfl, hS, g 0 (by decide) (by decide), _, _, rfl, rfl, ⟨by decide, by decide⟩, _, _, rfl, rfl, (by show (0 : Int) < 40; decide), _, _, rfl, rfl, ?_⟩
    refine ⟨_, rfl, _, _, _, _, rfl, rfl, hS, g 1 (by decide) (by decide), _, _, rfl, rfl, ⟨by decide, by decide⟩, _, _, rfl, rfl, (by show (0 : Int) < 3; decide), rfl, _, rfl, ?_⟩
    obtain ⟨en, hen⟩ : ∃ z : Int, z = 1 + ks.getD (0 : Int).toNat 0 % 40 := ⟨_, rfl⟩
    obtain ⟨tl, htl⟩ : ∃ z : Int, z = 1 + ks.getD (1 : Int).toNat 0 % 40 := ⟨_, rfl⟩
    obtain ⟨pk, hpk⟩ : ∃ z : Int, z = 1 + ks.getD (2 : Int).toNat 0 % 40 := ⟨_, rfl⟩
    obtain ⟨hg, hhg⟩ : ∃ z : Int, z = 1 + ks.getD (0 : Int).toNat 0 / 40 % 40 := ⟨_, rfl⟩
    dsimp only
    rw [← hen, ← htl, ← hpk, ← hhg]
    have b1 := r40 (ks.getD (0 : Int).toNat 0)
    have b2 := r40 (ks.getD (1 : Int).toNat 0)
    have b3 := r40 (ks.getD (2 : Int).toNat 0)
    have b4 := r40 (ks.getD (0 : Int).toNat 0 / 40)
    have en1 : 1 ≤ en ∧ en ≤ 40 := by omega
    have tl1 : 1 ≤ tl ∧ tl ≤ 40 := by omega
    have pk1 : 1 ≤ pk ∧ pk ≤ 40 := by omega
    have hg1 : 0 < hg := by omega
    refine ite2D (fun _ => ?_) (fun _ => ?_)
    all_goals
      refine ⟨_, rfl, _, rfl, _, rfl, _, _, rfl, rfl, _, rfl, _, _, rfl, hS, fun p1 hp1 => ?_⟩
      rw [cut_vI (by decide) (by omega) (by omega)]
      have s1 : Same H (upd H p1 (.lst (vI ((ks.drop (3 : Int).toNat).take ((3 + en).toNat - (3 : Int).toNat))))) := .upd hp1
      have l1 : ((ks.drop (3 : Int).toNat).take ((3 + en).toNat - (3 : Int).toNat)).length = en.toNat := by rw [List.length_take, List.length_drop]; omega
      refine ⟨_, rfl, ⟨_, SqL.of upd_same⟩, ?_⟩
      refine comp_list (K := K) (a := p1) (xs := vI ((ks.drop (3 : Int).toNat).take ((3 + en).toNat - (3 : Int).toNat))) (fun i ys H2 => Same H H2 ∧ H2 p1 = some (.lst (vI ((ks.drop (3 : Int).toNat).take ((3 + en).toNat - (3 : Int).toNat)))) ∧ ∃ zs : List Int, ys = vI zs ∧ zs.length = i ∧ ∀ v ∈ zs, 0 ≤ v ∧ v < 40)
        ⟨s1, upd_same, [], rfl, rfl, fun v h => (by cases h)⟩ ?_ ?_ ?_ ?_
      · rintro i ys H2 hi ⟨s2, h2, zs, rfl, hz, hv⟩
        exact ⟨SqL.of h2, by rw [vI_len]; omega⟩
      · rw [vI_len, l1]; omega
      · rintro i x ys H2 hi hx ⟨s2, h2, zs, rfl, hz, hv⟩
        obtain ⟨z, _, rfl⟩ := vI_got hx
        refine CTurn.no ⟨_, rfl, _, rfl, _, _, rfl, rfl, (by first | (show (0 : Int) < 40; decide) | exact hg1), CN.of hi ⟨s2, h2, zs ++ [_], vI_app _ _, by rw [List.length_append, hz]; rfl, all_add hv (by first | exact ⟨Int.emod_nonneg _ (by decide), Int.emod_lt_of_pos _ (by decide)⟩ | exact ⟨Int.emod_nonneg _ (by omega), Int.lt_of_lt_of_le (Int.emod_lt_of_pos _ hg1) (by omega)⟩)⟩⟩
      · rintro ys H2 q1 ⟨s2, _, th, rfl, hth, hthv⟩ hq1
        rw [vI_len, l1] at hth
        have s3 : Same H (upd H2 q1 (.lst (vI th))) := s2.new hq1
        refine ⟨_, rfl, _, rfl, _, _, rfl, rfl, _, rfl, _, rfl, _, _, rfl, rfl, _, rfl, _, _, rfl, rfl, _, rfl, _, _, rfl, s3.seq hS, fun p2 hp2 => ?_⟩
        rw [cut_vI (by omega) (by omega) (by omega)]
        obtain ⟨c2, hc2⟩ : ∃ c, c = (ks.drop (3 + en).toNat).take ((3 + en + tl).toNat - (3 + en).toNat) := ⟨_, rfl⟩
        rw [← hc2]
        have l2 : c2.length = tl.toNat := by rw [hc2, List.length_take, List.length_drop]; omega
        have n2 : ∀ x ∈ c2, 0 ≤ x := fun x hx => hnn x (cut_mem (hc2 ▸ hx))
        have s4 : Same (upd H2 q1 (.lst (vI th))) (upd (upd H2 q1 (.lst (vI th))) p2 (.lst (vI c2))) := .upd hp2
        refine ⟨_, rfl, ⟨_, SqL.of upd_same⟩, ?_⟩
        refine comp_list (K := K) (a := p2) (xs := vI c2) (fun i ys H3 => Same (upd (upd H2 q1 (.lst (vI th))) p2 (.lst (vI c2))) H3 ∧ ∃ (rs : List Addr) (tss : List (List Int)), ys = rs.map V.ref ∧ rs.length = i ∧ tss.length = i ∧ (∀ ks ∈ tss, Rs ks) ∧ ∀ (j : Nat) (a : Addr) (ks : List Int), rs[j]? = some a → tss[j]? = some ks → H3 a = some (.lst (vI ks)))
          ⟨.refl _, [], [], rfl, rfl, rfl, fun ks h => (by cases h), fun j a ks h => (by simp at h)⟩ ?_ ?_ ?_ ?_
        · rintro i ys H3 hi ⟨s5, rs, tss, rfl, hz, _⟩
          exact ⟨SqL.of (s5 _ _ upd_same), by rw [List.length_map]; omega⟩
        · rw [vI_len, l2]; omega
        · rintro i x ys H3 hi hx ⟨s5, rs, tss, rfl, hz, htl', hRs, hr3⟩
          obtain ⟨z, hz2, rfl⟩ := vI_got hx
          refine CTurn.no ⟨_, rfl, z, rfl, n2 z (List.mem_of_getElem? hz2), fun l ks' H4 s6 nl hl4 R' => CN.of hi ⟨s5.trans s6, rs ++ [l], tss ++ [ks'], (by rw [List.map_append]; rfl), by rw [List.length_append, hz]; rfl, by rw [List.length_append, htl']; rfl, fun ks hk => ?_, fun j a ks h1 h2 => ?_⟩⟩
          · rcases List.mem_append.mp hk with h | h
            · exact hRs ks h
            · rw [List.mem_singleton.mp h]; exact R'
          · by_cases hj : j < i
            · rw [List.getElem?_append_left (by omega)] at h1 h2
              exact s6 _ _ (hr3 j a ks h1 h2)
            · rw [List.getElem?_append_right (by omega)] at h1 h2
              have e0 : j = i := by
                have := (List.getElem?_eq_some_iff.mp h1).1
                simp at this
                omega
              rw [show j - rs.length = 0 by omega] at h1
              rw [show j - tss.length = 0 by omega] at h2
              have e1 : l = a := by simpa using h1
              have e2 : ks' = ks := by simpa using h2
              rw [← e1, ← e2]
              exact hl4
        · rintro ys H3 q2 ⟨s5, rs, tss, rfl, hrl, htsl, hRs, hr3⟩ hq2
          rw [vI_len, l2] at hrl htsl
          have s6 : Same (upd H2 q1 (.lst (vI th))) (upd H3 q2 (.lst (rs.map V.ref))) := (s4.trans s5).new hq2
          refine ⟨_, rfl, _, _, rfl, rfl, _, rfl, _, _, rfl, rfl, ?_⟩
          refine ⟨_, rfl, _, rfl, _, rfl, _, rfl, _, rfl, _, _, rfl, rfl, _, rfl, _, _, rfl, (s3.trans s6).seq hS, fun p3 hp3 => ?_⟩
          rw [cut_vI (by omega) (by omega) (by omega)]
          obtain ⟨c3, hc3⟩ : ∃ c, c = (ks.drop (3 + en + tl).toNat).take ((3 + en + tl + pk).toNat - (3 + en + tl).toNat) := ⟨_, rfl⟩
          rw [← hc3]
          have l3 : c3.length = pk.toNat := by rw [hc3, List.length_take, List.length_drop]; omega
          refine ⟨_, rfl, ⟨_, SqL.of upd_same⟩, ?_⟩
          refine comp_list (K := K) (a := p3) (xs := vI c3) (fun i ys H4 => Same (upd (upd H3 q2 (.lst (rs.map V.ref))) p3 (.lst (vI c3))) H4 ∧ ∃ zs : List Int, ys = vI zs ∧ zs.length = i ∧ ∀ x ∈ zs, 0 ≤ x ∧ x < tl)
            ⟨.refl _, [], rfl, rfl, fun _ h => absurd h (by simp)⟩ ?_ ?_ ?_ ?_
          · rintro i ys H4 hi ⟨s7, zs, rfl, hz, _⟩
            exact ⟨SqL.of (s7 _ _ upd_same), by rw [vI_len]; omega⟩
          · rw [vI_len, l3]; omega
          · rintro i x ys H4 hi hx ⟨s7, zs, rfl, hz, hb⟩
            obtain ⟨z, _, rfl⟩ := vI_got hx
            refine CTurn.no ⟨_, rfl, _, rfl, _, _, rfl, rfl, (by show (0 : Int) < tl; omega), CN.of hi ⟨s7, zs ++ [_], vI_app _ _, by rw [List.length_append, hz]; rfl, fun x hx' => ?_⟩⟩
            rcases List.mem_append.mp hx' with h | h
            · exact hb x h
            · rw [List.mem_singleton.mp h]
              exact ⟨Int.emod_nonneg _ (by omega), Int.emod_lt_of_pos _ (by omega)⟩
          · rintro ys H4 q3 ⟨s7, tr, rfl, htr, hb⟩ hq3
            rw [vI_len, l3] at htr
            refine ⟨_, rfl, _, rfl, _, rfl, (by show 3 ≤ sizeLine; decide), fun p hp => ?_⟩
            have s8 : Same (upd H3 q2 (.lst (rs.map V.ref))) (upd (upd H4 q3 (.lst (vI tr))) p (.tup [.ref q1, .ref q2, .ref q3])) := (((Same.upd hp3).trans s7).new hq3).new hp
            refine k p _ q1 q2 q3 rs th tss tr ((s3.trans s6).trans s8) upd_same (s8 _ _ (s6 _ _ upd_same)) ⟨s8 _ _ upd_same, by rw [hrl, htsl], fun j a ks h1 h2 => s8 _ _ ((Same.upd hq2) _ _ (hr3 j a ks h1 h2))⟩ ((Same.upd hp) _ _ upd_same)
              ⟨by omega, by omega, by omega, by omega, by omega, by omega, hthv, hRs, fun x hx => ?_⟩
            have := hb x hx
            rw [htsl]
            omega
def sp_nsame : Sp := fun vs H Q _ => ∃ (a b : Addr) (ks : List Int), vs = [.ref a, .ref b] ∧ H a = some (.lst (vI ks)) ∧ H b = some (.lst (vI ks)) ∧ ks.length ≤ 1000 ∧ Q (.bl true) H
theorem ok_law_numbers_same (T : Txt K mg t) : FnOk P w K mg base CX0 1 t.f_law_numbers_same t.d_law_numbers_same ["found", "due"] sp_nsame := by
  refine T.law_numbers_same.F.ok sc_law_numbers_same (fun vs H Q E h => ?_) (fun cdv A outer s H vs Q E hr h => ?_)
  · obtain ⟨a, b, ks, rfl, _⟩ := h
    rfl
  · obtain ⟨a, b, ks, rfl, ha, hb, hl, k⟩ := h
    refine ⟨_, (pss_cons (ps_if (PW.pt (pw_or (pt_not (pt_val (pe_callB (call_isiK (K := K)) rfl T.b_isinstance bt_isinstance (pa_cons (pv 0) (pa_cons (pe_bltn (v := .ty "list") rfl T.b_list bt_list rfl) pa_nil))))) (pw_or1 (pt_cmpR op_ne (pe_callB (call_len_seqK (K := K)) rfl T.b_len bt_len (pa_cons (pv 0) pa_nil)) (pe_callB (call_len_seqK (K := K)) rfl T.b_len bt_len (pa_cons (pv 1) pa_nil)) (nomark _)))))
        (pss_one (ps_ret pe_bl))
        pss_nil)
      (pss_cons (ps_for PassesOwn.never rfl (pi_range1 rfl T.b_range (pa_cons (pe_callB (call_len_seqK (K := K)) rfl T.b_len bt_len (pa_cons (pv 1) pa_nil)) pa_nil)) (pg_name (i := 2) sc_law_numbers_same.nd rfl (Or.inl rfl))
        (pss_one (ps_if (PW.pt (pw_or (pt_not (pt_val (pe_callB (call_isiK (K := K)) rfl T.b_isinstance bt_isinstance (pa_cons (pe_ix (ix_listK (K := K)) (pv 0) (pv 2) (fun _ _ => rfl)) (pa_cons (pe_bltn (v := .ty "int") rfl T.b_int bt_int rfl) pa_nil))))) (pw_or (pt_val (pe_callB (call_isiK (K := K)) rfl T.b_isinstance bt_isinstance (pa_cons (pe_ix (ix_listK (K := K)) (pv 0) (pv 2) (fun _ _ => rfl)) (pa_cons (pe_bltn (v := .ty "bool") rfl T.b_bool bt_bool rfl) pa_nil)))) (pw_or1 (pt_cmpR op_ne (pe_ix (ix_listK (K := K)) (pv 0) (pv 2) (fun _ _ => rfl)) (pe_ix (ix_listK (K := K)) (pv 1) (pv 2) (fun _ _ => rfl)) (nomark _))))))
          (pss_one (ps_ret pe_bl))
          pss_nil)))
      (pss_one (ps_ret pe_bl)))), ?_⟩
    refine ⟨_, rfl, _, _, true, .lst ha, .inl ⟨_, rfl, kit_same K _⟩, _, rfl, ?_⟩
    refine iteF ?_
    refine ⟨_, rfl, _, _, rfl, .inl (SqL.of ha), _, rfl, _, _, rfl, .inl (SqL.of hb), rfl, _, rfl, ?_⟩
    refine iteNS rfl ?_
    refine ⟨_, rfl, _, _, rfl, .inl (SqL.of hb), _, rfl, (by omega), (by rw [vI_len]; omega), ?_⟩
    rw [Int.toNat_natCast, vI_len]
    refine for_range (lo := 0) (n := ks.length) (fun i σ H2 => ∃ v, σ = [some (.ref a), some (.ref b), v] ∧ H2 = H) ⟨none, rfl, rfl⟩ ?_ ?_
    · rintro i σ H2 hi ⟨v, rfl, rfl⟩
      have e : atI (vI ks) (0 + (i : Int)) = some (.int ks[i]) := atI_of (by omega) (by rw [z0]; exact vI_get (List.getElem?_eq_getElem hi))
      refine ⟨_, rfl, _, rfl, _, _, _, _, rfl, rfl, SqL.of ha, e, _, _, true, .int _, .inl ⟨_, rfl, kit_same K _⟩, _, rfl, ?_⟩
      refine iteF ?_
      refine ⟨_, rfl, _, rfl, _, _, _, _, rfl, rfl, SqL.of ha, e, _, _, false, .int _, .inl ⟨_, rfl, kit_ib K⟩, _, rfl, ?_⟩
      refine iteF ?_
      refine ⟨_, rfl, _, rfl, _, _, _, _, rfl, rfl, SqL.of ha, e, _, rfl, _, rfl, _, _, _, _, rfl, rfl, SqL.of hb, e, rfl, _, rfl, ?_⟩
      refine iteNS rfl ?_
      exact ⟨_, rfl, rfl⟩
    · rintro σ H2 ⟨v, rfl, rfl⟩
      exact k
def sp_dsame (t : Adr) : Sp := fun vs H Q _ => ∃ (d dx a b c x y z : Addr) (qs rs : List Addr) (th : List Int) (tss : List (List Int)) (tr : List Int), vs = [.ref d, .ref x, .ref y, .ref z] ∧ IsD t H d dx a b c qs th tss tr ∧ H x = some (.lst (vI th)) ∧ NL H y rs tss ∧ H z = some (.lst (vI tr)) ∧ Ft th tss tr ∧ Q (.bl true) H
theorem ok_law_draft_same (T : Txt K mg t) : FnOk P w K mg base CX0 2 t.f_law_draft_same t.d_law_draft_same ["draft", "threading", "ties", "treading"] (sp_dsame t) := by
  have G_law_numbers_same : FnOk P w K mg base CX0 1 t.f_law_numbers_same t.d_law_numbers_same _ _ := ok_law_numbers_same T
  refine T.law_draft_same.F.ok sc_law_draft_same (fun vs H Q E h => ?_) (fun cdv A outer s H vs Q E hr h => ?_)
  · obtain ⟨d, dx, a, b, c, x, y, z, qs, rs, th, tss, tr, rfl, _⟩ := h
    rfl
  · obtain ⟨d, dx, a, b, c, x, y, z, qs, rs, th, tss, tr, rfl, D, hx, N, hz, F, k⟩ := h
    have m40 := F.m40
    have n40 := F.n40
    have t40 := F.t40
    refine ⟨_, (pss_cons (ps_if (PW.pt (pw_or (pt_not (pt_val (pe_call (G_law_numbers_same.mono (by decide)) hr rfl T.law_numbers_same.m T.law_numbers_same.F.kp T.law_numbers_same.b .nil pass0 (pa_cons (pe_fldK (K := K) (pv 0) rfl) (pa_cons (pv 1) pa_nil))))) (pw_or1 (pt_not (pt_val (pe_call (G_law_numbers_same.mono (by decide)) hr rfl T.law_numbers_same.m T.law_numbers_same.F.kp T.law_numbers_same.b .nil pass0 (pa_cons (pe_fldK (K := K) (pv 0) rfl) (pa_cons (pv 3) pa_nil))))))))
        (pss_one (ps_ret pe_bl))
        pss_nil)
      (pss_cons (ps_if (PW.pt (pw_or (pt_not (pt_val (pe_callB (call_isiK (K := K)) rfl T.b_isinstance bt_isinstance (pa_cons (pe_fldK (K := K) (pv 0) rfl) (pa_cons (pe_bltn (v := .ty "list") rfl T.b_list bt_list rfl) pa_nil))))) (pw_or1 (pt_cmpR op_ne (pe_callB (call_len_seqK (K := K)) rfl T.b_len bt_len (pa_cons (pe_fldK (K := K) (pv 0) rfl) pa_nil)) (pe_callB (call_len_seqK (K := K)) rfl T.b_len bt_len (pa_cons (pv 2) pa_nil)) (nomark _)))))
        (pss_one (ps_ret pe_bl))
        pss_nil)
      (pss_cons (ps_for PassesOwn.never rfl (pi_range1 rfl T.b_range (pa_cons (pe_callB (call_len_seqK (K := K)) rfl T.b_len bt_len (pa_cons (pv 2) pa_nil)) pa_nil)) (pg_name (i := 4) sc_law_draft_same.nd rfl (Or.inl rfl))
        (pss_one (ps_if (pt_not (pt_val (pe_call (G_law_numbers_same.mono (by decide)) hr rfl T.law_numbers_same.m T.law_numbers_same.F.kp T.law_numbers_same.b .nil pass0 (pa_cons (pe_ix (ix_listK (K := K)) (pe_fldK (K := K) (pv 0) rfl) (pv 4) (fun _ _ => rfl)) (pa_cons (pe_ix (ix_listK (K := K)) (pv 2) (pv 4) (fun _ _ => rfl)) pa_nil)))))
          (pss_one (ps_ret pe_bl))
          pss_nil)))
      (pss_one (ps_ret pe_bl))))), ?_⟩
    refine ⟨_, rfl, _, _, _, _, _, rfl, D.o, T.o_Draft.c, T.na_Draft_threading, df_th a b c, _, rfl, a, x, th, rfl, D.ha, hx, by omega, _, rfl, ?_⟩
    refine iteF ?_
    refine ⟨_, rfl, _, _, _, _, _, rfl, D.o, T.o_Draft.c, T.na_Draft_treading, df_tr a b c, _, rfl, c, z, tr, rfl, D.hc, hz, by omega, _, rfl, ?_⟩
    refine iteF ?_
    refine ⟨_, rfl, _, _, _, _, _, rfl, D.o, T.o_Draft.c, T.na_Draft_ties, df_ti a b c, _, _, true, .lst D.hb.h, .inl ⟨_, rfl, kit_same K _⟩, _, rfl, ?_⟩
    refine iteF ?_
    refine ⟨_, rfl, _, _, _, _, _, rfl, D.o, T.o_Draft.c, T.na_Draft_ties, df_ti a b c, _, _, rfl, .inl (SqL.of D.hb.h), _, rfl, _, _, rfl, .inl (SqL.of N.h), rfl, _, rfl, ?_⟩
    refine iteNS (by rw [List.length_map, List.length_map, D.hb.l, N.l]) ?_
    refine ⟨_, rfl, _, _, rfl, .inl (SqL.of N.h), _, rfl, (by omega), (by rw [List.length_map, N.l]; omega), ?_⟩
    rw [Int.toNat_natCast, List.length_map, N.l]
    refine for_range (lo := 0) (n := tss.length) (fun i σ H2 => ∃ v, σ = [some (.ref d), some (.ref x), some (.ref y), some (.ref z), v] ∧ H2 = H) ⟨none, rfl, rfl⟩ ?_ ?_
    · rintro i σ H2 hi ⟨v, rfl, rfl⟩
      have hiq : i < qs.length := by rw [D.hb.l]; exact hi
      have hir : i < rs.length := by rw [N.l]; exact hi
      have e1 : atI (qs.map V.ref) (0 + (i : Int)) = some (.ref qs[i]) := atI_of (by omega) (by rw [z0, List.getElem?_map, List.getElem?_eq_getElem hiq]; rfl)
      have e2 : atI (rs.map V.ref) (0 + (i : Int)) = some (.ref rs[i]) := atI_of (by omega) (by rw [z0, List.getElem?_map, List.getElem?_eq_getElem hir]; rfl)
      have r1 := D.hb.r i _ _ (List.getElem?_eq_getElem hiq) (List.getElem?_eq_getElem hi)
      have r2 := N.r i _ _ (List.getElem?_eq_getElem hir) (List.getElem?_eq_getElem hi)
      have sh := rs_short (F.hti _ (List.getElem_mem hi))
      refine ⟨_, rfl, _, _, _, _, _, rfl, D.o, T.o_Draft.c, T.na_Draft_ties, df_ti a b c, _, rfl, _, _, _, _, rfl, rfl, SqL.of D.hb.h, e1, _, rfl, _, rfl, _, _, _, _, rfl, rfl, SqL.of N.h, e2, qs[i], rs[i], tss[i], rfl, r1, r2, sh, _, rfl, ?_⟩
      refine iteF ?_
      exact ⟨_, rfl, rfl⟩
    · rintro σ H2 ⟨v, rfl, rfl⟩
      exact k
def nn (l : List Int) : List Nat := l.map Int.toNat
theorem ofN_nn {l : List Int} (h : ∀ z ∈ l, 0 ≤ z) : ofN (nn l) = l := by
  unfold ofN nn
  rw [List.map_map]
  refine (List.map_congr_left fun z hz => ?_).trans (List.map_id l)
  exact Int.toNat_of_nonneg (h z hz)
noncomputable def shI (ks : List Int) : List Nat := shT (nn ks)
structure Sw (ks : List Int) : Prop where
  w : Wr (shI ks) ks
  l : (shI ks).length ≤ 240
  t : ks ≠ [] → Wr ([49, 42, 40] ++ shI ks ++ [41]) ks
def sp_shI (K : PySem.W.Frag) : Sp := fun vs H Q _ => ∃ (l : Addr) (ks : List Int), vs = [.ref l] ∧ SqL K H l (vI ks) ∧ (∀ z ∈ ks, 0 ≤ z ∧ z < 40) ∧ ks.length ≤ 40 ∧ ∀ H', Same H H' → Sw ks → Q (.str (tx (shI ks))) H'
theorem ok_shI (T : Txt K mg t) : FnOk P w K mg base CX0 3 t.f_shown t.d_shown ["row"] (sp_shI K) := (ok_shw T).imp fun vs H Q E ⟨l, ks, e, hS, hb, hl, k⟩ => by
  have en := ofN_nn fun z hz => (hb z hz).1
  have ln : (nn ks).length = ks.length := by unfold nn; rw [List.length_map]
  refine ⟨l, nn ks, e, by rw [en]; exact hS, fun n hn => ?_, by omega, fun H' s S => k H' s ⟨?_, ?_, fun ne => ?_⟩⟩
  · unfold nn at hn
    obtain ⟨z, hz, rfl⟩ := List.mem_map.mp hn
    have := hb z hz
    omega
  · have := S.wr (by omega)
    rw [en] at this
    exact this
  · have := S.len (by omega)
    unfold shI
    omega
  · have := S.times (by omega) (fun z => ne (List.length_eq_zero_iff.mp (by rw [← ln, z]; rfl)))
    rw [en] at this
    exact this
theorem join_jnS (sp : List Nat) : ∀ us : List (List Nat), Txt.join (tx sp) (us.map tx) = tx (jnS sp us)
  | [] => by simp [Txt.join, Builtin.Str.glued, tx, Str.empty, jnS]
  | u :: us => by
    have key : ∀ (us : List (List Nat)) (u : List Nat), u ++ (us.map fun y => sp ++ y).flatten = jnS sp (u :: us) := fun us => by
      induction us with
      | nil => intro u; simp [jnS]
      | cons v r ih =>
        intro u
        rw [List.map_cons, List.flatten_cons, List.append_assoc, ih v]
        rfl
    rw [tx_joinS, key]
theorem jnS_len (sp : List Nat) {B : Nat} : ∀ us : List (List Nat), (∀ u ∈ us, u.length ≤ B) → (jnS sp us).length ≤ us.length * (B + sp.length)
  | [], _ => Nat.zero_le _
  | [u], h => by
    have := h u List.mem_cons_self
    show u.length ≤ 1 * (B + sp.length)
    omega
  | u :: v :: r, h => by
    have h1 := h u List.mem_cons_self
    have h2 := jnS_len sp (v :: r) fun x hx => h x (List.mem_cons_of_mem _ hx)
    show (u ++ (sp ++ jnS sp (v :: r))).length ≤ ((v :: r).length + 1) * (B + sp.length)
    rw [List.length_append, List.length_append, Nat.add_mul]
    omega
theorem lens_sum {B : Nat} : ∀ us : List (List Nat), (∀ u ∈ us, u.length ≤ B) → ((us.map tx).map (·.length)).sum ≤ us.length * B
  | [], _ => Nat.zero_le _
  | u :: r, h => by
    have h1 := h u List.mem_cons_self
    have h2 := lens_sum r fun x hx => h x (List.mem_cons_of_mem _ hx)
    rw [List.map_cons, List.map_cons, List.sum_cons, tx_len, List.length_cons, Nat.add_mul]
    omega
def drT (a : List Nat) (bs : List (List Nat)) (c : List Nat) : List Nat := jnS [32, 47, 32] [a, jnS [44, 32] bs, c]
theorem st_parts : ((" / " : Str)) = tx [32, 47, 32] := by decide +kernel
theorem st_ties : ((", " : Str)) = tx [44, 32] := by decide +kernel
def sp_wd (t : Adr) : Sp := fun vs H Q _ => ∃ (d dx a b c : Addr) (qs : List Addr) (th : List Int) (tss : List (List Int)) (tr : List Int), vs = [.ref d] ∧ IsD t H d dx a b c qs th tss tr ∧ Ft th tss tr ∧ ∀ H', Same H H' → Sw th → (∀ ks ∈ tss, Sw ks) → Sw tr → Q (.str (tx (drT (shI th) (tss.map shI) (shI tr)))) H'
theorem ok_written_draft (T : Txt K mg t) : FnOk P w K mg base CX0 4 t.f_written_draft t.d_written_draft ["draft"] (sp_wd t) := by
  have G_shown : FnOk P w K mg base CX0 3 t.f_shown t.d_shown _ _ := ok_shI T
  refine T.written_draft.F.ok sc_written_draft (fun vs H Q E h => ?_) (fun cdv A outer s H vs Q E hr h => ?_)
  · obtain ⟨d, dx, a, b, c, qs, th, tss, tr, rfl, _⟩ := h
    rfl
  · obtain ⟨d, dx, a, b, c, qs, th, tss, tr, rfl, D, F, k⟩ := h
    have m40 := F.m40
    have n40 := F.n40
    have t40 := F.t40
    have ql := D.hb.l
    have hsz : sizeLine = 16777216 := sizeLine_eq
    refine ⟨_, (pss_cons (ps_set (i := 1) sc_written_draft.nd rfl (Or.inl rfl) (pe_bmK (K := K) PySem.F.plainAttrs_str PySem.F.slot_str_join PySem.F.type_str_join (mt_joinK (K := K)) (pe_glob (v := .str ", ") rfl T.c_BETWEEN_TIES.choose_spec ⟨_, rfl⟩) (pa_cons (pe_comp (CompOk.mk (caps := []) (Nc := ["tie"]) rfl (by decide +kernel) (by decide +kernel) (comp_fr (sc0 := defScope s_written_draft) rfl (by decide +kernel)) rfl rfl rfl (by decide +kernel) (fun _ _ h => by simp at h)) rfl (pi_listK (K := K) (pe_fldK (K := K) (pv 0) rfl)) (fun _ _ _ _ _ => .nil) (fun _ _ _ _ _ => (pe_call (G_shown.mono (by decide)) hr rfl T.shown.m T.shown.F.kp T.shown.b .nil pass0 (pa_cons (pv 0) pa_nil)))) pa_nil)))
      (pss_one (ps_ret (pe_bmK (K := K) PySem.F.plainAttrs_str PySem.F.slot_str_join PySem.F.type_str_join (mt_joinK (K := K)) (pe_glob (v := .str " / ") rfl T.c_BETWEEN_PARTS.choose_spec ⟨_, rfl⟩) (pa_cons (pe_lst (pa_cons (pe_call (G_shown.mono (by decide)) hr rfl T.shown.m T.shown.F.kp T.shown.b .nil pass0 (pa_cons (pe_fldK (K := K) (pv 0) rfl) pa_nil)) (pa_cons (pv 1) (pa_cons (pe_call (G_shown.mono (by decide)) hr rfl T.shown.m T.shown.F.kp T.shown.b .nil pass0 (pa_cons (pe_fldK (K := K) (pv 0) rfl) pa_nil)) pa_nil)))) pa_nil))))), ?_⟩
    refine ⟨rfl, _, rfl, _, _, _, _, _, rfl, D.o, T.o_Draft.c, T.na_Draft_ties, df_ti a b c, _, rfl, ⟨_, SqL.of D.hb.h⟩, comp_list (K := K) (a := b) (xs := qs.map V.ref) (fun i ys H2 => Same H H2 ∧ ys = vS ((tss.take i).map shI) ∧ ∀ ks ∈ tss.take i, Sw ks) ⟨.refl _, rfl, fun ks h => (by simp at h)⟩ ?_ ?_ ?_ ?_⟩
    · rintro i ys H2 hi ⟨s2, rfl, _⟩
      refine ⟨SqL.of (s2 _ _ D.hb.h), ?_⟩
      rw [vS_len, List.length_map, List.length_take]
      omega
    · rw [List.length_map]; omega
    · rintro i x ys H2 hi hx ⟨s2, rfl, sw⟩
      obtain ⟨r, ks, rfl, h1, h2, h3⟩ := (D.hb.same s2).at hx
      have R := F.hti ks (List.mem_of_getElem? h2)
      refine CTurn.no ?_
      refine ⟨_, rfl, r, ks, rfl, SqL.of h3, R.2, rs40 R, fun H3 s3 S => ?_⟩
      dsimp only
      rw [vS_app]
      refine CN.of hi ⟨s2.trans s3, ?_, fun ks' h => ?_⟩
      · rw [List.take_add_one, h2, List.map_append]
        rfl
      · rw [List.take_add_one, h2] at h
        rcases List.mem_append.mp h with h | h
        · exact sw ks' h
        · rw [List.mem_singleton.mp h]; exact S
    rintro ys H2 q ⟨s2, rfl, sw⟩ hq
    rw [List.length_map, ql, List.take_length] at sw ⊢
    have lb : ∀ u ∈ tss.map shI, u.length ≤ 240 := fun u hu => by
      obtain ⟨ks, hk, rfl⟩ := List.mem_map.mp hu
      exact (sw ks hk).l
    have jb := jnS_len [44, 32] (tss.map shI) lb
    rw [List.length_map] at jb
    simp only [List.length_cons, List.length_nil] at jb
    refine ⟨_, _, (tss.map shI).map tx, rfl, rfl, SqL.of (by rw [upd_same, vS_map]), ?_, ?_⟩
    · have := lens_sum (tss.map shI) lb
      rw [List.length_map] at this
      rw [List.length_map, List.length_map, st_ties, tx_len]
      simp only [List.length_cons, List.length_nil]
      omega
    rw [st_ties, join_jnS]
    have s3 : Same H (upd H2 q (.lst (vS (tss.map shI)))) := s2.new hq
    generalize upd H2 q (.lst (vS (tss.map shI))) = H3 at s3 ⊢
    have D3 := D.same s3
    refine ⟨rfl, _, rfl, _, _, _, _, _, rfl, D3.o, T.o_Draft.c, T.na_Draft_threading, df_th a b c, a, th, rfl, SqL.of D3.ha, F.hth, m40, fun H4 s4 S1 => ?_⟩
    have D4 := D3.same s4
    refine ⟨_, rfl, _, rfl, _, _, _, _, _, rfl, D4.o, T.o_Draft.c, T.na_Draft_treading, df_tr a b c, c, tr, rfl, SqL.of D4.hc, fun z hz => ?_, n40, fun H5 s5 S2 => ?_⟩
    · have := F.htr z hz
      omega
    refine ⟨(by show 3 ≤ sizeLine; decide), fun l nl => ?_⟩
    refine ⟨_, _, [shI th, jnS [44, 32] (tss.map shI), shI tr].map tx, rfl, rfl, SqL.of upd_same, ?_, ?_⟩
    · have l1 := S1.l
      have l2 := S2.l
      rw [st_parts]
      simp only [List.map_cons, List.map_nil, List.sum_cons, List.sum_nil, List.length_cons, List.length_nil, tx_len]
      omega
    rw [st_parts, join_jnS]
    exact k _ (((s3.trans s4).trans s5).new nl) S1 sw S2
def Cps (H0 H : Hp) (qs : List Addr) (tss : List (List Int)) (i : Nat) : Prop := qs.length = i ∧ (∀ q ∈ qs, H0 q = none) ∧ ∀ (j : Nat) (q : Addr) (ks : List Int), qs[j]? = some q → tss[j]? = some ks → H q = some (.lst (vI ks))
theorem Cps.nil (H0 H : Hp) (tss : List (List Int)) : Cps H0 H [] tss 0 := ⟨rfl, fun q hq => (by cases hq), fun j q ks h => (by simp at h)⟩
theorem Cps.add {H0 H : Hp} {qs : List Addr} {tss : List (List Int)} {i : Nat} (C : Cps H0 H qs tss i) {l : Addr} {ks' : List Int} (nl : H l = none) (n0 : H0 l = none) (hk : tss[i]? = some ks') : Cps H0 (upd H l (.lst (vI ks'))) (qs ++ [l]) tss (i + 1) := by
  obtain ⟨hq, nq, hqs⟩ := C
  refine ⟨by rw [List.length_append, hq]; rfl, fun q h => ?_, fun j q ks h1 h2 => ?_⟩
  · rcases List.mem_append.mp h with h | h
    · exact nq q h
    · rw [List.mem_singleton.mp h]; exact n0
  · by_cases hj : j < qs.length
    · rw [List.getElem?_append_left hj] at h1
      exact (Same.upd nl) _ _ (hqs j q ks h1 h2)
    · rw [List.getElem?_append_right (by omega)] at h1
      have e0 : j = i := by
        have := (List.getElem?_eq_some_iff.mp h1).1
        simp at this
        omega
      rw [show j - qs.length = 0 by omega] at h1
      have e1 : l = q := by simpa using h1
      rw [e0, hk] at h2
      cases h2
      rw [← e1]
      exact upd_same
theorem Cps.add5 {H0 H H' : Hp} {qs : List Addr} {tss : List (List Int)} {i : Nat} (C : Cps H0 H qs tss i) {l : Addr} {ks' : List Int} (s : Same H H') (hl : H' l = some (.lst (vI ks'))) (n0 : H0 l = none) (hk : tss[i]? = some ks') : Cps H0 H' (qs ++ [l]) tss (i + 1) := by
  refine ⟨by rw [List.length_append, C.1]; rfl, fun q h => ?_, fun j q ks h1 h2 => ?_⟩
  · rcases List.mem_append.mp h with h | h
    · exact C.2.1 q h
    · rw [List.mem_singleton.mp h]; exact n0
  · have ql := C.1
    by_cases hj : j < qs.length
    · rw [List.getElem?_append_left hj] at h1
      exact s _ _ (C.2.2 j q ks h1 h2)
    · rw [List.getElem?_append_right (by omega)] at h1
      have e0 : j = i := by
        have := (List.getElem?_eq_some_iff.mp h1).1
        simp at this
        omega
      rw [show j - qs.length = 0 by omega] at h1
      have e1 : l = q := by simpa using h1
      rw [e0, hk] at h2
      cases h2
      rw [← e1]
      exact hl
def sp_rd (t : Adr) : Sp := fun vs H Q _ => ∃ (u0 : List Nat) (us : List (List Nat)) (u2 : List Nat) (th : List Int) (tss : List (List Int)) (tr : List Int), vs = [.str (tx (drT u0 us u2))] ∧ Wr u0 th ∧ us.length = tss.length ∧ (∀ (i : Nat) (u : List Nat) (ks : List Int), us[i]? = some u → tss[i]? = some ks → Wr u ks) ∧ Wr u2 tr ∧ Ft th tss tr ∧ (drT u0 us u2).length ≤ 1000000 ∧
  ∀ (d dx a b c : Addr) (qs : List Addr) (H' : Hp), Same H H' → IsD t H' d dx a b c qs th tss tr → Q (.ref d) H'
theorem ok_read_draft (T : Txt K mg t) : FnOk P w K mg base CX0 42 t.f_read_draft t.d_read_draft ["text"] (sp_rd t) := by
  have G_unfolded : FnOk P w K mg base CX0 41 t.f_unfolded t.d_unfolded _ _ := ok_unW T
  have G_Draft___init__ : FnOk P w K mg base CX0 4 t.f_Draft___init__ t.d_Draft___init__ _ _ := ok_Draft___init__ T
  refine T.read_draft.F.ok sc_read_draft (fun vs H Q E h => ?_) (fun cdv A outer s H vs Q E hr h => ?_)
  · obtain ⟨u0, us, u2, th, tss, tr, rfl, _⟩ := h
    rfl
  · obtain ⟨u0, us, u2, th, tss, tr, rfl, W0, ul, Ws, W2, F, dl, k⟩ := h
    have t1 := F.t1
    have t40 := F.t40
    have hsz : sizeLine = 16777216 := sizeLine_eq
    have une : us ≠ [] := fun z => by rw [z] at ul; simp at ul; omega
    have us44 : ∀ u ∈ us, ∀ c ∈ u, c ≠ 47 ∧ c ≠ 44 := fun u hu => by
      obtain ⟨i, hi, e⟩ := List.getElem_of_mem hu
      have hit : i < tss.length := by omega
      exact (Ws i u tss[i] (by rw [← e]; exact List.getElem?_eq_getElem hi) (List.getElem?_eq_getElem hit)).signs
    have js47 : ∀ (us : List (List Nat)), (∀ u ∈ us, ∀ c ∈ u, c ≠ 47 ∧ c ≠ 44) → 47 ∉ jnS [44, 32] us := fun us => by
      induction us with
      | nil => intro _ h; cases h
      | cons u r ih =>
        intro h z
        cases r with
        | nil => exact (h u List.mem_cons_self 47 z).1 rfl
        | cons v r =>
          rcases List.mem_append.mp (show 47 ∈ u ++ ([44, 32] ++ jnS [44, 32] (v :: r)) from z) with z | z
          · exact (h u List.mem_cons_self 47 z).1 rfl
          · rcases List.mem_append.mp z with z | z
            · simp at z
            · exact ih (fun x hx => h x (List.mem_cons_of_mem _ hx)) z
    have jl : (jnS [44, 32] us).length ≤ 1000000 := by
      have : (drT u0 us u2).length = u0.length + (3 + ((jnS [44, 32] us).length + (3 + u2.length))) := by
        unfold drT
        simp [jnS]
        omega
      omega
    refine ⟨_, (pss_cons (ps_set (i := 1) sc_read_draft.nd rfl (Or.inl rfl) (pe_bmK (K := K) PySem.F.plainAttrs_str PySem.F.slot_str_split PySem.F.type_str_split mt_splitS (pv 0) (pa_cons (pe_glob (v := .str " / ") rfl T.c_BETWEEN_PARTS.choose_spec ⟨_, rfl⟩) pa_nil)))
      (pss_cons (ps_if (pt_cmpR op_ne (pe_callB (call_len_seqK (K := K)) rfl T.b_len bt_len (pa_cons (pv 1) pa_nil)) pe_int (nomark _))
        (pss_one ps_never)
        pss_nil)
      (pss_cons (ps_set (i := 2) sc_read_draft.nd rfl (Or.inl rfl) (pe_call (G_unfolded.mono (by decide)) hr rfl T.unfolded.m T.unfolded.F.kp T.unfolded.b .nil pass0 (pa_cons (pe_ix (ix_listK (K := K)) (pv 1) pe_int (fun _ _ => rfl)) pa_nil)))
      (pss_cons (ps_setC (i := 3) (CompOk.mk (caps := []) (Nc := ["tie"]) rfl (by decide +kernel) (by decide +kernel) (comp_fr (sc0 := defScope s_read_draft) rfl (by decide +kernel)) rfl rfl rfl (by decide +kernel) (fun _ _ h => by simp at h)) rfl sc_read_draft.nd rfl rfl (pi_listK (K := K) (pe_bmK (K := K) PySem.F.plainAttrs_str PySem.F.slot_str_split PySem.F.type_str_split mt_splitS (pe_ix (ix_listK (K := K)) (pv 1) pe_int (fun _ _ => rfl)) (pa_cons (pe_glob (v := .str ", ") rfl T.c_BETWEEN_TIES.choose_spec ⟨_, rfl⟩) pa_nil))) (fun _ _ _ _ _ => .nil) (fun _ _ _ _ _ => (pe_call (G_unfolded.mono (by decide)) hr rfl T.unfolded.m T.unfolded.F.kp T.unfolded.b .nil pass0 (pa_cons (pv 0) pa_nil))) rfl)
      (pss_one (ps_ret (pe_make T.o_Draft.m (G_Draft___init__.mono (by decide)) hr rfl T.k_Draft T.m_Draft___init__.b .nil pass0 (pa_cons (pv 2) (pa_cons (pv 3) (pa_cons (pe_call (G_unfolded.mono (by decide)) hr rfl T.unfolded.m T.unfolded.F.kp T.unfolded.b .nil pass0 (pa_cons (pe_ix (ix_listK (K := K)) (pv 1) pe_int (fun _ _ => rfl)) pa_nil)) pa_nil)))))))))), ?_⟩
    refine ⟨_, rfl, rfl, [32, 47, 32], 47, 1, [u0, jnS [44, 32] us, u2], rfl, congrArg (fun z => [V.str z]) st_parts, sgn_parts, (by unfold drT at dl; omega), by simp, fun w hw => ?_, fun lp nlp => ?_⟩
    · simp only [List.mem_cons, List.not_mem_nil, or_false] at hw
      rcases hw with z | z | z <;> rw [z]
      · exact fun h => (W0.signs _ h).1 rfl
      · exact js47 us us44
      · exact fun h => (W2.signs _ h).1 rfl
    have s1 : Same H (upd H lp (.lst (vS [u0, jnS [44, 32] us, u2]))) := .upd nlp
    have hp : (upd H lp (.lst (vS [u0, jnS [44, 32] us, u2]))) lp = some (.lst (vS [u0, jnS [44, 32] us, u2])) := upd_same
    generalize upd H lp (.lst (vS [u0, jnS [44, 32] us, u2])) = H1 at s1 hp ⊢
    refine ⟨_, rfl, _, _, rfl, .inl (SqL.of hp), rfl, _, rfl, ?_⟩
    refine iteNS rfl ?_
    refine ⟨_, rfl, _, _, _, _, rfl, rfl, SqL.of hp, rfl, u0, th, rfl, W0, fun q0 H2 s2 nq0 hq0 => ?_⟩
    have hp2 := s2 _ _ hp
    refine ⟨_, rfl, _, _, _, _, rfl, rfl, SqL.of hp2, rfl, rfl, [44, 32], 44, 0, us, rfl, congrArg (fun z => [V.str z]) st_ties, sgn_ties, by omega, une, fun w hw h => (us44 w hw _ h).2 rfl, fun lt nlt => ?_⟩
    have s3 : Same H2 (upd H2 lt (.lst (vS us))) := .upd nlt
    have ht : (upd H2 lt (.lst (vS us))) lt = some (.lst (vS us)) := upd_same
    generalize upd H2 lt (.lst (vS us)) = H3 at s3 ht ⊢
    refine ⟨_, rfl, ⟨_, SqL.of ht⟩, comp_list (K := K) (a := lt) (xs := vS us) (fun i ys H4 => Same H3 H4 ∧ ∃ qs : List Addr, ys = qs.map V.ref ∧ Cps H3 H4 qs tss i) ⟨.refl _, [], rfl, Cps.nil _ _ _⟩ ?_ ?_ ?_ ?_⟩
    · rintro i ys H4 hi ⟨s4, qs, rfl, C⟩
      exact ⟨SqL.of (s4 _ _ ht), by rw [List.length_map, C.1]; exact Nat.le_refl _⟩
    · rw [vS_len]; omega
    · rintro i xv ys H4 hi hxv ⟨s4, qs, rfl, C⟩
      obtain ⟨u, hu, rfl⟩ := vS_got hxv
      have hit : i < tss.length := by have := (List.getElem?_eq_some_iff.mp hu).1; omega
      have hk : tss[i]? = some tss[i] := List.getElem?_eq_getElem hit
      refine CTurn.no ?_
      refine ⟨_, rfl, u, tss[i], rfl, Ws i u _ hu hk, fun q H5 s5 nq hq => ?_⟩
      exact CN.of hi ⟨s4.trans s5, qs ++ [q], by rw [List.map_append]; rfl, C.add5 s5 hq (s4.free nq) hk⟩
    rintro ys H4 lz ⟨s4, qs0, rfl, C4⟩ nlz
    rw [vS_len, ul] at C4
    have s5 : Same H4 (upd H4 lz (.lst (qs0.map V.ref))) := .upd nlz
    have hlz : (upd H4 lz (.lst (qs0.map V.ref))) lz = some (.lst (qs0.map V.ref)) := upd_same
    generalize upd H4 lz (.lst (qs0.map V.ref)) = H5 at s5 hlz ⊢
    have Z5 : NL H5 lz qs0 tss := ⟨hlz, C4.1, fun j q ks h1 h2 => s5 _ _ (C4.2.2 j q ks h1 h2)⟩
    have u35 := (s3.trans s4).trans s5
    refine ⟨_, rfl, _, rfl, _, rfl, _, _, _, _, rfl, rfl, SqL.of (u35 _ _ hp2), rfl, u2, tr, rfl, W2, fun q2 H6 s6 nq2 hq2 => ?_⟩
    refine fun d dx nd ndx ndd => ?_
    have sd : Same H6 (upd (upd H6 dx (.own d)) d (.ins t.e_Draft dx [])) := (Same.upd ndx).over nd
    refine ⟨d, dx, q0, lz, q2, qs0, th, tss, tr, rfl, upd_same, sd _ _ (s6 _ _ (u35 _ _ hq0)), (Z5.same s6).same sd, sd _ _ hq2, F, fun a b c qs H7 b7 _ _ _ _ D => ⟨rfl, ?_⟩⟩
    have s7 : Same H6 H7 := fun b o e => b7 b o (fun z => by rw [z, nd] at e; cases e) (sd _ _ e)
    exact k d dx a b c qs H7 (((s1.trans s2).trans u35).trans (s6.trans s7)) D
theorem at_set {i : Nat} {v : V} {σ σ' : St} {H : Hp} {Kt : St → Hp → Prop} (h : σ.set i (some v) = σ') (k : Kt σ' H) : gName i v σ H Kt := by subst h; exact k
theorem by_restH {G : Prop} {R : Hp → Prop} (C : Hp → Prop) (main : (∀ H, C H → R H) → G) (rest : ∀ H, C H → R H) : G := main rest
theorem by_restU {G : Prop} {R : List Nat → Prop} (C : List Nat → Prop) (main : (∀ u, C u → R u) → G) (rest : ∀ u, C u → R u) : G := main rest
theorem pn1 (n : Nat) : pnum (ofN [n]) = ofN [n] := rfl
theorem pn2 (n : Nat) : pnum (ofN [n, n]) = ofN [n] := by
  show ofN [n] ++ (stps (n : Int) (n : Int) ++ []) = _
  have : stps (n : Int) (n : Int) = [] := stps_nil _
  rw [this]
  simp
def sp_ow (K : PySem.W.Frag) : Sp := fun vs H Q _ => ∃ (l : Addr) (ks : List Int) (way : Int), vs = [.ref l, .int way] ∧ H l = some (.lst (vI ks)) ∧ (∀ z ∈ ks, 0 ≤ z ∧ z < 40) ∧ ks.length ≤ 40 ∧ ∀ (u : List Nat) (H' : Hp), Same H H' → Wr u ks → u.length ≤ 400 → Q (.str (tx u)) H'
theorem ok_law_other_writing (T : Txt K mg t) : FnOk P w K mg base CX0 4 t.f_law_other_writing t.d_law_other_writing ["row", "way"] (sp_ow K) := by
  have G_shown : FnOk P w K mg base CX0 3 t.f_shown t.d_shown _ _ := ok_shI T
  refine T.law_other_writing.F.ok sc_law_other_writing (fun vs H Q E h => ?_) (fun cdv A outer s H vs Q E hr h => ?_)
  · obtain ⟨l, ks, way, rfl, _⟩ := h
    rfl
  · obtain ⟨l, ks, way, rfl, hl, hb, h40, k⟩ := h
    have hsz : sizeLine = 16777216 := sizeLine_eq
    refine ⟨_, (pss_cons (ps_if (PW.pt (pw_and (pt_cmpR op_eq (pe_op op_mod (pv 1) pe_int) pe_int (nomark _)) (pw_and1 (pt_cmpR (op_neLK (K := K) (hr.units0)) (pv 0) (pe_lst pa_nil) (nomark _)))))
        (pss_one (ps_ret (pe_op op_add_str (pe_op op_add_str pe_str (pe_call (G_shown.mono (by decide)) hr rfl T.shown.m T.shown.F.kp T.shown.b .nil pass0 (pa_cons (pe_callTy (call_list_ofK (K := K)) rfl T.b_list bt_list (pa_cons (pv 0) pa_nil)) pa_nil))) pe_str)))
        pss_nil)
      (pss_cons (ps_if (PW.pt (pw_and (pt_cmpR op_eq (pe_op op_mod (pv 1) pe_int) pe_int (nomark _)) (pw_and1 (pt_cmpR op_le (pe_callB (call_len_seqK (K := K)) rfl T.b_len bt_len (pa_cons (pv 0) pa_nil)) (pe_op op_sub pe_int (pe_op op_mod (pe_op op_fdiv (pv 1) pe_int) pe_int)) (nomark _)))))
        (pss_cons (ps_set (i := 2) sc_law_other_writing.nd rfl (Or.inl rfl) (pe_lst pa_nil))
        (pss_cons (ps_for PassesOwn.never rfl (pi_listK (K := K) (pv 0)) (pg_name (i := 3) sc_law_other_writing.nd rfl (Or.inl rfl))
          (pss_cons (ps_set (i := 4) sc_law_other_writing.nd rfl (Or.inl rfl) (pe_callTy call_str_int rfl T.b_str bt_str (pa_cons (pv 3) pa_nil)))
          (pss_cons (ps_if (pt_cmpR op_eq (pe_op op_mod (pe_op op_add (pv 3) (pv 1)) pe_int) pe_int (nomark _))
            (pss_one (ps_set (i := 4) sc_law_other_writing.nd rfl (Or.inl rfl) (pe_op op_add_str (pe_op op_add_str (pv 4) pe_str) (pv 4))))
            pss_nil)
          (pss_one (ps_expr (pe_bmK (K := K) PySem.F.plainAttrs_list PySem.F.slot_list_append PySem.F.type_list_append mt_append (pv 2) (pa_cons (pv 4) pa_nil)))))))
        (pss_one (ps_ret (pe_bmK (K := K) PySem.F.plainAttrs_str PySem.F.slot_str_join PySem.F.type_str_join (mt_joinK (K := K)) pe_str (pa_cons (pv 2) pa_nil))))))
        pss_nil)
      (pss_one (ps_ret (pe_call (G_shown.mono (by decide)) hr rfl T.shown.m T.shown.F.kp T.shown.b .nil pass0 (pa_cons (pe_callTy (call_list_ofK (K := K)) rfl T.b_list bt_list (pa_cons (pv 0) pa_nil)) pa_nil)))))), ?_⟩
    apply by_restH (fun H' => Same H H')
    · intro rest
      refine ⟨_, rfl, _, _, rfl, rfl, (by show (0 : Int) < 3; decide), rfl, _, rfl, ?_⟩
      refine ite2D ?tt ?ff
      case tt =>
        intro _
        refine ⟨_, rfl, Nat.zero_le _, fun e ne => ?_⟩
        have s1 : Same H (upd H e (.lst [])) := .upd ne
        have he : (upd H e (.lst [])) e = some (.lst []) := upd_same
        generalize upd H e (.lst []) = H1 at s1 he ⊢
        refine ⟨_, _, _, _, rfl, rfl, SqL.of (s1 _ _ hl), SqL.of he, vI_flat ks, rfl, _, rfl, ?_⟩
        cases ks with
        | nil =>
          refine iteF ?_
          exact rest H1 s1
        | cons z r =>
          refine iteT ?_
          refine ⟨_, rfl, _, _, rfl, .inl (SqL.of (s1 _ _ hl)), fun c nc => ?_⟩
          have s2 : Same H1 (upd H1 c (.lst (vI (z :: r)))) := .upd nc
          refine ⟨c, z :: r, rfl, SqL.of upd_same, hb, h40, fun H3 s3 S => ?_⟩
          have sl := S.l
          have e1 : (("1*(" : Str)) = tx [49, 42, 40] := by decide +kernel
          have e2 : ((")" : Str)) = tx [41] := by decide +kernel
          refine ⟨_, _, rfl, rfl, (by rw [e1, tx_len, tx_len]; simp only [List.length_cons, List.length_nil]; omega), _, _, rfl, rfl, (by rw [e1, e2, tx_app, tx_len, tx_len, List.length_append]; simp only [List.length_cons, List.length_nil]; omega), ?_⟩
          rw [e1, e2, tx_app, tx_app]
          exact k _ H3 ((s1.trans s2).trans s3) (S.t (by simp)) (by simp only [List.length_append, List.length_cons, List.length_nil]; omega)
      case ff => exact fun _ => rest H (.refl _)
    intro H1 s1
    apply by_restH (fun H' => Same H H')
    · intro rest
      refine ⟨_, rfl, _, _, rfl, rfl, (by show (0 : Int) < 3; decide), rfl, _, rfl, ?_⟩
      refine ite2D ?tt ?ff
      case ff =>
        intro _
        obtain ⟨H2, e2⟩ : ∃ H2, H2 = H1 := ⟨_, rfl⟩
        rw [← e2]
        exact rest H2 (e2 ▸ s1)
      intro _
      refine ⟨_, rfl, _, _, rfl, .inl (SqL.of (s1 _ _ hl)), _, rfl, _, _, rfl, rfl, ⟨by decide, by decide⟩, _, _, rfl, rfl, (by show (0 : Int) < 40; decide), _, _, rfl, rfl, _, _, rfl, rfl, _, rfl, ?_⟩
      refine ite2D (fun _ => ?_) (fun _ => rest H1 s1)
      refine ⟨Nat.zero_le _, fun p np => ?_⟩
      have np0 : H p = none := s1.free np
      have s2 : Same H1 (upd H1 p (.lst [])) := .upd np
      have hp : (upd H1 p (.lst [])) p = some (.lst (vS (([] : List (List Nat)).map pathT))) := upd_same
      generalize upd H1 p (.lst []) = H2 at s2 hp ⊢
      refine at_set (σ' := [some (.ref l), some (.int way), some (.ref p), none, none]) rfl ?_
      refine ⟨_, rfl, _, rfl, ⟨_, SqL.of (s2 _ _ (s1 _ _ hl))⟩, for_list (K := K) (a := l) (xs := vI ks) (fun i σ H3 => ∃ (v3 v4 : Option V) (pss : List (List Nat)), σ = [some (.ref l), some (.int way), some (.ref p), v3, v4] ∧ Same H H3 ∧ H3 p = some (.lst (vS (pss.map pathT))) ∧ pss.length = i ∧ (∀ q ∈ pss, Okp q ∧ q.length ≤ 2) ∧ nT pss = ks.take i) ⟨none, none, [], rfl, s1.trans s2, hp, rfl, fun q h => (by cases h), rfl⟩ (fun i σ H3 _ ⟨_, _, _, _, q, _⟩ => SqL.of (q _ _ hl)) ?_ ?_⟩
      · rintro i xv σ H3 hx ⟨v3, v4, pss, rfl, s3, hp3, pl, ok, nt⟩
        obtain ⟨z, hz, rfl⟩ := vI_got hx
        have bz := hb z (List.mem_of_getElem? hz)
        obtain ⟨n, rfl⟩ : ∃ n : Nat, z = (n : Int) := ⟨z.toNat, by omega⟩
        have hi : i < ks.length := (List.getElem?_eq_some_iff.mp hz).1
        have n100 : n < 100 := by omega
        have dl := (dec_is n100).l2
        refine at_set (σ' := [some (.ref l), some (.int way), some (.ref p), some (.int (n : Int)), v4]) rfl ?_
        refine ⟨_, rfl, _, rfl, ?_, ?_⟩
        · show (n : Int).natAbs.log2 < 1920
          rw [Int.natAbs_natCast]
          by_cases c : n = 0
          · rw [c]; decide
          · exact (Nat.log2_lt c).mpr (Nat.lt_of_lt_of_le n100 (Nat.le_trans (by decide : 100 ≤ 2 ^ 7) (Nat.pow_le_pow_right (by decide) (by decide))))
        refine at_set (σ' := [some (.ref l), some (.int way), some (.ref p), some (.int (n : Int)), some (.str (tx (dec n)))]) (by rw [← dec_tx]; rfl) ?_
        have fin : ∀ q : List Nat, (q = [n] ∨ q = [n, n]) → ∃ (v3 v4 : Option V) (pss' : List (List Nat)), [some (.ref l), some (.int way), some (.ref p), some (.int (n : Int)), some (.str (tx (pathT q)))] = [some (V.ref l), some (.int way), some (.ref p), v3, v4] ∧ Same H (upd H3 p (.lst (vS (pss.map pathT) ++ [.str (tx (pathT q))]))) ∧ (upd H3 p (.lst (vS (pss.map pathT) ++ [.str (tx (pathT q))]))) p = some (.lst (vS (pss'.map pathT))) ∧ pss'.length = i + 1 ∧ (∀ q ∈ pss', Okp q ∧ q.length ≤ 2) ∧ nT pss' = ks.take (i + 1) := fun q hq => by
          refine ⟨_, _, pss ++ [q], rfl, s3.over np0, ?_, by rw [List.length_append, pl]; rfl, fun q' h => ?_, ?_⟩
          · rw [upd_same, vS_app, List.map_append]; rfl
          · rcases List.mem_append.mp h with h | h
            · exact ok q' h
            · rw [List.mem_singleton.mp h]
              rcases hq with rfl | rfl
              · exact ⟨⟨by simp, by simp, fun m hm => by rw [List.mem_singleton.mp hm]; exact n100⟩, by simp⟩
              · refine ⟨⟨by simp, by simp, fun m hm => ?_⟩, by simp⟩
                simp only [List.mem_cons, List.not_mem_nil, or_false, or_self] at hm
                rw [hm]; exact n100
          · rw [nT_snoc, nt, List.take_add_one, hz]
            congr 1
            rcases hq with rfl | rfl
            · exact pn1 n
            · exact pn2 n
        apply by_restU (fun u => ∃ q : List Nat, (q = [n] ∨ q = [n, n]) ∧ u = pathT q)
        · intro rest2
          refine ⟨_, rfl, _, rfl, _, _, rfl, rfl, _, _, rfl, rfl, (by show (0 : Int) < 5; decide), rfl, _, rfl, ?_⟩
          refine ite2D ?ta ?fa
          case ta =>
            intro _
            have e3 : (("-" : Str)) = tx [45] := by decide +kernel
            refine ⟨_, rfl, _, _, rfl, rfl, (by rw [e3, tx_len, tx_len]; simp only [List.length_cons, List.length_nil]; omega), _, rfl, _, _, rfl, rfl, (by rw [e3, tx_app, tx_len, tx_len, List.length_append]; simp only [List.length_cons, List.length_nil]; omega), ?_⟩
            rw [e3, tx_app, tx_app]
            obtain ⟨u, eu⟩ : ∃ u, u = dec n ++ [45] ++ dec n := ⟨_, rfl⟩
            rw [← eu]
            refine at_set (σ' := [some (.ref l), some (.int way), some (.ref p), some (.int (n : Int)), some (.str (tx u))]) rfl ?_
            exact rest2 u ⟨[n, n], .inr rfl, by rw [eu]; show _ = dec n ++ (45 :: (dec n ++ [])); simp⟩
          case fa => exact fun _ => rest2 (dec n) ⟨[n], .inl rfl, by show _ = dec n ++ []; simp⟩
        rintro u ⟨q, hq, rfl⟩
        refine ⟨_, rfl, .inl ⟨rfl, _, SqL.of hp3⟩, _, rfl, _, _, _, rfl, rfl, hp3, (by rw [vS_len, List.length_map]; omega), ?_⟩
        exact fin q hq
      · rintro σ H3 ⟨v3, v4, pss, rfl, s3, hp3, pl, ok, nt⟩
        rw [vI_len] at pl nt
        rw [List.take_length] at nt
        have okp : ∀ q ∈ pss, Okp q := fun q h => (ok q h).1
        have fl : pss.flatten.length ≤ 2 * pss.length := by
          clear nt pl hp3 okp
          induction pss with
          | nil => exact Nat.le_refl _
          | cons q r ih =>
            have h1 := (ok q List.mem_cons_self).2
            have h2 := ih fun x hx => ok x (List.mem_cons_of_mem _ hx)
            rw [List.flatten_cons, List.length_append, List.length_cons]
            omega
        have rl := rT_short okp
        have wr := wr_paths okp (by omega) (by omega) (by rw [nt]; omega)
        rw [nt] at wr
        have pb : ∀ u ∈ pss.map pathT, u.length ≤ 6 := fun u hu => by
          obtain ⟨q, hq, rfl⟩ := List.mem_map.mp hu
          have h1 := pathT_len1 (List.length_pos_iff.mp (okp q hq).ne)
          have h2 := cP_le (okp q hq).bd
          have h3 := (ok q hq).2
          omega
        refine ⟨rfl, _, rfl, _, _, (pss.map pathT).map tx, rfl, rfl, SqL.of (by rw [hp3, vS_map]), ?_, ?_⟩
        · have := lens_sum (pss.map pathT) pb
          have d1 : Str.length " " = 1 := by decide +kernel
          rw [List.length_map] at this
          rw [List.length_map, List.length_map, d1]
          omega
        · rw [show ((" " : Str)) = tx [32] from by decide +kernel, join_rows]
          exact k _ H3 s3 wr (by omega)
    intro H2 s2
    refine ⟨_, rfl, _, _, rfl, .inl (SqL.of (s2 _ _ hl)), fun c nc => ?_⟩
    have s3 : Same H2 (upd H2 c (.lst (vI ks))) := .upd nc
    exact ⟨c, ks, rfl, SqL.of upd_same, hb, h40, fun H3 s4 S => k _ H3 ((s2.trans s3).trans s4) S.w (by have := S.l; omega)⟩
def sp_jd : Sp := fun vs H Q _ => ∃ (a c : List Nat) (bs : List (List Nat)) (l : Addr), vs = [.str (tx a), .ref l, .str (tx c)] ∧ H l = some (.lst (vS bs)) ∧ a.length ≤ 400 ∧ c.length ≤ 400 ∧ bs.length ≤ 40 ∧ (∀ u ∈ bs, u.length ≤ 400) ∧ ((drT a bs c).length ≤ 1000000 → Q (.str (tx (drT a bs c))) H)
theorem ok_law_joined (T : Txt K mg t) : FnOk P w K mg base CX0 1 t.f_law_joined t.d_law_joined ["threading", "ties", "treading"] sp_jd := by
  refine T.law_joined.F.ok sc_law_joined (fun vs H Q E h => ?_) (fun cdv A outer s H vs Q E hr h => ?_)
  · obtain ⟨a, c, bs, l, rfl, _⟩ := h
    rfl
  · obtain ⟨a, c, bs, l, rfl, hl, al, cl, bl, ub, k⟩ := h
    have hsz : sizeLine = 16777216 := sizeLine_eq
    have jb := jnS_len [44, 32] bs ub
    simp only [List.length_cons, List.length_nil] at jb
    have ls := lens_sum bs ub
    refine ⟨_, (pss_one (ps_ret (pe_op op_add_str (pe_op op_add_str (pe_op op_add_str (pe_op op_add_str (pv 0) pe_str) (pe_bmK (K := K) PySem.F.plainAttrs_str PySem.F.slot_str_join PySem.F.type_str_join (mt_joinK (K := K)) pe_str (pa_cons (pv 1) pa_nil))) pe_str) (pv 2)))), ?_⟩
    refine ⟨_, rfl, _, _, rfl, rfl, (by rw [st_parts, tx_len, tx_len]; simp only [List.length_cons, List.length_nil]; omega), ?_⟩
    refine ⟨rfl, _, rfl, _, _, bs.map tx, rfl, rfl, SqL.of (by rw [hl, vS_map]), (by rw [List.length_map, st_ties, tx_len]; simp only [List.length_cons, List.length_nil]; omega), ?_⟩
    rw [st_ties, join_jnS, st_parts, tx_app]
    refine ⟨_, _, rfl, rfl, (by rw [tx_len, tx_len, List.length_append]; simp only [List.length_cons, List.length_nil]; omega), ?_⟩
    rw [tx_app]
    refine ⟨_, _, rfl, rfl, (by rw [tx_len, tx_len, List.length_append, List.length_append]; simp only [List.length_cons, List.length_nil]; omega), ?_⟩
    rw [tx_app]
    refine ⟨_, rfl, _, _, rfl, rfl, (by rw [tx_len, tx_len, List.length_append, List.length_append, List.length_append]; simp only [List.length_cons, List.length_nil]; omega), ?_⟩
    rw [tx_app]
    have e : a ++ [32, 47, 32] ++ jnS [44, 32] bs ++ [32, 47, 32] ++ c = drT a bs c := by
      unfold drT
      simp [jnS]
    rw [e]
    refine k ?_
    rw [← e]
    simp only [List.length_append, List.length_cons, List.length_nil]
    omega
def sp_law (K : PySem.W.Frag) : Sp := fun vs H Q _ => ∃ (a : Addr) (ns : List Int), vs = [.ref a] ∧ SqL K H a (vI ns) ∧ ns.length ≤ 63 ∧ ∀ H', Q (.bl true) H'
theorem sp_law_holds {K : PySem.W.Frag} {H : Hp} {a : Addr} {ns : List Int} (hl : ns.length ≤ 63) (hS : SqL K H a (ns.map V.int)) : sp_law K [.ref a] H (fun v _ => v = .bl true) fun _ _ _ => False := ⟨a, ns, rfl, hS, hl, fun _ => rfl⟩
theorem cut2 (ks : List Int) (h : 2 ≤ ks.length) : cutV (vI ks) (some 2) none = vI (ks.drop 2) := by
  unfold cutV
  have e0 : HT.sIx (vI ks).length 0 (some 2) = 2 := by
    show HT.sIx (vI ks).length 0 (some ((2 : Nat) : Int)) = 2
    rw [HT.sIx_nat, vI_len]
    omega
  rw [e0, HT.sIx_none]
  unfold vI
  rw [List.map_drop, List.take_of_length_le (by simp)]
theorem wrs_at {tss : List (List Int)} (h : ∀ ks ∈ tss, Sw ks) : ∀ (i : Nat) (u : List Nat) (ks : List Int), (tss.map shI)[i]? = some u → tss[i]? = some ks → Wr u ks := fun i u ks h1 h2 => by
  rw [List.getElem?_map, h2] at h1
  cases h1
  exact (h ks (List.mem_of_getElem? h2)).w
theorem ok_law (T : Txt K mg t) : FnOk P w K mg base CX0 43 t.f_law t.d_law ["script"] (sp_law K) := by
  have G_law_numbers : FnOk P w K mg base CX0 1 t.f_law_numbers t.d_law_numbers _ _ := ok_law_numbers T
  have G_law_draft_by : FnOk P w K mg base CX0 2 t.f_law_draft_by t.d_law_draft_by _ _ := ok_law_draft_by T
  have G_shown : FnOk P w K mg base CX0 3 t.f_shown t.d_shown _ _ := ok_shI T
  have G_law_joined : FnOk P w K mg base CX0 1 t.f_law_joined t.d_law_joined _ _ := ok_law_joined T
  have G_Draft___init__ : FnOk P w K mg base CX0 4 t.f_Draft___init__ t.d_Draft___init__ _ _ := ok_Draft___init__ T
  have G_written_draft : FnOk P w K mg base CX0 4 t.f_written_draft t.d_written_draft _ _ := ok_written_draft T
  have G_read_draft : FnOk P w K mg base CX0 42 t.f_read_draft t.d_read_draft _ _ := ok_read_draft T
  have G_law_draft_same : FnOk P w K mg base CX0 2 t.f_law_draft_same t.d_law_draft_same _ _ := ok_law_draft_same T
  have G_law_other_writing : FnOk P w K mg base CX0 4 t.f_law_other_writing t.d_law_other_writing _ _ := ok_law_other_writing T
  refine T.law.F.ok sc_law (fun vs H Q E h => ?_) (fun cdv A outer s H vs Q E hr h => ?_)
  · obtain ⟨a, ns, rfl, _⟩ := h
    rfl
  · obtain ⟨sc, ns, rfl, hS, hl, k⟩ := h
    have hsz : sizeLine = 16777216 := sizeLine_eq
    refine ⟨_, (pss_cons (ps_set (i := 1) sc_law.nd rfl (Or.inr rfl) (pe_call (G_law_numbers.mono (by decide)) hr rfl T.law_numbers.m T.law_numbers.F.kp T.law_numbers.b .nil pass0 (pa_cons (pv 0) (pa_cons pe_int pa_nil))))
      (pss_cons (ps_set (i := 2) sc_law.nd rfl (Or.inr rfl) (pe_call (G_law_draft_by.mono (by decide)) hr rfl T.law_draft_by.m T.law_draft_by.F.kp T.law_draft_by.b .nil pass0 (pa_cons (pe_slice (sl_listK (K := K)) (pv 1) (po_some pe_int) po_none) pa_nil)))
      (pss_cons (ps_setC (i := 3) (CompOk.mk (caps := []) (Nc := ["tie"]) rfl (by decide +kernel) (by decide +kernel) (comp_fr (sc0 := defScope s_law) rfl (by decide +kernel)) rfl rfl rfl (by decide +kernel) (fun _ _ h => by simp at h)) rfl sc_law.nd rfl rfl (pi_listK (K := K) (pe_ix (ix_tupK (K := K)) (pv 2) pe_int (fun _ _ => rfl))) (fun _ _ _ _ _ => .nil) (fun _ _ _ _ _ => (pe_call (G_shown.mono (by decide)) hr rfl T.shown.m T.shown.F.kp T.shown.b .nil pass0 (pa_cons (pe_callTy (call_list_ofK (K := K)) rfl T.b_list bt_list (pa_cons (pv 0) pa_nil)) pa_nil))) rfl)
      (pss_cons (ps_set (i := 4) sc_law.nd rfl (Or.inl rfl) (pe_call (G_law_joined.mono (by decide)) hr rfl T.law_joined.m T.law_joined.F.kp T.law_joined.b .nil pass0 (pa_cons (pe_call (G_shown.mono (by decide)) hr rfl T.shown.m T.shown.F.kp T.shown.b .nil pass0 (pa_cons (pe_callTy (call_list_ofK (K := K)) rfl T.b_list bt_list (pa_cons (pe_ix (ix_tupK (K := K)) (pv 2) pe_int (fun _ _ => rfl)) pa_nil)) pa_nil)) (pa_cons (pv 3) (pa_cons (pe_call (G_shown.mono (by decide)) hr rfl T.shown.m T.shown.F.kp T.shown.b .nil pass0 (pa_cons (pe_callTy (call_list_ofK (K := K)) rfl T.b_list bt_list (pa_cons (pe_ix (ix_tupK (K := K)) (pv 2) pe_int (fun _ _ => rfl)) pa_nil)) pa_nil)) pa_nil)))))
      (pss_cons (ps_set (i := 5) sc_law.nd rfl (Or.inl rfl) (pe_make T.o_Draft.m (G_Draft___init__.mono (by decide)) hr rfl T.k_Draft T.m_Draft___init__.b .nil pass0 (pa_cons (pe_callTy (call_list_ofK (K := K)) rfl T.b_list bt_list (pa_cons (pe_ix (ix_tupK (K := K)) (pv 2) pe_int (fun _ _ => rfl)) pa_nil)) (pa_cons (pe_comp (CompOk.mk (caps := []) (Nc := ["tie"]) rfl (by decide +kernel) (by decide +kernel) (comp_fr (sc0 := defScope s_law) rfl (by decide +kernel)) rfl rfl rfl (by decide +kernel) (fun _ _ h => by simp at h)) rfl (pi_listK (K := K) (pe_ix (ix_tupK (K := K)) (pv 2) pe_int (fun _ _ => rfl))) (fun _ _ _ _ _ => .nil) (fun _ _ _ _ _ => (pe_callTy (call_list_ofK (K := K)) rfl T.b_list bt_list (pa_cons (pv 0) pa_nil)))) (pa_cons (pe_callTy (call_list_ofK (K := K)) rfl T.b_list bt_list (pa_cons (pe_ix (ix_tupK (K := K)) (pv 2) pe_int (fun _ _ => rfl)) pa_nil)) pa_nil)))))
      (pss_cons (ps_set (i := 6) sc_law.nd rfl (Or.inl rfl) (pe_call (G_written_draft.mono (by decide)) hr rfl T.written_draft.m T.written_draft.F.kp T.written_draft.b .nil pass0 (pa_cons (pv 5) pa_nil)))
      (pss_cons (ps_if (PW.pt (pw_or (pt_not (pt_val (pe_callB (call_isiK (K := K)) rfl T.b_isinstance bt_isinstance (pa_cons (pv 6) (pa_cons (pe_bltn (v := .ty "str") rfl T.b_str bt_str rfl) pa_nil))))) (pw_or1 (pt_cmpR op_ne (pv 6) (pv 4) (nomark _)))))
        (pss_one (ps_ret pe_bl))
        pss_nil)
      (pss_cons (ps_if (pt_not (pt_val (pe_call (G_law_draft_same.mono (by decide)) hr rfl T.law_draft_same.m T.law_draft_same.F.kp T.law_draft_same.b .nil pass0 (pa_cons (pv 5) (pa_cons (pe_ix (ix_tupK (K := K)) (pv 2) pe_int (fun _ _ => rfl)) (pa_cons (pe_ix (ix_tupK (K := K)) (pv 2) pe_int (fun _ _ => rfl)) (pa_cons (pe_ix (ix_tupK (K := K)) (pv 2) pe_int (fun _ _ => rfl)) pa_nil)))))))
        (pss_one (ps_ret pe_bl))
        pss_nil)
      (pss_cons (ps_if (pt_not (pt_val (pe_call (G_law_draft_same.mono (by decide)) hr rfl T.law_draft_same.m T.law_draft_same.F.kp T.law_draft_same.b .nil pass0 (pa_cons (pe_call (G_read_draft.mono (by decide)) hr rfl T.read_draft.m T.read_draft.F.kp T.read_draft.b .nil pass0 (pa_cons (pv 6) pa_nil)) (pa_cons (pe_ix (ix_tupK (K := K)) (pv 2) pe_int (fun _ _ => rfl)) (pa_cons (pe_ix (ix_tupK (K := K)) (pv 2) pe_int (fun _ _ => rfl)) (pa_cons (pe_ix (ix_tupK (K := K)) (pv 2) pe_int (fun _ _ => rfl)) pa_nil)))))))
        (pss_one (ps_ret pe_bl))
        pss_nil)
      (pss_cons (ps_set (i := 7) sc_law.nd rfl (Or.inr rfl) (pe_comp (CompOk.mk (caps := [1]) (Nc := ["k", "numbers"]) rfl (by decide +kernel) (by decide +kernel) (comp_fr (sc0 := defScope s_law) rfl (by decide +kernel)) rfl rfl rfl (by decide +kernel) (fun k j h => match k, h with | 0, h => by obtain rfl := Option.some.inj h; exact ⟨_, rfl, rfl, rfl⟩ | _ + 1, h => by simp at h)) rfl (pi_range1 rfl T.b_range (pa_cons pe_int pa_nil)) (fun _ _ _ _ _ => .nil) (fun _ _ _ _ _ => (pe_op op_add (pe_op op_fdiv (pe_ix (ix_listK (K := K)) (pv 1) pe_int (fun _ _ => rfl)) (pe_op op_add (pv 0) pe_int)) (pe_op op_mul (pv 0) (pe_ix (ix_listK (K := K)) (pv 1) pe_int (fun _ _ => rfl)))))))
      (pss_cons (ps_setC (i := 3) (CompOk.mk (caps := [2, 7]) (Nc := ["k", "built", "ways"]) rfl (by decide +kernel) (by decide +kernel) (comp_fr (sc0 := defScope s_law) rfl (by decide +kernel)) rfl rfl rfl (by decide +kernel) (fun k j h => match k, h with | 0, h => by obtain rfl := Option.some.inj h; exact ⟨_, rfl, rfl, rfl⟩ | 1, h => by obtain rfl := Option.some.inj h; exact ⟨_, rfl, rfl, rfl⟩ | _ + 2, h => by simp at h)) rfl sc_law.nd rfl rfl (pi_range1 rfl T.b_range (pa_cons (pe_callB (call_len_seqK (K := K)) rfl T.b_len bt_len (pa_cons (pe_ix (ix_tupK (K := K)) (pv 2) pe_int (fun _ _ => rfl)) pa_nil)) pa_nil)) (fun _ _ _ _ _ => .nil) (fun _ _ _ _ _ => (pe_call (G_law_other_writing.mono (by decide)) hr rfl T.law_other_writing.m T.law_other_writing.F.kp T.law_other_writing.b .nil pass0 (pa_cons (pe_ix (ix_listK (K := K)) (pe_ix (ix_tupK (K := K)) (pv 1) pe_int (fun _ _ => rfl)) (pv 0) (fun _ _ => rfl)) (pa_cons (pe_ix (ix_listK (K := K)) (pv 2) (pe_op op_add (pv 0) pe_int) (fun _ _ => rfl)) pa_nil)))) rfl)
      (pss_cons (ps_set (i := 8) sc_law.nd rfl (Or.inl rfl) (pe_call (G_law_joined.mono (by decide)) hr rfl T.law_joined.m T.law_joined.F.kp T.law_joined.b .nil pass0 (pa_cons (pe_call (G_law_other_writing.mono (by decide)) hr rfl T.law_other_writing.m T.law_other_writing.F.kp T.law_other_writing.b .nil pass0 (pa_cons (pe_ix (ix_tupK (K := K)) (pv 2) pe_int (fun _ _ => rfl)) (pa_cons (pe_ix (ix_listK (K := K)) (pv 7) pe_int (fun _ _ => rfl)) pa_nil))) (pa_cons (pv 3) (pa_cons (pe_call (G_law_other_writing.mono (by decide)) hr rfl T.law_other_writing.m T.law_other_writing.F.kp T.law_other_writing.b .nil pass0 (pa_cons (pe_ix (ix_tupK (K := K)) (pv 2) pe_int (fun _ _ => rfl)) (pa_cons (pe_ix (ix_listK (K := K)) (pv 7) pe_int (fun _ _ => rfl)) pa_nil))) pa_nil)))))
      (pss_cons (ps_if (pt_cmpR op_gt (pe_callB call_len_str rfl T.b_len bt_len (pa_cons (pv 8) pa_nil)) pe_int (nomark _))
        (pss_one (ps_set (i := 8) sc_law.nd rfl (Or.inl rfl) (pv 4)))
        pss_nil)
      (pss_one (ps_ret (pe_call (G_law_draft_same.mono (by decide)) hr rfl T.law_draft_same.m T.law_draft_same.F.kp T.law_draft_same.b .nil pass0 (pa_cons (pe_call (G_read_draft.mono (by decide)) hr rfl T.read_draft.m T.read_draft.F.kp T.read_draft.b .nil pass0 (pa_cons (pv 8) pa_nil)) (pa_cons (pe_ix (ix_tupK (K := K)) (pv 2) pe_int (fun _ _ => rfl)) (pa_cons (pe_ix (ix_tupK (K := K)) (pv 2) pe_int (fun _ _ => rfl)) (pa_cons (pe_ix (ix_tupK (K := K)) (pv 2) pe_int (fun _ _ => rfl)) pa_nil)))))))))))))))))))), ?_⟩
    refine ⟨_, rfl, sc, ns, 125, rfl, hS, hl, by decide, by decide, fun l ks H1 s1 nl hl1 hkl hkn => ?_⟩
    refine at_set (σ' := [some (.ref sc), some (.ref l), none, none, none, none, none, none, none]) rfl ?_
    refine ⟨_, rfl, _, rfl, _, _, rfl, SqL.of hl1, fun p0 np0 => ?_⟩
    rw [cut2 ks (by omega)]
    have s2 : Same H1 (upd H1 p0 (.lst (vI (ks.drop 2)))) := .upd np0
    have hp0 : (upd H1 p0 (.lst (vI (ks.drop 2)))) p0 = some (.lst (vI (ks.drop 2))) := upd_same
    generalize upd H1 p0 (.lst (vI (ks.drop 2))) = H2 at s2 hp0 ⊢
    refine ⟨p0, ks.drop 2, rfl, SqL.of hp0, by rw [List.length_drop]; omega, by rw [List.length_drop]; omega, fun z hz => hkn z (List.mem_of_mem_drop hz), fun p H3 x y z rs th tss tr s3 hp hx N hz F => ?_⟩
    refine at_set (σ' := [some (.ref sc), some (.ref l), some (.ref p), none, none, none, none, none, none]) rfl ?_
    have hl3 := (s2.trans s3) _ _ hl1
    clear s1 s2 hp0 s3 np0
    have m1 := F.m1
    have m40 := F.m40
    have t1 := F.t1
    have t40 := F.t40
    have n1 := F.n1
    have n40 := F.n40
    have htr : ∀ z ∈ tr, 0 ≤ z ∧ z < 40 := fun z hz => by have := F.htr z hz; omega
    refine ⟨_, rfl, _, _, _, _, rfl, rfl, SqT.of hp, rfl, _, rfl, ⟨_, SqL.of N.h⟩, comp_list (K := K) (a := y) (xs := rs.map V.ref) (fun i ys H4 => Same H3 H4 ∧ ys = vS ((tss.take i).map shI) ∧ ∀ ks ∈ tss.take i, Sw ks) ⟨.refl _, rfl, fun ks h => (by simp at h)⟩ ?_ ?_ ?_ ?_⟩
    · rintro i ys H4 hi ⟨s4, rfl, _⟩
      refine ⟨SqL.of (s4 _ _ N.h), ?_⟩
      rw [vS_len, List.length_map, List.length_take]
      omega
    · rw [List.length_map, N.l]; omega
    · rintro i xv ys H4 hi hxv ⟨s4, rfl, sw⟩
      obtain ⟨r, ks', rfl, h1, h2, h3⟩ := (N.same s4).at hxv
      have R := F.hti ks' (List.mem_of_getElem? h2)
      refine CTurn.no ?_
      refine ⟨_, rfl, _, _, rfl, .inl (SqL.of h3), fun c nc => ?_⟩
      refine ⟨c, ks', rfl, SqL.of upd_same, R.2, rs40 R, fun H5 s5 S => ?_⟩
      dsimp only
      rw [vS_app]
      refine CN.of hi ⟨(s4.new nc).trans s5, ?_, fun ks'' h => ?_⟩
      · rw [List.take_add_one, h2, List.map_append]
        rfl
      · rw [List.take_add_one, h2] at h
        rcases List.mem_append.mp h with h | h
        · exact sw ks'' h
        · rw [List.mem_singleton.mp h]; exact S
    rintro ys H4 lt1 ⟨s4, rfl, sw⟩ nlt1
    rw [List.length_map, N.l, List.take_length] at sw ⊢
    have u5 : Same H3 (upd H4 lt1 (.lst (vS (tss.map shI)))) := s4.new nlt1
    have hlt1 : (upd H4 lt1 (.lst (vS (tss.map shI)))) lt1 = some (.lst (vS (tss.map shI))) := upd_same
    generalize upd H4 lt1 (.lst (vS (tss.map shI))) = H5 at u5 hlt1 ⊢
    clear s4 nlt1
    refine at_set (σ' := [some (.ref sc), some (.ref l), some (.ref p), some (.ref lt1), none, none, none, none, none]) rfl ?_
    refine ⟨_, rfl, _, _, _, _, rfl, rfl, SqT.of (u5 _ _ hp), rfl, _, _, rfl, .inl (SqL.of (u5 _ _ hx)), fun c1 nc1 => ?_⟩
    refine ⟨c1, th, rfl, SqL.of upd_same, F.hth, m40, fun H6 s6 S1 => ?_⟩
    have v6 : Same H5 H6 := (Same.upd nc1).trans s6
    have u6 := u5.trans v6
    refine ⟨_, rfl, _, rfl, _, _, _, _, rfl, rfl, SqT.of (u6 _ _ hp), rfl, _, _, rfl, .inl (SqL.of (u6 _ _ hz)), fun c2 nc2 => ?_⟩
    refine ⟨c2, tr, rfl, SqL.of upd_same, htr, n40, fun H7 s7 S2 => ?_⟩
    have v7 : Same H6 H7 := (Same.upd nc2).trans s7
    have u7 := u6.trans v7
    have swl : ∀ u ∈ tss.map shI, u.length ≤ 400 := fun u hu => by
      obtain ⟨ks', hk, rfl⟩ := List.mem_map.mp hu
      have := (sw ks' hk).l
      omega
    have l1 := S1.l
    have l2 := S2.l
    refine ⟨shI th, shI tr, tss.map shI, lt1, rfl, (v6.trans v7) _ _ hlt1, by omega, by omega, by rw [List.length_map]; omega, swl, fun dl => ?_⟩
    refine at_set (σ' := [some (.ref sc), some (.ref l), some (.ref p), some (.ref lt1), some (.str (tx (drT (shI th) (tss.map shI) (shI tr)))), none, none, none, none]) rfl ?_
    clear s6 s7 nc1 nc2 v6 v7 u6 hlt1 u5
    refine ⟨_, rfl, _, _, _, _, rfl, rfl, SqT.of (u7 _ _ hp), rfl, _, _, rfl, .inl (SqL.of (u7 _ _ hx)), fun lx nlx => ?_⟩
    have s8 : Same H7 (upd H7 lx (.lst (vI th))) := .upd nlx
    have hlx : (upd H7 lx (.lst (vI th))) lx = some (.lst (vI th)) := upd_same
    generalize upd H7 lx (.lst (vI th)) = H8 at s8 hlx ⊢
    have u8 := u7.trans s8
    have N8 := N.same u8
    refine ⟨_, rfl, _, _, _, _, rfl, rfl, SqT.of (u8 _ _ hp), rfl, _, rfl, ⟨_, SqL.of N8.h⟩, comp_list (K := K) (a := y) (xs := rs.map V.ref) (fun i ys H5 => Same H8 H5 ∧ ∃ qs : List Addr, ys = qs.map V.ref ∧ Cps H8 H5 qs tss i) ⟨.refl _, [], rfl, Cps.nil _ _ _⟩ ?_ ?_ ?_ ?_⟩
    · rintro i ys H5 hi ⟨s5, qs, rfl, C⟩
      exact ⟨SqL.of (s5 _ _ N8.h), by rw [List.length_map, C.1]; exact Nat.le_refl _⟩
    · rw [List.length_map, N.l]; omega
    · rintro i xv ys H5 hi hxv ⟨s5, qs, rfl, C⟩
      obtain ⟨r', ks', rfl, _, hks, hr'⟩ := N8.at hxv
      refine CTurn.no ?_
      refine ⟨_, rfl, _, _, rfl, .inl (SqL.of (s5 _ _ hr')), fun l nl => ?_⟩
      exact CN.of hi ⟨s5.new nl, qs ++ [l], by rw [List.map_append]; rfl, C.add nl (s5.free nl) hks⟩
    rintro ys H9 lz ⟨s9, qs0, rfl, C9⟩ nlz
    rw [List.length_map, N.l] at C9
    have s10 : Same H9 (upd H9 lz (.lst (qs0.map V.ref))) := .upd nlz
    have hlz : (upd H9 lz (.lst (qs0.map V.ref))) lz = some (.lst (qs0.map V.ref)) := upd_same
    generalize upd H9 lz (.lst (qs0.map V.ref)) = H10 at s10 hlz ⊢
    have Z10 : NL H10 lz qs0 tss := ⟨hlz, C9.1, fun j q ks h1 h2 => s10 _ _ (C9.2.2 j q ks h1 h2)⟩
    have u10 := (u8.trans s9).trans s10
    refine ⟨_, rfl, _, _, _, _, rfl, rfl, SqT.of (u10 _ _ hp), rfl, _, _, rfl, .inl (SqL.of (u10 _ _ hz)), fun lr nlr => ?_⟩
    have s11 : Same H10 (upd H10 lr (.lst (vI tr))) := .upd nlr
    have hlr : (upd H10 lr (.lst (vI tr))) lr = some (.lst (vI tr)) := upd_same
    generalize upd H10 lr (.lst (vI tr)) = H11 at s11 hlr ⊢
    refine fun d dx nd ndx ndd => ?_
    have sd : Same H11 (upd (upd H11 dx (.own d)) d (.ins t.e_Draft dx [])) := (Same.upd ndx).over nd
    refine ⟨d, dx, lx, lz, lr, qs0, th, tss, tr, rfl, upd_same, sd _ _ (s11 _ _ (s10 _ _ (s9 _ _ hlx))), (Z10.same s11).same sd, sd _ _ hlr, F, fun a b c qs H12 b12 _ _ _ _ D => ⟨rfl, ?_⟩⟩
    have s12 : Same H11 H12 := fun b o e => b12 b o (fun z => by rw [z, nd] at e; cases e) (sd _ _ e)
    have u12 := (u10.trans s11).trans s12
    refine at_set (σ' := [some (.ref sc), some (.ref l), some (.ref p), some (.ref lt1), some (.str (tx (drT (shI th) (tss.map shI) (shI tr)))), some (.ref d), none, none, none]) rfl ?_
    clear s8 s9 s10 s11 s12 sd hlx hlz hlr C9 Z10 N8 u8 u10 u7 nlx nlz nlr nd ndx ndd b12
    refine ⟨_, rfl, d, dx, a, b, c, qs, th, tss, tr, rfl, D, F, fun H13 s13 _ _ _ => ?_⟩
    refine at_set (σ' := [some (.ref sc), some (.ref l), some (.ref p), some (.ref lt1), some (.str (tx (drT (shI th) (tss.map shI) (shI tr)))), some (.ref d), some (.str (tx (drT (shI th) (tss.map shI) (shI tr)))), none, none]) rfl ?_
    have u13 := u12.trans s13
    have D13 := D.same s13
    refine ⟨_, rfl, _, _, true, .str _, .inl ⟨_, rfl, kit_same K _⟩, _, rfl, ?_⟩
    refine iteF ?_
    refine ⟨_, rfl, _, rfl, rfl, _, rfl, ?_⟩
    refine iteNS rfl ?_
    refine ⟨_, rfl, _, rfl, _, _, _, _, rfl, rfl, SqT.of (u13 _ _ hp), rfl, _, rfl, _, _, _, _, rfl, rfl, SqT.of (u13 _ _ hp), rfl, _, rfl, _, _, _, _, rfl, rfl, SqT.of (u13 _ _ hp), rfl, d, dx, a, b, c, x, y, z, qs, rs, th, tss, tr, rfl, D13, u13 _ _ hx, N.same u13, u13 _ _ hz, F, _, rfl, ?_⟩
    refine iteF ?_
    have ml : (tss.map shI).length = tss.length := List.length_map _
    refine ⟨_, rfl, shI th, tss.map shI, shI tr, th, tss, tr, rfl, S1.w, ml, wrs_at sw, S2.w, F, dl, fun d2 dx2 a2 b2 c2 qs2 H14 s14 D14 => ?_⟩
    have u14 := u13.trans s14
    refine ⟨_, rfl, _, _, _, _, rfl, rfl, SqT.of (u14 _ _ hp), rfl, _, rfl, _, _, _, _, rfl, rfl, SqT.of (u14 _ _ hp), rfl, _, rfl, _, _, _, _, rfl, rfl, SqT.of (u14 _ _ hp), rfl, d2, dx2, a2, b2, c2, x, y, z, qs2, rs, th, tss, tr, rfl, D14, u14 _ _ hx, N.same u14, u14 _ _ hz, F, _, rfl, ?_⟩
    refine iteF ?_
    have hl14 := u14 _ _ hl3
    have g : ∀ i : Nat, i < 125 → atI (vI ks) (i : Int) = some (.int (ks.getD i 0)) := fun i hi => atI_of (by omega) (by
      rw [Int.toNat_natCast]
      unfold vI
      rw [List.getElem?_map, List.getElem?_eq_getElem (by omega), List.getD_eq_getElem?_getD, List.getElem?_eq_getElem (by omega)]
      rfl)
    refine ⟨42, rfl, by decide, by decide, ?_⟩
    have t42 : (42 : Int).toNat = 42 := rfl
    rw [t42]
    refine comp_range (lo := 0) (n := 42) (fun i ys H15 => H15 = H14 ∧ ∃ zs : List Int, ys = vI zs ∧ zs.length = i) ⟨rfl, [], rfl, rfl⟩ ?_ ?_ ?_ ?_
    · rintro i ys H15 hi ⟨rfl, zs, rfl, zl⟩
      rw [vI_len]; omega
    · decide
    · rintro i ys H15 hi ⟨rfl, zs, rfl, zl⟩
      refine CTurn.no ?_
      refine ⟨_, rfl, _, _, _, _, rfl, rfl, SqL.of hl14, g 0 (by decide), _, rfl, _, _, rfl, rfl, _, _, rfl, rfl, ⟨by omega, by omega⟩, _, rfl, _, rfl, _, _, _, _, rfl, rfl, SqL.of hl14, g 1 (by decide), _, _, rfl, rfl, .inl ⟨by omega, by omega⟩, _, _, rfl, rfl, ?_⟩
      dsimp only
      rw [vI_app]
      exact CN.of hi ⟨rfl, _, rfl, by rw [List.length_append, zl]; rfl⟩
    rintro ys H14' lw ⟨rfl, zs, rfl, zl⟩ nlw
    have s15 : Same H14' (upd H14' lw (.lst (vI zs))) := .upd nlw
    have hlw : (upd H14' lw (.lst (vI zs))) lw = some (.lst (vI zs)) := upd_same
    generalize upd H14' lw (.lst (vI zs)) = H15 at s15 hlw ⊢
    refine at_set (σ' := [some (.ref sc), some (.ref l), some (.ref p), some (.ref lt1), some (.str (tx (drT (shI th) (tss.map shI) (shI tr)))), some (.ref d), some (.str (tx (drT (shI th) (tss.map shI) (shI tr)))), some (.ref lw), none]) rfl ?_
    have u15 := u14.trans s15
    have gw : ∀ i : Nat, i < 42 → atI (vI zs) (i : Int) = some (.int (zs.getD i 0)) := fun i hi => atI_of (by omega) (by
      rw [Int.toNat_natCast]
      unfold vI
      rw [List.getElem?_map, List.getElem?_eq_getElem (by omega), List.getD_eq_getElem?_getD, List.getElem?_eq_getElem (by omega)]
      rfl)
    have N15 := N.same u15
    refine ⟨_, rfl, _, _, _, _, rfl, rfl, SqT.of (u15 _ _ hp), rfl, _, _, rfl, .inl (SqL.of N15.h), _, rfl, (by omega), (by rw [List.length_map, N.l]; omega), ?_⟩
    rw [Int.toNat_natCast, List.length_map, N.l]
    refine comp_range (lo := 0) (n := tss.length) (fun i ys H16 => Same H15 H16 ∧ ∃ us : List (List Nat), ys = vS us ∧ us.length = i ∧ (∀ (j : Nat) (u : List Nat) (ks : List Int), us[j]? = some u → tss[j]? = some ks → Wr u ks) ∧ ∀ u ∈ us, u.length ≤ 400) ⟨.refl _, [], rfl, rfl, fun j u ks h => (by simp at h), fun u h => (by cases h)⟩ ?_ ?_ ?_ ?_
    · rintro i ys H16 hi ⟨s16, us, rfl, ul, _⟩
      rw [vS_len]; omega
    · exact Nat.le_trans t40 (by decide)
    · rintro i ys H16 hi ⟨s16, us, rfl, ul, uw, ub⟩
      have N16 := N15.same s16
      have hir : i < rs.length := by rw [N.l]; exact hi
      have e1 : atI (rs.map V.ref) (0 + (i : Int)) = some (.ref rs[i]) := atI_of (by omega) (by rw [z0, List.getElem?_map, List.getElem?_eq_getElem hir]; rfl)
      have e2 : atI (vI zs) (0 + (i : Int) + 2) = some (.int (zs.getD (i + 2) 0)) := by
        have := gw (i + 2) (by omega)
        rw [show ((i + 2 : Nat) : Int) = 0 + (i : Int) + 2 by omega] at this
        exact this
      have r1 := N16.r i _ _ (List.getElem?_eq_getElem hir) (List.getElem?_eq_getElem hi)
      have R := F.hti _ (List.getElem_mem hi)
      refine CTurn.no ?_
      refine ⟨_, rfl, _, _, _, _, rfl, rfl, SqT.of ((u15.trans s16) _ _ hp), rfl, _, rfl, _, _, _, _, rfl, rfl, SqL.of N16.h, e1, _, rfl, _, rfl, _, _, rfl, rfl, _, _, _, _, rfl, rfl, SqL.of (s16 _ _ hlw), e2, rs[i], tss[i], _, rfl, r1, R.2, rs40 R, fun u H17 s17 W wl => ?_⟩
      dsimp only
      rw [vS_app]
      refine CN.of hi ⟨s16.trans s17, us ++ [u], rfl, by rw [List.length_append, ul]; rfl, fun j u' ks' h1 h2 => ?_, fun u' h => ?_⟩
      · by_cases hj : j < us.length
        · rw [List.getElem?_append_left hj] at h1
          exact uw j u' ks' h1 h2
        · rw [List.getElem?_append_right (by omega)] at h1
          have e0 : j = i := by
            have := (List.getElem?_eq_some_iff.mp h1).1
            simp at this
            omega
          rw [show j - us.length = 0 by omega] at h1
          have e1 : u = u' := by simpa using h1
          rw [e0, List.getElem?_eq_getElem hi] at h2
          cases h2
          rw [← e1]
          exact W
      · rcases List.mem_append.mp h with h | h
        · exact ub u' h
        · rw [List.mem_singleton.mp h]; exact wl
    rintro ys H16 lt2 ⟨s16, us, rfl, ul, uw, ub⟩ nlt2
    have s17 : Same H16 (upd H16 lt2 (.lst (vS us))) := .upd nlt2
    have hlt2 : (upd H16 lt2 (.lst (vS us))) lt2 = some (.lst (vS us)) := upd_same
    generalize upd H16 lt2 (.lst (vS us)) = H17 at s17 hlt2 ⊢
    refine at_set (σ' := [some (.ref sc), some (.ref l), some (.ref p), some (.ref lt2), some (.str (tx (drT (shI th) (tss.map shI) (shI tr)))), some (.ref d), some (.str (tx (drT (shI th) (tss.map shI) (shI tr)))), some (.ref lw), none]) rfl ?_
    have u17 := (u15.trans s16).trans s17
    have hlw17 := (s16.trans s17) _ _ hlw
    refine ⟨_, rfl, _, _, _, _, rfl, rfl, SqT.of (u17 _ _ hp), rfl, _, rfl, _, _, _, _, rfl, rfl, SqL.of hlw17, gw 0 (by decide), x, th, _, rfl, u17 _ _ hx, F.hth, m40, fun ua H18 s18 Wa la => ?_⟩
    have u18 := u17.trans s18
    refine ⟨_, rfl, _, rfl, _, _, _, _, rfl, rfl, SqT.of (u18 _ _ hp), rfl, _, rfl, _, _, _, _, rfl, rfl, SqL.of (s18 _ _ hlw17), gw 1 (by decide), z, tr, _, rfl, u18 _ _ hz, htr, n40, fun uc H19 s19 Wc lc => ?_⟩
    have u19 := u18.trans s19
    refine ⟨ua, uc, us, lt2, rfl, (s18.trans s19) _ _ hlt2, la, lc, by omega, ub, fun dl2 => ?_⟩
    obtain ⟨uo, euo⟩ : ∃ uo, uo = drT ua us uc := ⟨_, rfl⟩
    rw [← euo]
    refine at_set (σ' := [some (.ref sc), some (.ref l), some (.ref p), some (.ref lt2), some (.str (tx (drT (shI th) (tss.map shI) (shI tr)))), some (.ref d), some (.str (tx (drT (shI th) (tss.map shI) (shI tr)))), some (.ref lw), some (.str (tx uo))]) rfl ?_
    apply by_restU (fun u => ∃ (v0 : List Nat) (vs : List (List Nat)) (v2 : List Nat), u = drT v0 vs v2 ∧ Wr v0 th ∧ vs.length = tss.length ∧ (∀ (i : Nat) (u : List Nat) (ks : List Int), vs[i]? = some u → tss[i]? = some ks → Wr u ks) ∧ Wr v2 tr ∧ (drT v0 vs v2).length ≤ 1000000)
    · intro rest
      refine ⟨_, rfl, _, rfl, (by rw [tx_len, euo]; omega), _, _, rfl, rfl, _, rfl, ?_⟩
      refine ite2D ?tt ?ff
      case tt =>
        intro _
        obtain ⟨ud, eud⟩ : ∃ ud, ud = drT (shI th) (tss.map shI) (shI tr) := ⟨_, rfl⟩
        refine ⟨_, rfl, ?_⟩
        refine at_set (σ' := [some (.ref sc), some (.ref l), some (.ref p), some (.ref lt2), some (.str (tx (drT (shI th) (tss.map shI) (shI tr)))), some (.ref d), some (.str (tx (drT (shI th) (tss.map shI) (shI tr)))), some (.ref lw), some (.str (tx ud))]) (by rw [eud]; rfl) ?_
        exact rest ud ⟨_, _, _, eud, S1.w, ml, wrs_at sw, S2.w, dl⟩
      case ff => exact fun _ => rest uo ⟨ua, us, uc, euo, Wa, ul, uw, Wc, dl2⟩
    rintro u ⟨v0, vs, v2, rfl, W0, vl, Wv, W2, dl3⟩
    refine ⟨_, rfl, v0, vs, v2, th, tss, tr, rfl, W0, vl, Wv, W2, F, dl3, fun d3 dx3 a3 b3 c3 qs3 H20 s20 D20 => ?_⟩
    have u20 := u19.trans s20
    exact ⟨_, rfl, _, _, _, _, rfl, rfl, SqT.of (u20 _ _ hp), rfl, _, rfl, _, _, _, _, rfl, rfl, SqT.of (u20 _ _ hp), rfl, _, rfl, _, _, _, _, rfl, rfl, SqT.of (u20 _ _ hp), rfl, d3, dx3, a3, b3, c3, x, y, z, qs3, rs, th, tss, tr, rfl, D20, u20 _ _ hx, N.same u20, u20 _ _ hz, F, k _⟩
end
theorem law_mk {P : Program} {w : World} {K : PySem.W.Frag} {h : Heap} {mg : Str → Option Value} {fa : Addr} {f_check_setting : Addr} {od_check_setting an_check_setting : Option Addr} {sl_check_setting : Array (Option Value)} {oc_check_setting kV_check_setting dc_check_setting pm_check_setting cd_check_setting ct_check_setting : Value}
    {f_check_count : Addr} {od_check_count an_check_count : Option Addr} {sl_check_count : Array (Option Value)} {oc_check_count kV_check_count dc_check_count pm_check_count cd_check_count ct_check_count : Value}
    {f_check_shaft : Addr} {od_check_shaft an_check_shaft : Option Addr} {sl_check_shaft : Array (Option Value)} {oc_check_shaft kV_check_shaft dc_check_shaft pm_check_shaft cd_check_shaft ct_check_shaft : Value}
    {f_check_tie : Addr} {od_check_tie an_check_tie : Option Addr} {sl_check_tie : Array (Option Value)} {oc_check_tie kV_check_tie dc_check_tie pm_check_tie cd_check_tie ct_check_tie : Value}
    {f_check_treading : Addr} {od_check_treading an_check_treading : Option Addr} {sl_check_treading : Array (Option Value)} {oc_check_treading kV_check_treading dc_check_treading pm_check_treading cd_check_treading ct_check_treading : Value}
    {f_number_of : Addr} {od_number_of an_number_of : Option Addr} {sl_number_of : Array (Option Value)} {oc_number_of kV_number_of dc_number_of pm_number_of cd_number_of ct_number_of : Value}
    {f_unfolded : Addr} {od_unfolded an_unfolded : Option Addr} {sl_unfolded : Array (Option Value)} {oc_unfolded kV_unfolded dc_unfolded pm_unfolded cd_unfolded ct_unfolded : Value}
    {f_shown : Addr} {od_shown an_shown : Option Addr} {sl_shown : Array (Option Value)} {oc_shown kV_shown dc_shown pm_shown cd_shown ct_shown : Value}
    {f_whole_size : Addr} {od_whole_size an_whole_size : Option Addr} {sl_whole_size : Array (Option Value)} {oc_whole_size kV_whole_size dc_whole_size pm_whole_size cd_whole_size ct_whole_size : Value}
    {f_all_numbers : Addr} {od_all_numbers an_all_numbers : Option Addr} {sl_all_numbers : Array (Option Value)} {oc_all_numbers kV_all_numbers dc_all_numbers pm_all_numbers cd_all_numbers ct_all_numbers : Value}
    {f_steps_between : Addr} {od_steps_between an_steps_between : Option Addr} {sl_steps_between : Array (Option Value)} {oc_steps_between kV_steps_between dc_steps_between pm_steps_between cd_steps_between ct_steps_between : Value}
    {f_read_row : Addr} {od_read_row an_read_row : Option Addr} {sl_read_row : Array (Option Value)} {oc_read_row kV_read_row dc_read_row pm_read_row cd_read_row ct_read_row : Value}
    {f_read_items : Addr} {od_read_items an_read_items : Option Addr} {sl_read_items : Array (Option Value)} {oc_read_items kV_read_items dc_read_items pm_read_items cd_read_items ct_read_items : Value}
    {f_read_item : Addr} {od_read_item an_read_item : Option Addr} {sl_read_item : Array (Option Value)} {oc_read_item kV_read_item dc_read_item pm_read_item cd_read_item ct_read_item : Value}
    {f_read_times : Addr} {od_read_times an_read_times : Option Addr} {sl_read_times : Array (Option Value)} {oc_read_times kV_read_times dc_read_times pm_read_times cd_read_times ct_read_times : Value}
    {f_read_path : Addr} {od_read_path an_read_path : Option Addr} {sl_read_path : Array (Option Value)} {oc_read_path kV_read_path dc_read_path pm_read_path cd_read_path ct_read_path : Value}
    {f_read_number : Addr} {od_read_number an_read_number : Option Addr} {sl_read_number : Array (Option Value)} {oc_read_number kV_read_number dc_read_number pm_read_number cd_read_number ct_read_number : Value}
    {f_parted : Addr} {od_parted an_parted : Option Addr} {sl_parted : Array (Option Value)} {oc_parted kV_parted dc_parted pm_parted cd_parted ct_parted : Value}
    {f_written_path : Addr} {od_written_path an_written_path : Option Addr} {sl_written_path : Array (Option Value)} {oc_written_path kV_written_path dc_written_path pm_written_path cd_written_path ct_written_path : Value}
    {f_is_stop : Addr} {od_is_stop an_is_stop : Option Addr} {sl_is_stop : Array (Option Value)} {oc_is_stop kV_is_stop dc_is_stop pm_is_stop cd_is_stop ct_is_stop : Value}
    {f_written_draft : Addr} {od_written_draft an_written_draft : Option Addr} {sl_written_draft : Array (Option Value)} {oc_written_draft kV_written_draft dc_written_draft pm_written_draft cd_written_draft ct_written_draft : Value}
    {f_read_draft : Addr} {od_read_draft an_read_draft : Option Addr} {sl_read_draft : Array (Option Value)} {oc_read_draft kV_read_draft dc_read_draft pm_read_draft cd_read_draft ct_read_draft : Value}
    {f_law_numbers : Addr} {od_law_numbers an_law_numbers : Option Addr} {sl_law_numbers : Array (Option Value)} {oc_law_numbers kV_law_numbers dc_law_numbers pm_law_numbers cd_law_numbers ct_law_numbers : Value}
    {f_law_subset : Addr} {od_law_subset an_law_subset : Option Addr} {sl_law_subset : Array (Option Value)} {oc_law_subset kV_law_subset dc_law_subset pm_law_subset cd_law_subset ct_law_subset : Value}
    {f_law_draft_by : Addr} {od_law_draft_by an_law_draft_by : Option Addr} {sl_law_draft_by : Array (Option Value)} {oc_law_draft_by kV_law_draft_by dc_law_draft_by pm_law_draft_by cd_law_draft_by ct_law_draft_by : Value}
    {f_law_numbers_same : Addr} {od_law_numbers_same an_law_numbers_same : Option Addr} {sl_law_numbers_same : Array (Option Value)} {oc_law_numbers_same kV_law_numbers_same dc_law_numbers_same pm_law_numbers_same cd_law_numbers_same ct_law_numbers_same : Value}
    {f_law_draft_same : Addr} {od_law_draft_same an_law_draft_same : Option Addr} {sl_law_draft_same : Array (Option Value)} {oc_law_draft_same kV_law_draft_same dc_law_draft_same pm_law_draft_same cd_law_draft_same ct_law_draft_same : Value}
    {f_law_other_writing : Addr} {od_law_other_writing an_law_other_writing : Option Addr} {sl_law_other_writing : Array (Option Value)} {oc_law_other_writing kV_law_other_writing dc_law_other_writing pm_law_other_writing cd_law_other_writing ct_law_other_writing : Value}
    {f_law_joined : Addr} {od_law_joined an_law_joined : Option Addr} {sl_law_joined : Array (Option Value)} {oc_law_joined kV_law_joined dc_law_joined pm_law_joined cd_law_joined ct_law_joined : Value}
    {f_law : Addr} {od_law an_law : Option Addr} {sl_law : Array (Option Value)} {oc_law kV_law dc_law pm_law cd_law ct_law : Value}
    {q_MOST_STRANDS : Tok}
    {q_MOST_SHAFTS : Tok}
    {q_FIGURES : Tok}
    {q_MOST_NUMBERS : Tok}
    {q_MOST_DEEP : Tok}
    {q_BETWEEN_PARTS : Tok}
    {q_BETWEEN_TIES : Tok}
    {e_WeaveError : Addr}
    {e_NoRow : Addr}
    {e_TooLarge : Addr}
    {e_NoDraft : Addr}
    {f_WeaveError_called : Addr} {od_WeaveError_called an_WeaveError_called : Option Addr} {sl_WeaveError_called : Array (Option Value)} {oc_WeaveError_called kV_WeaveError_called dc_WeaveError_called pm_WeaveError_called cd_WeaveError_called ct_WeaveError_called : Value}
    {f_NoRow_called : Addr} {od_NoRow_called an_NoRow_called : Option Addr} {sl_NoRow_called : Array (Option Value)} {oc_NoRow_called kV_NoRow_called dc_NoRow_called pm_NoRow_called cd_NoRow_called ct_NoRow_called : Value}
    {f_TooLarge_called : Addr} {od_TooLarge_called an_TooLarge_called : Option Addr} {sl_TooLarge_called : Array (Option Value)} {oc_TooLarge_called kV_TooLarge_called dc_TooLarge_called pm_TooLarge_called cd_TooLarge_called ct_TooLarge_called : Value}
    {f_NoDraft_called : Addr} {od_NoDraft_called an_NoDraft_called : Option Addr} {sl_NoDraft_called : Array (Option Value)} {oc_NoDraft_called kV_NoDraft_called dc_NoDraft_called pm_NoDraft_called cd_NoDraft_called ct_NoDraft_called : Value}
    {e_Draft : Addr}
    {e_Reader : Addr}
    {e_Path : Addr}
    {e_Times : Addr}
    {f_Draft___init__ : Addr} {od_Draft___init__ an_Draft___init__ : Option Addr} {sl_Draft___init__ : Array (Option Value)} {oc_Draft___init__ kV_Draft___init__ dc_Draft___init__ pm_Draft___init__ cd_Draft___init__ ct_Draft___init__ : Value}
    {f_Reader___init__ : Addr} {od_Reader___init__ an_Reader___init__ : Option Addr} {sl_Reader___init__ : Array (Option Value)} {oc_Reader___init__ kV_Reader___init__ dc_Reader___init__ pm_Reader___init__ cd_Reader___init__ ct_Reader___init__ : Value}
    {f_Reader_ended : Addr} {od_Reader_ended an_Reader_ended : Option Addr} {sl_Reader_ended : Array (Option Value)} {oc_Reader_ended kV_Reader_ended dc_Reader_ended pm_Reader_ended cd_Reader_ended ct_Reader_ended : Value}
    {f_Reader_took : Addr} {od_Reader_took an_Reader_took : Option Addr} {sl_Reader_took : Array (Option Value)} {oc_Reader_took kV_Reader_took dc_Reader_took pm_Reader_took cd_Reader_took ct_Reader_took : Value}
    {f_Reader_stretch : Addr} {od_Reader_stretch an_Reader_stretch : Option Addr} {sl_Reader_stretch : Array (Option Value)} {oc_Reader_stretch kV_Reader_stretch dc_Reader_stretch pm_Reader_stretch cd_Reader_stretch ct_Reader_stretch : Value}
    {f_Reader_number : Addr} {od_Reader_number an_Reader_number : Option Addr} {sl_Reader_number : Array (Option Value)} {oc_Reader_number kV_Reader_number dc_Reader_number pm_Reader_number cd_Reader_number ct_Reader_number : Value}
    {f_Path___init__ : Addr} {od_Path___init__ an_Path___init__ : Option Addr} {sl_Path___init__ : Array (Option Value)} {oc_Path___init__ kV_Path___init__ dc_Path___init__ pm_Path___init__ cd_Path___init__ ct_Path___init__ : Value}
    {f_Path_size : Addr} {od_Path_size an_Path_size : Option Addr} {sl_Path_size : Array (Option Value)} {oc_Path_size kV_Path_size dc_Path_size pm_Path_size cd_Path_size ct_Path_size : Value}
    {f_Path_numbers : Addr} {od_Path_numbers an_Path_numbers : Option Addr} {sl_Path_numbers : Array (Option Value)} {oc_Path_numbers kV_Path_numbers dc_Path_numbers pm_Path_numbers cd_Path_numbers ct_Path_numbers : Value}
    {f_Times___init__ : Addr} {od_Times___init__ an_Times___init__ : Option Addr} {sl_Times___init__ : Array (Option Value)} {oc_Times___init__ kV_Times___init__ dc_Times___init__ pm_Times___init__ cd_Times___init__ ct_Times___init__ : Value}
    {f_Times_size : Addr} {od_Times_size an_Times_size : Option Addr} {sl_Times_size : Array (Option Value)} {oc_Times_size kV_Times_size dc_Times_size pm_Times_size cd_Times_size ct_Times_size : Value}
    {f_Times_numbers : Addr} {od_Times_numbers an_Times_numbers : Option Addr} {sl_Times_numbers : Array (Option Value)} {oc_Times_numbers kV_Times_numbers dc_Times_numbers pm_Times_numbers cd_Times_numbers ct_Times_numbers : Value}
    (X : K.In h) (G : h.Ns mainGlobals mg) (hfa : mg "law" = some (.ref fa))
    (a_check_setting : PySem.W.nsIn K mainGlobals "check_setting" = some (some (.ref f_check_setting)))
    (l_check_setting : K.lookup f_check_setting = some ⟨oc_check_setting, od_check_setting, .func (PySem.W.fnOf "check_setting" "check_setting" (defArgs s_check_setting) (defBody s_check_setting) (defScope s_check_setting) .none kV_check_setting dc_check_setting pm_check_setting an_check_setting cd_check_setting ct_check_setting), sl_check_setting⟩)
    (c_check_setting : PySem.W.codeIn K cd_check_setting "check_setting" = true)
    (k_check_setting : PySem.W.keepIn K (.ref f_check_setting) = true)
    (a_check_count : PySem.W.nsIn K mainGlobals "check_count" = some (some (.ref f_check_count)))
    (l_check_count : K.lookup f_check_count = some ⟨oc_check_count, od_check_count, .func (PySem.W.fnOf "check_count" "check_count" (defArgs s_check_count) (defBody s_check_count) (defScope s_check_count) .none kV_check_count dc_check_count pm_check_count an_check_count cd_check_count ct_check_count), sl_check_count⟩)
    (c_check_count : PySem.W.codeIn K cd_check_count "check_count" = true)
    (k_check_count : PySem.W.keepIn K (.ref f_check_count) = true)
    (a_check_shaft : PySem.W.nsIn K mainGlobals "check_shaft" = some (some (.ref f_check_shaft)))
    (l_check_shaft : K.lookup f_check_shaft = some ⟨oc_check_shaft, od_check_shaft, .func (PySem.W.fnOf "check_shaft" "check_shaft" (defArgs s_check_shaft) (defBody s_check_shaft) (defScope s_check_shaft) .none kV_check_shaft dc_check_shaft pm_check_shaft an_check_shaft cd_check_shaft ct_check_shaft), sl_check_shaft⟩)
    (c_check_shaft : PySem.W.codeIn K cd_check_shaft "check_shaft" = true)
    (k_check_shaft : PySem.W.keepIn K (.ref f_check_shaft) = true)
    (a_check_tie : PySem.W.nsIn K mainGlobals "check_tie" = some (some (.ref f_check_tie)))
    (l_check_tie : K.lookup f_check_tie = some ⟨oc_check_tie, od_check_tie, .func (PySem.W.fnOf "check_tie" "check_tie" (defArgs s_check_tie) (defBody s_check_tie) (defScope s_check_tie) .none kV_check_tie dc_check_tie pm_check_tie an_check_tie cd_check_tie ct_check_tie), sl_check_tie⟩)
    (c_check_tie : PySem.W.codeIn K cd_check_tie "check_tie" = true)
    (k_check_tie : PySem.W.keepIn K (.ref f_check_tie) = true)
    (a_check_treading : PySem.W.nsIn K mainGlobals "check_treading" = some (some (.ref f_check_treading)))
    (l_check_treading : K.lookup f_check_treading = some ⟨oc_check_treading, od_check_treading, .func (PySem.W.fnOf "check_treading" "check_treading" (defArgs s_check_treading) (defBody s_check_treading) (defScope s_check_treading) .none kV_check_treading dc_check_treading pm_check_treading an_check_treading cd_check_treading ct_check_treading), sl_check_treading⟩)
    (c_check_treading : PySem.W.codeIn K cd_check_treading "check_treading" = true)
    (k_check_treading : PySem.W.keepIn K (.ref f_check_treading) = true)
    (a_number_of : PySem.W.nsIn K mainGlobals "number_of" = some (some (.ref f_number_of)))
    (l_number_of : K.lookup f_number_of = some ⟨oc_number_of, od_number_of, .func (PySem.W.fnOf "number_of" "number_of" (defArgs s_number_of) (defBody s_number_of) (defScope s_number_of) .none kV_number_of dc_number_of pm_number_of an_number_of cd_number_of ct_number_of), sl_number_of⟩)
    (c_number_of : PySem.W.codeIn K cd_number_of "number_of" = true)
    (k_number_of : PySem.W.keepIn K (.ref f_number_of) = true)
    (a_unfolded : PySem.W.nsIn K mainGlobals "unfolded" = some (some (.ref f_unfolded)))
    (l_unfolded : K.lookup f_unfolded = some ⟨oc_unfolded, od_unfolded, .func (PySem.W.fnOf "unfolded" "unfolded" (defArgs s_unfolded) (defBody s_unfolded) (defScope s_unfolded) .none kV_unfolded dc_unfolded pm_unfolded an_unfolded cd_unfolded ct_unfolded), sl_unfolded⟩)
    (c_unfolded : PySem.W.codeIn K cd_unfolded "unfolded" = true)
    (k_unfolded : PySem.W.keepIn K (.ref f_unfolded) = true)
    (a_shown : PySem.W.nsIn K mainGlobals "shown" = some (some (.ref f_shown)))
    (l_shown : K.lookup f_shown = some ⟨oc_shown, od_shown, .func (PySem.W.fnOf "shown" "shown" (defArgs s_shown) (defBody s_shown) (defScope s_shown) .none kV_shown dc_shown pm_shown an_shown cd_shown ct_shown), sl_shown⟩)
    (c_shown : PySem.W.codeIn K cd_shown "shown" = true)
    (k_shown : PySem.W.keepIn K (.ref f_shown) = true)
    (a_whole_size : PySem.W.nsIn K mainGlobals "whole_size" = some (some (.ref f_whole_size)))
    (l_whole_size : K.lookup f_whole_size = some ⟨oc_whole_size, od_whole_size, .func (PySem.W.fnOf "whole_size" "whole_size" (defArgs s_whole_size) (defBody s_whole_size) (defScope s_whole_size) .none kV_whole_size dc_whole_size pm_whole_size an_whole_size cd_whole_size ct_whole_size), sl_whole_size⟩)
    (c_whole_size : PySem.W.codeIn K cd_whole_size "whole_size" = true)
    (k_whole_size : PySem.W.keepIn K (.ref f_whole_size) = true)
    (a_all_numbers : PySem.W.nsIn K mainGlobals "all_numbers" = some (some (.ref f_all_numbers)))
    (l_all_numbers : K.lookup f_all_numbers = some ⟨oc_all_numbers, od_all_numbers, .func (PySem.W.fnOf "all_numbers" "all_numbers" (defArgs s_all_numbers) (defBody s_all_numbers) (defScope s_all_numbers) .none kV_all_numbers dc_all_numbers pm_all_numbers an_all_numbers cd_all_numbers ct_all_numbers), sl_all_numbers⟩)
    (c_all_numbers : PySem.W.codeIn K cd_all_numbers "all_numbers" = true)
    (k_all_numbers : PySem.W.keepIn K (.ref f_all_numbers) = true)
    (a_steps_between : PySem.W.nsIn K mainGlobals "steps_between" = some (some (.ref f_steps_between)))
    (l_steps_between : K.lookup f_steps_between = some ⟨oc_steps_between, od_steps_between, .func (PySem.W.fnOf "steps_between" "steps_between" (defArgs s_steps_between) (defBody s_steps_between) (defScope s_steps_between) .none kV_steps_between dc_steps_between pm_steps_between an_steps_between cd_steps_between ct_steps_between), sl_steps_between⟩)
    (c_steps_between : PySem.W.codeIn K cd_steps_between "steps_between" = true)
    (k_steps_between : PySem.W.keepIn K (.ref f_steps_between) = true)
    (a_read_row : PySem.W.nsIn K mainGlobals "read_row" = some (some (.ref f_read_row)))
    (l_read_row : K.lookup f_read_row = some ⟨oc_read_row, od_read_row, .func (PySem.W.fnOf "read_row" "read_row" (defArgs s_read_row) (defBody s_read_row) (defScope s_read_row) .none kV_read_row dc_read_row pm_read_row an_read_row cd_read_row ct_read_row), sl_read_row⟩)
    (c_read_row : PySem.W.codeIn K cd_read_row "read_row" = true)
    (k_read_row : PySem.W.keepIn K (.ref f_read_row) = true)
    (a_read_items : PySem.W.nsIn K mainGlobals "read_items" = some (some (.ref f_read_items)))
    (l_read_items : K.lookup f_read_items = some ⟨oc_read_items, od_read_items, .func (PySem.W.fnOf "read_items" "read_items" (defArgs s_read_items) (defBody s_read_items) (defScope s_read_items) .none kV_read_items dc_read_items pm_read_items an_read_items cd_read_items ct_read_items), sl_read_items⟩)
    (c_read_items : PySem.W.codeIn K cd_read_items "read_items" = true)
    (k_read_items : PySem.W.keepIn K (.ref f_read_items) = true)
    (a_read_item : PySem.W.nsIn K mainGlobals "read_item" = some (some (.ref f_read_item)))
    (l_read_item : K.lookup f_read_item = some ⟨oc_read_item, od_read_item, .func (PySem.W.fnOf "read_item" "read_item" (defArgs s_read_item) (defBody s_read_item) (defScope s_read_item) .none kV_read_item dc_read_item pm_read_item an_read_item cd_read_item ct_read_item), sl_read_item⟩)
    (c_read_item : PySem.W.codeIn K cd_read_item "read_item" = true)
    (k_read_item : PySem.W.keepIn K (.ref f_read_item) = true)
    (a_read_times : PySem.W.nsIn K mainGlobals "read_times" = some (some (.ref f_read_times)))
    (l_read_times : K.lookup f_read_times = some ⟨oc_read_times, od_read_times, .func (PySem.W.fnOf "read_times" "read_times" (defArgs s_read_times) (defBody s_read_times) (defScope s_read_times) .none kV_read_times dc_read_times pm_read_times an_read_times cd_read_times ct_read_times), sl_read_times⟩)
    (c_read_times : PySem.W.codeIn K cd_read_times "read_times" = true)
    (k_read_times : PySem.W.keepIn K (.ref f_read_times) = true)
    (a_read_path : PySem.W.nsIn K mainGlobals "read_path" = some (some (.ref f_read_path)))
    (l_read_path : K.lookup f_read_path = some ⟨oc_read_path, od_read_path, .func (PySem.W.fnOf "read_path" "read_path" (defArgs s_read_path) (defBody s_read_path) (defScope s_read_path) .none kV_read_path dc_read_path pm_read_path an_read_path cd_read_path ct_read_path), sl_read_path⟩)
    (c_read_path : PySem.W.codeIn K cd_read_path "read_path" = true)
    (k_read_path : PySem.W.keepIn K (.ref f_read_path) = true)
    (a_read_number : PySem.W.nsIn K mainGlobals "read_number" = some (some (.ref f_read_number)))
    (l_read_number : K.lookup f_read_number = some ⟨oc_read_number, od_read_number, .func (PySem.W.fnOf "read_number" "read_number" (defArgs s_read_number) (defBody s_read_number) (defScope s_read_number) .none kV_read_number dc_read_number pm_read_number an_read_number cd_read_number ct_read_number), sl_read_number⟩)
    (c_read_number : PySem.W.codeIn K cd_read_number "read_number" = true)
    (k_read_number : PySem.W.keepIn K (.ref f_read_number) = true)
    (a_parted : PySem.W.nsIn K mainGlobals "parted" = some (some (.ref f_parted)))
    (l_parted : K.lookup f_parted = some ⟨oc_parted, od_parted, .func (PySem.W.fnOf "parted" "parted" (defArgs s_parted) (defBody s_parted) (defScope s_parted) .none kV_parted dc_parted pm_parted an_parted cd_parted ct_parted), sl_parted⟩)
    (c_parted : PySem.W.codeIn K cd_parted "parted" = true)
    (k_parted : PySem.W.keepIn K (.ref f_parted) = true)
    (a_written_path : PySem.W.nsIn K mainGlobals "written_path" = some (some (.ref f_written_path)))
    (l_written_path : K.lookup f_written_path = some ⟨oc_written_path, od_written_path, .func (PySem.W.fnOf "written_path" "written_path" (defArgs s_written_path) (defBody s_written_path) (defScope s_written_path) .none kV_written_path dc_written_path pm_written_path an_written_path cd_written_path ct_written_path), sl_written_path⟩)
    (c_written_path : PySem.W.codeIn K cd_written_path "written_path" = true)
    (k_written_path : PySem.W.keepIn K (.ref f_written_path) = true)
    (a_is_stop : PySem.W.nsIn K mainGlobals "is_stop" = some (some (.ref f_is_stop)))
    (l_is_stop : K.lookup f_is_stop = some ⟨oc_is_stop, od_is_stop, .func (PySem.W.fnOf "is_stop" "is_stop" (defArgs s_is_stop) (defBody s_is_stop) (defScope s_is_stop) .none kV_is_stop dc_is_stop pm_is_stop an_is_stop cd_is_stop ct_is_stop), sl_is_stop⟩)
    (c_is_stop : PySem.W.codeIn K cd_is_stop "is_stop" = true)
    (k_is_stop : PySem.W.keepIn K (.ref f_is_stop) = true)
    (a_written_draft : PySem.W.nsIn K mainGlobals "written_draft" = some (some (.ref f_written_draft)))
    (l_written_draft : K.lookup f_written_draft = some ⟨oc_written_draft, od_written_draft, .func (PySem.W.fnOf "written_draft" "written_draft" (defArgs s_written_draft) (defBody s_written_draft) (defScope s_written_draft) .none kV_written_draft dc_written_draft pm_written_draft an_written_draft cd_written_draft ct_written_draft), sl_written_draft⟩)
    (c_written_draft : PySem.W.codeIn K cd_written_draft "written_draft" = true)
    (k_written_draft : PySem.W.keepIn K (.ref f_written_draft) = true)
    (a_read_draft : PySem.W.nsIn K mainGlobals "read_draft" = some (some (.ref f_read_draft)))
    (l_read_draft : K.lookup f_read_draft = some ⟨oc_read_draft, od_read_draft, .func (PySem.W.fnOf "read_draft" "read_draft" (defArgs s_read_draft) (defBody s_read_draft) (defScope s_read_draft) .none kV_read_draft dc_read_draft pm_read_draft an_read_draft cd_read_draft ct_read_draft), sl_read_draft⟩)
    (c_read_draft : PySem.W.codeIn K cd_read_draft "read_draft" = true)
    (k_read_draft : PySem.W.keepIn K (.ref f_read_draft) = true)
    (a_law_numbers : PySem.W.nsIn K mainGlobals "_law_numbers" = some (some (.ref f_law_numbers)))
    (l_law_numbers : K.lookup f_law_numbers = some ⟨oc_law_numbers, od_law_numbers, .func (PySem.W.fnOf "_law_numbers" "_law_numbers" (defArgs s_law_numbers) (defBody s_law_numbers) (defScope s_law_numbers) .none kV_law_numbers dc_law_numbers pm_law_numbers an_law_numbers cd_law_numbers ct_law_numbers), sl_law_numbers⟩)
    (c_law_numbers : PySem.W.codeIn K cd_law_numbers "_law_numbers" = true)
    (k_law_numbers : PySem.W.keepIn K (.ref f_law_numbers) = true)
    (a_law_subset : PySem.W.nsIn K mainGlobals "_law_subset" = some (some (.ref f_law_subset)))
    (l_law_subset : K.lookup f_law_subset = some ⟨oc_law_subset, od_law_subset, .func (PySem.W.fnOf "_law_subset" "_law_subset" (defArgs s_law_subset) (defBody s_law_subset) (defScope s_law_subset) .none kV_law_subset dc_law_subset pm_law_subset an_law_subset cd_law_subset ct_law_subset), sl_law_subset⟩)
    (c_law_subset : PySem.W.codeIn K cd_law_subset "_law_subset" = true)
    (k_law_subset : PySem.W.keepIn K (.ref f_law_subset) = true)
    (a_law_draft_by : PySem.W.nsIn K mainGlobals "_law_draft_by" = some (some (.ref f_law_draft_by)))
    (l_law_draft_by : K.lookup f_law_draft_by = some ⟨oc_law_draft_by, od_law_draft_by, .func (PySem.W.fnOf "_law_draft_by" "_law_draft_by" (defArgs s_law_draft_by) (defBody s_law_draft_by) (defScope s_law_draft_by) .none kV_law_draft_by dc_law_draft_by pm_law_draft_by an_law_draft_by cd_law_draft_by ct_law_draft_by), sl_law_draft_by⟩)
    (c_law_draft_by : PySem.W.codeIn K cd_law_draft_by "_law_draft_by" = true)
    (k_law_draft_by : PySem.W.keepIn K (.ref f_law_draft_by) = true)
    (a_law_numbers_same : PySem.W.nsIn K mainGlobals "_law_numbers_same" = some (some (.ref f_law_numbers_same)))
    (l_law_numbers_same : K.lookup f_law_numbers_same = some ⟨oc_law_numbers_same, od_law_numbers_same, .func (PySem.W.fnOf "_law_numbers_same" "_law_numbers_same" (defArgs s_law_numbers_same) (defBody s_law_numbers_same) (defScope s_law_numbers_same) .none kV_law_numbers_same dc_law_numbers_same pm_law_numbers_same an_law_numbers_same cd_law_numbers_same ct_law_numbers_same), sl_law_numbers_same⟩)
    (c_law_numbers_same : PySem.W.codeIn K cd_law_numbers_same "_law_numbers_same" = true)
    (k_law_numbers_same : PySem.W.keepIn K (.ref f_law_numbers_same) = true)
    (a_law_draft_same : PySem.W.nsIn K mainGlobals "_law_draft_same" = some (some (.ref f_law_draft_same)))
    (l_law_draft_same : K.lookup f_law_draft_same = some ⟨oc_law_draft_same, od_law_draft_same, .func (PySem.W.fnOf "_law_draft_same" "_law_draft_same" (defArgs s_law_draft_same) (defBody s_law_draft_same) (defScope s_law_draft_same) .none kV_law_draft_same dc_law_draft_same pm_law_draft_same an_law_draft_same cd_law_draft_same ct_law_draft_same), sl_law_draft_same⟩)
    (c_law_draft_same : PySem.W.codeIn K cd_law_draft_same "_law_draft_same" = true)
    (k_law_draft_same : PySem.W.keepIn K (.ref f_law_draft_same) = true)
    (a_law_other_writing : PySem.W.nsIn K mainGlobals "_law_other_writing" = some (some (.ref f_law_other_writing)))
    (l_law_other_writing : K.lookup f_law_other_writing = some ⟨oc_law_other_writing, od_law_other_writing, .func (PySem.W.fnOf "_law_other_writing" "_law_other_writing" (defArgs s_law_other_writing) (defBody s_law_other_writing) (defScope s_law_other_writing) .none kV_law_other_writing dc_law_other_writing pm_law_other_writing an_law_other_writing cd_law_other_writing ct_law_other_writing), sl_law_other_writing⟩)
    (c_law_other_writing : PySem.W.codeIn K cd_law_other_writing "_law_other_writing" = true)
    (k_law_other_writing : PySem.W.keepIn K (.ref f_law_other_writing) = true)
    (a_law_joined : PySem.W.nsIn K mainGlobals "_law_joined" = some (some (.ref f_law_joined)))
    (l_law_joined : K.lookup f_law_joined = some ⟨oc_law_joined, od_law_joined, .func (PySem.W.fnOf "_law_joined" "_law_joined" (defArgs s_law_joined) (defBody s_law_joined) (defScope s_law_joined) .none kV_law_joined dc_law_joined pm_law_joined an_law_joined cd_law_joined ct_law_joined), sl_law_joined⟩)
    (c_law_joined : PySem.W.codeIn K cd_law_joined "_law_joined" = true)
    (k_law_joined : PySem.W.keepIn K (.ref f_law_joined) = true)
    (a_law : PySem.W.nsIn K mainGlobals "law" = some (some (.ref f_law)))
    (l_law : K.lookup f_law = some ⟨oc_law, od_law, .func (PySem.W.fnOf "law" "law" (defArgs s_law) (defBody s_law) (defScope s_law) .none kV_law dc_law pm_law an_law cd_law ct_law), sl_law⟩)
    (c_law : PySem.W.codeIn K cd_law "law" = true)
    (k_law : PySem.W.keepIn K (.ref f_law) = true)
    (z_abs : PySem.W.nsIn K mainGlobals "abs" = some none)
    (z_bool : PySem.W.nsIn K mainGlobals "bool" = some none)
    (z_int : PySem.W.nsIn K mainGlobals "int" = some none)
    (z_isinstance : PySem.W.nsIn K mainGlobals "isinstance" = some none)
    (z_len : PySem.W.nsIn K mainGlobals "len" = some none)
    (z_list : PySem.W.nsIn K mainGlobals "list" = some none)
    (z_range : PySem.W.nsIn K mainGlobals "range" = some none)
    (z_str : PySem.W.nsIn K mainGlobals "str" = some none)
    (z_sum : PySem.W.nsIn K mainGlobals "sum" = some none)
    (x_MOST_STRANDS : PySem.W.nsIn K mainGlobals "MOST_STRANDS" = some (some (.int 40 q_MOST_STRANDS)))
    (x_MOST_SHAFTS : PySem.W.nsIn K mainGlobals "MOST_SHAFTS" = some (some (.int 40 q_MOST_SHAFTS)))
    (x_FIGURES : PySem.W.nsIn K mainGlobals "FIGURES" = some (some (.str "0123456789" q_FIGURES)))
    (x_MOST_NUMBERS : PySem.W.nsIn K mainGlobals "MOST_NUMBERS" = some (some (.int 400 q_MOST_NUMBERS)))
    (x_MOST_DEEP : PySem.W.nsIn K mainGlobals "MOST_DEEP" = some (some (.int 8 q_MOST_DEEP)))
    (x_BETWEEN_PARTS : PySem.W.nsIn K mainGlobals "BETWEEN_PARTS" = some (some (.str " / " q_BETWEEN_PARTS)))
    (x_BETWEEN_TIES : PySem.W.nsIn K mainGlobals "BETWEEN_TIES" = some (some (.str ", " q_BETWEEN_TIES)))
    (n_WeaveError : PySem.W.nsIn K mainGlobals "WeaveError" = some (some (.ref e_WeaveError)))
    (n_NoRow : PySem.W.nsIn K mainGlobals "NoRow" = some (some (.ref e_NoRow)))
    (n_TooLarge : PySem.W.nsIn K mainGlobals "TooLarge" = some (some (.ref e_TooLarge)))
    (n_NoDraft : PySem.W.nsIn K mainGlobals "NoDraft" = some (some (.ref e_NoDraft)))
    (y1_WeaveError : PySem.W.excIn K e_WeaveError vE vN = true)
    (y2_WeaveError : PySem.W.findIn K (.ref e_WeaveError) "__getattribute__" = some (some (.builtin "BaseException.__getattribute__")))
    (y3_WeaveError : PySem.W.findIn K (.ref e_WeaveError) "__getattr__" = some none)
    (y4_WeaveError : PySem.W.findIn K (.ref e_WeaveError) "__class__" = some (some (.builtin "object.__class__")))
    (y5_WeaveError : PySem.W.specialIn K (.builtin "object.__class__") "__get__" = some (some (.builtin "getset_descriptor.__get__")))
    (y6_WeaveError : PySem.W.takesIn K (.builtin "object.__class__") = some true)
    (y7_WeaveError : PySem.W.mroIn K e_WeaveError (.type "object") = some true)
    (y8_WeaveError : PySem.W.mroIn K e_WeaveError (.type "BaseException") = some true)
    (y9_WeaveError : PySem.W.isClsIn K e_WeaveError = true)
    (y10_WeaveError : PySem.W.typeIn K (.ref e_WeaveError) = some (.type "type"))
    (y11_WeaveError : PySem.W.mroIn K e_WeaveError (.type "ValueError") = some true)
    (r_WeaveError_WeaveError : PySem.W.mroIn K e_WeaveError (.ref e_WeaveError) = some true)
    (r_WeaveError_NoRow : PySem.W.mroIn K e_WeaveError (.ref e_NoRow) = some false)
    (r_WeaveError_TooLarge : PySem.W.mroIn K e_WeaveError (.ref e_TooLarge) = some false)
    (r_WeaveError_NoDraft : PySem.W.mroIn K e_WeaveError (.ref e_NoDraft) = some false)
    (y1_NoRow : PySem.W.excIn K e_NoRow vE vN = true)
    (y2_NoRow : PySem.W.findIn K (.ref e_NoRow) "__getattribute__" = some (some (.builtin "BaseException.__getattribute__")))
    (y3_NoRow : PySem.W.findIn K (.ref e_NoRow) "__getattr__" = some none)
    (y4_NoRow : PySem.W.findIn K (.ref e_NoRow) "__class__" = some (some (.builtin "object.__class__")))
    (y7_NoRow : PySem.W.mroIn K e_NoRow (.type "object") = some true)
    (y8_NoRow : PySem.W.mroIn K e_NoRow (.type "BaseException") = some true)
    (y9_NoRow : PySem.W.isClsIn K e_NoRow = true)
    (y10_NoRow : PySem.W.typeIn K (.ref e_NoRow) = some (.type "type"))
    (y11_NoRow : PySem.W.mroIn K e_NoRow (.type "ValueError") = some true)
    (r_NoRow_WeaveError : PySem.W.mroIn K e_NoRow (.ref e_WeaveError) = some true)
    (r_NoRow_NoRow : PySem.W.mroIn K e_NoRow (.ref e_NoRow) = some true)
    (r_NoRow_TooLarge : PySem.W.mroIn K e_NoRow (.ref e_TooLarge) = some false)
    (r_NoRow_NoDraft : PySem.W.mroIn K e_NoRow (.ref e_NoDraft) = some false)
    (y1_TooLarge : PySem.W.excIn K e_TooLarge vE vN = true)
    (y2_TooLarge : PySem.W.findIn K (.ref e_TooLarge) "__getattribute__" = some (some (.builtin "BaseException.__getattribute__")))
    (y3_TooLarge : PySem.W.findIn K (.ref e_TooLarge) "__getattr__" = some none)
    (y4_TooLarge : PySem.W.findIn K (.ref e_TooLarge) "__class__" = some (some (.builtin "object.__class__")))
    (y7_TooLarge : PySem.W.mroIn K e_TooLarge (.type "object") = some true)
    (y8_TooLarge : PySem.W.mroIn K e_TooLarge (.type "BaseException") = some true)
    (y9_TooLarge : PySem.W.isClsIn K e_TooLarge = true)
    (y10_TooLarge : PySem.W.typeIn K (.ref e_TooLarge) = some (.type "type"))
    (y11_TooLarge : PySem.W.mroIn K e_TooLarge (.type "ValueError") = some true)
    (r_TooLarge_WeaveError : PySem.W.mroIn K e_TooLarge (.ref e_WeaveError) = some true)
    (r_TooLarge_NoRow : PySem.W.mroIn K e_TooLarge (.ref e_NoRow) = some false)
    (r_TooLarge_TooLarge : PySem.W.mroIn K e_TooLarge (.ref e_TooLarge) = some true)
    (r_TooLarge_NoDraft : PySem.W.mroIn K e_TooLarge (.ref e_NoDraft) = some false)
    (y1_NoDraft : PySem.W.excIn K e_NoDraft vE vN = true)
    (y2_NoDraft : PySem.W.findIn K (.ref e_NoDraft) "__getattribute__" = some (some (.builtin "BaseException.__getattribute__")))
    (y3_NoDraft : PySem.W.findIn K (.ref e_NoDraft) "__getattr__" = some none)
    (y4_NoDraft : PySem.W.findIn K (.ref e_NoDraft) "__class__" = some (some (.builtin "object.__class__")))
    (y7_NoDraft : PySem.W.mroIn K e_NoDraft (.type "object") = some true)
    (y8_NoDraft : PySem.W.mroIn K e_NoDraft (.type "BaseException") = some true)
    (y9_NoDraft : PySem.W.isClsIn K e_NoDraft = true)
    (y10_NoDraft : PySem.W.typeIn K (.ref e_NoDraft) = some (.type "type"))
    (y11_NoDraft : PySem.W.mroIn K e_NoDraft (.type "ValueError") = some true)
    (r_NoDraft_WeaveError : PySem.W.mroIn K e_NoDraft (.ref e_WeaveError) = some true)
    (r_NoDraft_NoRow : PySem.W.mroIn K e_NoDraft (.ref e_NoRow) = some false)
    (r_NoDraft_TooLarge : PySem.W.mroIn K e_NoDraft (.ref e_TooLarge) = some false)
    (r_NoDraft_NoDraft : PySem.W.mroIn K e_NoDraft (.ref e_NoDraft) = some true)
    (fm_WeaveError : PySem.W.findIn K (.ref e_WeaveError) "called" = some (some (.ref f_WeaveError_called)))
    (gm_WeaveError : PySem.W.isFn K (.ref f_WeaveError_called) = true)
    (lm_WeaveError : K.lookup f_WeaveError_called = some ⟨oc_WeaveError_called, od_WeaveError_called, .func (PySem.W.fnOf "called" "WeaveError.called" (defArgs s_WeaveError_called) (defBody s_WeaveError_called) (defScope s_WeaveError_called) .none kV_WeaveError_called dc_WeaveError_called pm_WeaveError_called an_WeaveError_called cd_WeaveError_called ct_WeaveError_called), sl_WeaveError_called⟩)
    (cm_WeaveError : PySem.W.codeIn K cd_WeaveError_called "WeaveError.called" = true)
    (km_WeaveError : PySem.W.keepIn K (.ref f_WeaveError_called) = true)
    (fm_NoRow : PySem.W.findIn K (.ref e_NoRow) "called" = some (some (.ref f_NoRow_called)))
    (gm_NoRow : PySem.W.isFn K (.ref f_NoRow_called) = true)
    (lm_NoRow : K.lookup f_NoRow_called = some ⟨oc_NoRow_called, od_NoRow_called, .func (PySem.W.fnOf "called" "NoRow.called" (defArgs s_NoRow_called) (defBody s_NoRow_called) (defScope s_NoRow_called) .none kV_NoRow_called dc_NoRow_called pm_NoRow_called an_NoRow_called cd_NoRow_called ct_NoRow_called), sl_NoRow_called⟩)
    (cm_NoRow : PySem.W.codeIn K cd_NoRow_called "NoRow.called" = true)
    (km_NoRow : PySem.W.keepIn K (.ref f_NoRow_called) = true)
    (fm_TooLarge : PySem.W.findIn K (.ref e_TooLarge) "called" = some (some (.ref f_TooLarge_called)))
    (gm_TooLarge : PySem.W.isFn K (.ref f_TooLarge_called) = true)
    (lm_TooLarge : K.lookup f_TooLarge_called = some ⟨oc_TooLarge_called, od_TooLarge_called, .func (PySem.W.fnOf "called" "TooLarge.called" (defArgs s_TooLarge_called) (defBody s_TooLarge_called) (defScope s_TooLarge_called) .none kV_TooLarge_called dc_TooLarge_called pm_TooLarge_called an_TooLarge_called cd_TooLarge_called ct_TooLarge_called), sl_TooLarge_called⟩)
    (cm_TooLarge : PySem.W.codeIn K cd_TooLarge_called "TooLarge.called" = true)
    (km_TooLarge : PySem.W.keepIn K (.ref f_TooLarge_called) = true)
    (fm_NoDraft : PySem.W.findIn K (.ref e_NoDraft) "called" = some (some (.ref f_NoDraft_called)))
    (gm_NoDraft : PySem.W.isFn K (.ref f_NoDraft_called) = true)
    (lm_NoDraft : K.lookup f_NoDraft_called = some ⟨oc_NoDraft_called, od_NoDraft_called, .func (PySem.W.fnOf "called" "NoDraft.called" (defArgs s_NoDraft_called) (defBody s_NoDraft_called) (defScope s_NoDraft_called) .none kV_NoDraft_called dc_NoDraft_called pm_NoDraft_called an_NoDraft_called cd_NoDraft_called ct_NoDraft_called), sl_NoDraft_called⟩)
    (cm_NoDraft : PySem.W.codeIn K cd_NoDraft_called "NoDraft.called" = true)
    (km_NoDraft : PySem.W.keepIn K (.ref f_NoDraft_called) = true)
    (n_Draft : PySem.W.nsIn K mainGlobals "Draft" = some (some (.ref e_Draft)))
    (n_Reader : PySem.W.nsIn K mainGlobals "Reader" = some (some (.ref e_Reader)))
    (n_Path : PySem.W.nsIn K mainGlobals "Path" = some (some (.ref e_Path)))
    (n_Times : PySem.W.nsIn K mainGlobals "Times" = some (some (.ref e_Times)))
    (fm_Draft___init__ : PySem.W.findIn K (.ref e_Draft) "__init__" = some (some (.ref f_Draft___init__)))
    (gm_Draft___init__ : PySem.W.isFn K (.ref f_Draft___init__) = true)
    (lm_Draft___init__ : K.lookup f_Draft___init__ = some ⟨oc_Draft___init__, od_Draft___init__, .func (PySem.W.fnOf "__init__" "Draft.__init__" (defArgs s_Draft___init__) (defBody s_Draft___init__) (defScope s_Draft___init__) .none kV_Draft___init__ dc_Draft___init__ pm_Draft___init__ an_Draft___init__ cd_Draft___init__ ct_Draft___init__), sl_Draft___init__⟩)
    (cm_Draft___init__ : PySem.W.codeIn K cd_Draft___init__ "Draft.__init__" = true)
    (km_Draft___init__ : PySem.W.keepIn K (.ref f_Draft___init__) = true)
    (fm_Reader___init__ : PySem.W.findIn K (.ref e_Reader) "__init__" = some (some (.ref f_Reader___init__)))
    (gm_Reader___init__ : PySem.W.isFn K (.ref f_Reader___init__) = true)
    (lm_Reader___init__ : K.lookup f_Reader___init__ = some ⟨oc_Reader___init__, od_Reader___init__, .func (PySem.W.fnOf "__init__" "Reader.__init__" (defArgs s_Reader___init__) (defBody s_Reader___init__) (defScope s_Reader___init__) .none kV_Reader___init__ dc_Reader___init__ pm_Reader___init__ an_Reader___init__ cd_Reader___init__ ct_Reader___init__), sl_Reader___init__⟩)
    (cm_Reader___init__ : PySem.W.codeIn K cd_Reader___init__ "Reader.__init__" = true)
    (km_Reader___init__ : PySem.W.keepIn K (.ref f_Reader___init__) = true)
    (fm_Reader_ended : PySem.W.findIn K (.ref e_Reader) "ended" = some (some (.ref f_Reader_ended)))
    (gm_Reader_ended : PySem.W.isFn K (.ref f_Reader_ended) = true)
    (lm_Reader_ended : K.lookup f_Reader_ended = some ⟨oc_Reader_ended, od_Reader_ended, .func (PySem.W.fnOf "ended" "Reader.ended" (defArgs s_Reader_ended) (defBody s_Reader_ended) (defScope s_Reader_ended) .none kV_Reader_ended dc_Reader_ended pm_Reader_ended an_Reader_ended cd_Reader_ended ct_Reader_ended), sl_Reader_ended⟩)
    (cm_Reader_ended : PySem.W.codeIn K cd_Reader_ended "Reader.ended" = true)
    (km_Reader_ended : PySem.W.keepIn K (.ref f_Reader_ended) = true)
    (fm_Reader_took : PySem.W.findIn K (.ref e_Reader) "took" = some (some (.ref f_Reader_took)))
    (gm_Reader_took : PySem.W.isFn K (.ref f_Reader_took) = true)
    (lm_Reader_took : K.lookup f_Reader_took = some ⟨oc_Reader_took, od_Reader_took, .func (PySem.W.fnOf "took" "Reader.took" (defArgs s_Reader_took) (defBody s_Reader_took) (defScope s_Reader_took) .none kV_Reader_took dc_Reader_took pm_Reader_took an_Reader_took cd_Reader_took ct_Reader_took), sl_Reader_took⟩)
    (cm_Reader_took : PySem.W.codeIn K cd_Reader_took "Reader.took" = true)
    (km_Reader_took : PySem.W.keepIn K (.ref f_Reader_took) = true)
    (fm_Reader_stretch : PySem.W.findIn K (.ref e_Reader) "stretch" = some (some (.ref f_Reader_stretch)))
    (gm_Reader_stretch : PySem.W.isFn K (.ref f_Reader_stretch) = true)
    (lm_Reader_stretch : K.lookup f_Reader_stretch = some ⟨oc_Reader_stretch, od_Reader_stretch, .func (PySem.W.fnOf "stretch" "Reader.stretch" (defArgs s_Reader_stretch) (defBody s_Reader_stretch) (defScope s_Reader_stretch) .none kV_Reader_stretch dc_Reader_stretch pm_Reader_stretch an_Reader_stretch cd_Reader_stretch ct_Reader_stretch), sl_Reader_stretch⟩)
    (cm_Reader_stretch : PySem.W.codeIn K cd_Reader_stretch "Reader.stretch" = true)
    (km_Reader_stretch : PySem.W.keepIn K (.ref f_Reader_stretch) = true)
    (fm_Reader_number : PySem.W.findIn K (.ref e_Reader) "number" = some (some (.ref f_Reader_number)))
    (gm_Reader_number : PySem.W.isFn K (.ref f_Reader_number) = true)
    (lm_Reader_number : K.lookup f_Reader_number = some ⟨oc_Reader_number, od_Reader_number, .func (PySem.W.fnOf "number" "Reader.number" (defArgs s_Reader_number) (defBody s_Reader_number) (defScope s_Reader_number) .none kV_Reader_number dc_Reader_number pm_Reader_number an_Reader_number cd_Reader_number ct_Reader_number), sl_Reader_number⟩)
    (cm_Reader_number : PySem.W.codeIn K cd_Reader_number "Reader.number" = true)
    (km_Reader_number : PySem.W.keepIn K (.ref f_Reader_number) = true)
    (fm_Path___init__ : PySem.W.findIn K (.ref e_Path) "__init__" = some (some (.ref f_Path___init__)))
    (gm_Path___init__ : PySem.W.isFn K (.ref f_Path___init__) = true)
    (lm_Path___init__ : K.lookup f_Path___init__ = some ⟨oc_Path___init__, od_Path___init__, .func (PySem.W.fnOf "__init__" "Path.__init__" (defArgs s_Path___init__) (defBody s_Path___init__) (defScope s_Path___init__) .none kV_Path___init__ dc_Path___init__ pm_Path___init__ an_Path___init__ cd_Path___init__ ct_Path___init__), sl_Path___init__⟩)
    (cm_Path___init__ : PySem.W.codeIn K cd_Path___init__ "Path.__init__" = true)
    (km_Path___init__ : PySem.W.keepIn K (.ref f_Path___init__) = true)
    (fm_Path_size : PySem.W.findIn K (.ref e_Path) "size" = some (some (.ref f_Path_size)))
    (gm_Path_size : PySem.W.isFn K (.ref f_Path_size) = true)
    (lm_Path_size : K.lookup f_Path_size = some ⟨oc_Path_size, od_Path_size, .func (PySem.W.fnOf "size" "Path.size" (defArgs s_Path_size) (defBody s_Path_size) (defScope s_Path_size) .none kV_Path_size dc_Path_size pm_Path_size an_Path_size cd_Path_size ct_Path_size), sl_Path_size⟩)
    (cm_Path_size : PySem.W.codeIn K cd_Path_size "Path.size" = true)
    (km_Path_size : PySem.W.keepIn K (.ref f_Path_size) = true)
    (fm_Path_numbers : PySem.W.findIn K (.ref e_Path) "numbers" = some (some (.ref f_Path_numbers)))
    (gm_Path_numbers : PySem.W.isFn K (.ref f_Path_numbers) = true)
    (lm_Path_numbers : K.lookup f_Path_numbers = some ⟨oc_Path_numbers, od_Path_numbers, .func (PySem.W.fnOf "numbers" "Path.numbers" (defArgs s_Path_numbers) (defBody s_Path_numbers) (defScope s_Path_numbers) .none kV_Path_numbers dc_Path_numbers pm_Path_numbers an_Path_numbers cd_Path_numbers ct_Path_numbers), sl_Path_numbers⟩)
    (cm_Path_numbers : PySem.W.codeIn K cd_Path_numbers "Path.numbers" = true)
    (km_Path_numbers : PySem.W.keepIn K (.ref f_Path_numbers) = true)
    (fm_Times___init__ : PySem.W.findIn K (.ref e_Times) "__init__" = some (some (.ref f_Times___init__)))
    (gm_Times___init__ : PySem.W.isFn K (.ref f_Times___init__) = true)
    (lm_Times___init__ : K.lookup f_Times___init__ = some ⟨oc_Times___init__, od_Times___init__, .func (PySem.W.fnOf "__init__" "Times.__init__" (defArgs s_Times___init__) (defBody s_Times___init__) (defScope s_Times___init__) .none kV_Times___init__ dc_Times___init__ pm_Times___init__ an_Times___init__ cd_Times___init__ ct_Times___init__), sl_Times___init__⟩)
    (cm_Times___init__ : PySem.W.codeIn K cd_Times___init__ "Times.__init__" = true)
    (km_Times___init__ : PySem.W.keepIn K (.ref f_Times___init__) = true)
    (fm_Times_size : PySem.W.findIn K (.ref e_Times) "size" = some (some (.ref f_Times_size)))
    (gm_Times_size : PySem.W.isFn K (.ref f_Times_size) = true)
    (lm_Times_size : K.lookup f_Times_size = some ⟨oc_Times_size, od_Times_size, .func (PySem.W.fnOf "size" "Times.size" (defArgs s_Times_size) (defBody s_Times_size) (defScope s_Times_size) .none kV_Times_size dc_Times_size pm_Times_size an_Times_size cd_Times_size ct_Times_size), sl_Times_size⟩)
    (cm_Times_size : PySem.W.codeIn K cd_Times_size "Times.size" = true)
    (km_Times_size : PySem.W.keepIn K (.ref f_Times_size) = true)
    (fm_Times_numbers : PySem.W.findIn K (.ref e_Times) "numbers" = some (some (.ref f_Times_numbers)))
    (gm_Times_numbers : PySem.W.isFn K (.ref f_Times_numbers) = true)
    (lm_Times_numbers : K.lookup f_Times_numbers = some ⟨oc_Times_numbers, od_Times_numbers, .func (PySem.W.fnOf "numbers" "Times.numbers" (defArgs s_Times_numbers) (defBody s_Times_numbers) (defScope s_Times_numbers) .none kV_Times_numbers dc_Times_numbers pm_Times_numbers an_Times_numbers cd_Times_numbers ct_Times_numbers), sl_Times_numbers⟩)
    (cm_Times_numbers : PySem.W.codeIn K cd_Times_numbers "Times.numbers" = true)
    (km_Times_numbers : PySem.W.keepIn K (.ref f_Times_numbers) = true)
    (o1_Draft : PySem.W.plainGet K e_Draft Str.empty = true)
    (o2_Draft : PySem.W.hasDictIn K e_Draft = true)
    (o3_Draft : PySem.W.plainOver K e_Draft = true)
    (o4_Draft : PySem.W.findIn K (.ref e_Draft) "__setattr__" = some (some (.builtin "object.__setattr__")))
    (o5_Draft : PySem.W.makesIn K e_Draft = true)
    (o8_Draft : PySem.W.keepIn K (.ref e_Draft) = true)
    (na_Draft_threading : PySem.W.findIn K (.ref e_Draft) "threading" = some none)
    (na_Draft_ties : PySem.W.findIn K (.ref e_Draft) "ties" = some none)
    (na_Draft_treading : PySem.W.findIn K (.ref e_Draft) "treading" = some none)
    (o1_Reader : PySem.W.plainGet K e_Reader Str.empty = true)
    (o2_Reader : PySem.W.hasDictIn K e_Reader = true)
    (o3_Reader : PySem.W.plainOver K e_Reader = true)
    (o4_Reader : PySem.W.findIn K (.ref e_Reader) "__setattr__" = some (some (.builtin "object.__setattr__")))
    (o5_Reader : PySem.W.makesIn K e_Reader = true)
    (o8_Reader : PySem.W.keepIn K (.ref e_Reader) = true)
    (na_Reader_text : PySem.W.findIn K (.ref e_Reader) "text" = some none)
    (na_Reader_place : PySem.W.findIn K (.ref e_Reader) "place" = some none)
    (o1_Path : PySem.W.plainGet K e_Path Str.empty = true)
    (o2_Path : PySem.W.hasDictIn K e_Path = true)
    (o3_Path : PySem.W.plainOver K e_Path = true)
    (o4_Path : PySem.W.findIn K (.ref e_Path) "__setattr__" = some (some (.builtin "object.__setattr__")))
    (o5_Path : PySem.W.makesIn K e_Path = true)
    (o8_Path : PySem.W.keepIn K (.ref e_Path) = true)
    (na_Path_stops : PySem.W.findIn K (.ref e_Path) "stops" = some none)
    (o1_Times : PySem.W.plainGet K e_Times Str.empty = true)
    (o2_Times : PySem.W.hasDictIn K e_Times = true)
    (o3_Times : PySem.W.plainOver K e_Times = true)
    (o4_Times : PySem.W.findIn K (.ref e_Times) "__setattr__" = some (some (.builtin "object.__setattr__")))
    (o5_Times : PySem.W.makesIn K e_Times = true)
    (o8_Times : PySem.W.keepIn K (.ref e_Times) = true)
    (na_Times_count : PySem.W.findIn K (.ref e_Times) "count" = some none)
    (na_Times_inner : PySem.W.findIn K (.ref e_Times) "inner" = some none) :
    ∃ fd : FuncData, (∀ (s : Shared) (v : Value), BindsTo s fd ⟨[v], []⟩ [("script", v)]) ∧ ∀ base : Heap, K.In base → base.Ns mainGlobals mg → FnOk P w K mg base CX0 43 fa fd ["script"] (sp_law K) := by
  have T : Txt K mg ⟨e_Draft, e_Reader, e_Path, e_Times, f_Draft___init__, PySem.W.fnOf "__init__" "Draft.__init__" (defArgs s_Draft___init__) (defBody s_Draft___init__) (defScope s_Draft___init__) .none kV_Draft___init__ dc_Draft___init__ pm_Draft___init__ an_Draft___init__ cd_Draft___init__ ct_Draft___init__, f_Reader___init__, PySem.W.fnOf "__init__" "Reader.__init__" (defArgs s_Reader___init__) (defBody s_Reader___init__) (defScope s_Reader___init__) .none kV_Reader___init__ dc_Reader___init__ pm_Reader___init__ an_Reader___init__ cd_Reader___init__ ct_Reader___init__, f_Reader_ended, PySem.W.fnOf "ended" "Reader.ended" (defArgs s_Reader_ended) (defBody s_Reader_ended) (defScope s_Reader_ended) .none kV_Reader_ended dc_Reader_ended pm_Reader_ended an_Reader_ended cd_Reader_ended ct_Reader_ended, f_Reader_took, PySem.W.fnOf "took" "Reader.took" (defArgs s_Reader_took) (defBody s_Reader_took) (defScope s_Reader_took) .none kV_Reader_took dc_Reader_took pm_Reader_took an_Reader_took cd_Reader_took ct_Reader_took, f_Reader_stretch, PySem.W.fnOf "stretch" "Reader.stretch" (defArgs s_Reader_stretch) (defBody s_Reader_stretch) (defScope s_Reader_stretch) .none kV_Reader_stretch dc_Reader_stretch pm_Reader_stretch an_Reader_stretch cd_Reader_stretch ct_Reader_stretch, f_Reader_number, PySem.W.fnOf "number" "Reader.number" (defArgs s_Reader_number) (defBody s_Reader_number) (defScope s_Reader_number) .none kV_Reader_number dc_Reader_number pm_Reader_number an_Reader_number cd_Reader_number ct_Reader_number, f_Path___init__, PySem.W.fnOf "__init__" "Path.__init__" (defArgs s_Path___init__) (defBody s_Path___init__) (defScope s_Path___init__) .none kV_Path___init__ dc_Path___init__ pm_Path___init__ an_Path___init__ cd_Path___init__ ct_Path___init__, f_Path_size, PySem.W.fnOf "size" "Path.size" (defArgs s_Path_size) (defBody s_Path_size) (defScope s_Path_size) .none kV_Path_size dc_Path_size pm_Path_size an_Path_size cd_Path_size ct_Path_size, f_Path_numbers, PySem.W.fnOf "numbers" "Path.numbers" (defArgs s_Path_numbers) (defBody s_Path_numbers) (defScope s_Path_numbers) .none kV_Path_numbers dc_Path_numbers pm_Path_numbers an_Path_numbers cd_Path_numbers ct_Path_numbers, f_Times___init__, PySem.W.fnOf "__init__" "Times.__init__" (defArgs s_Times___init__) (defBody s_Times___init__) (defScope s_Times___init__) .none kV_Times___init__ dc_Times___init__ pm_Times___init__ an_Times___init__ cd_Times___init__ ct_Times___init__, f_Times_size, PySem.W.fnOf "size" "Times.size" (defArgs s_Times_size) (defBody s_Times_size) (defScope s_Times_size) .none kV_Times_size dc_Times_size pm_Times_size an_Times_size cd_Times_size ct_Times_size, f_Times_numbers, PySem.W.fnOf "numbers" "Times.numbers" (defArgs s_Times_numbers) (defBody s_Times_numbers) (defScope s_Times_numbers) .none kV_Times_numbers dc_Times_numbers pm_Times_numbers an_Times_numbers cd_Times_numbers ct_Times_numbers, f_check_setting, PySem.W.fnOf "check_setting" "check_setting" (defArgs s_check_setting) (defBody s_check_setting) (defScope s_check_setting) .none kV_check_setting dc_check_setting pm_check_setting an_check_setting cd_check_setting ct_check_setting, f_check_count, PySem.W.fnOf "check_count" "check_count" (defArgs s_check_count) (defBody s_check_count) (defScope s_check_count) .none kV_check_count dc_check_count pm_check_count an_check_count cd_check_count ct_check_count, f_check_shaft, PySem.W.fnOf "check_shaft" "check_shaft" (defArgs s_check_shaft) (defBody s_check_shaft) (defScope s_check_shaft) .none kV_check_shaft dc_check_shaft pm_check_shaft an_check_shaft cd_check_shaft ct_check_shaft, f_check_tie, PySem.W.fnOf "check_tie" "check_tie" (defArgs s_check_tie) (defBody s_check_tie) (defScope s_check_tie) .none kV_check_tie dc_check_tie pm_check_tie an_check_tie cd_check_tie ct_check_tie, f_check_treading, PySem.W.fnOf "check_treading" "check_treading" (defArgs s_check_treading) (defBody s_check_treading) (defScope s_check_treading) .none kV_check_treading dc_check_treading pm_check_treading an_check_treading cd_check_treading ct_check_treading, f_number_of, PySem.W.fnOf "number_of" "number_of" (defArgs s_number_of) (defBody s_number_of) (defScope s_number_of) .none kV_number_of dc_number_of pm_number_of an_number_of cd_number_of ct_number_of, f_unfolded, PySem.W.fnOf "unfolded" "unfolded" (defArgs s_unfolded) (defBody s_unfolded) (defScope s_unfolded) .none kV_unfolded dc_unfolded pm_unfolded an_unfolded cd_unfolded ct_unfolded, f_shown, PySem.W.fnOf "shown" "shown" (defArgs s_shown) (defBody s_shown) (defScope s_shown) .none kV_shown dc_shown pm_shown an_shown cd_shown ct_shown, f_whole_size, PySem.W.fnOf "whole_size" "whole_size" (defArgs s_whole_size) (defBody s_whole_size) (defScope s_whole_size) .none kV_whole_size dc_whole_size pm_whole_size an_whole_size cd_whole_size ct_whole_size, f_all_numbers, PySem.W.fnOf "all_numbers" "all_numbers" (defArgs s_all_numbers) (defBody s_all_numbers) (defScope s_all_numbers) .none kV_all_numbers dc_all_numbers pm_all_numbers an_all_numbers cd_all_numbers ct_all_numbers, f_steps_between, PySem.W.fnOf "steps_between" "steps_between" (defArgs s_steps_between) (defBody s_steps_between) (defScope s_steps_between) .none kV_steps_between dc_steps_between pm_steps_between an_steps_between cd_steps_between ct_steps_between, f_read_row, PySem.W.fnOf "read_row" "read_row" (defArgs s_read_row) (defBody s_read_row) (defScope s_read_row) .none kV_read_row dc_read_row pm_read_row an_read_row cd_read_row ct_read_row, f_read_items, PySem.W.fnOf "read_items" "read_items" (defArgs s_read_items) (defBody s_read_items) (defScope s_read_items) .none kV_read_items dc_read_items pm_read_items an_read_items cd_read_items ct_read_items, f_read_item, PySem.W.fnOf "read_item" "read_item" (defArgs s_read_item) (defBody s_read_item) (defScope s_read_item) .none kV_read_item dc_read_item pm_read_item an_read_item cd_read_item ct_read_item, f_read_times, PySem.W.fnOf "read_times" "read_times" (defArgs s_read_times) (defBody s_read_times) (defScope s_read_times) .none kV_read_times dc_read_times pm_read_times an_read_times cd_read_times ct_read_times, f_read_path, PySem.W.fnOf "read_path" "read_path" (defArgs s_read_path) (defBody s_read_path) (defScope s_read_path) .none kV_read_path dc_read_path pm_read_path an_read_path cd_read_path ct_read_path, f_read_number, PySem.W.fnOf "read_number" "read_number" (defArgs s_read_number) (defBody s_read_number) (defScope s_read_number) .none kV_read_number dc_read_number pm_read_number an_read_number cd_read_number ct_read_number, f_parted, PySem.W.fnOf "parted" "parted" (defArgs s_parted) (defBody s_parted) (defScope s_parted) .none kV_parted dc_parted pm_parted an_parted cd_parted ct_parted, f_written_path, PySem.W.fnOf "written_path" "written_path" (defArgs s_written_path) (defBody s_written_path) (defScope s_written_path) .none kV_written_path dc_written_path pm_written_path an_written_path cd_written_path ct_written_path, f_is_stop, PySem.W.fnOf "is_stop" "is_stop" (defArgs s_is_stop) (defBody s_is_stop) (defScope s_is_stop) .none kV_is_stop dc_is_stop pm_is_stop an_is_stop cd_is_stop ct_is_stop, f_written_draft, PySem.W.fnOf "written_draft" "written_draft" (defArgs s_written_draft) (defBody s_written_draft) (defScope s_written_draft) .none kV_written_draft dc_written_draft pm_written_draft an_written_draft cd_written_draft ct_written_draft, f_read_draft, PySem.W.fnOf "read_draft" "read_draft" (defArgs s_read_draft) (defBody s_read_draft) (defScope s_read_draft) .none kV_read_draft dc_read_draft pm_read_draft an_read_draft cd_read_draft ct_read_draft, f_law_numbers, PySem.W.fnOf "_law_numbers" "_law_numbers" (defArgs s_law_numbers) (defBody s_law_numbers) (defScope s_law_numbers) .none kV_law_numbers dc_law_numbers pm_law_numbers an_law_numbers cd_law_numbers ct_law_numbers, f_law_subset, PySem.W.fnOf "_law_subset" "_law_subset" (defArgs s_law_subset) (defBody s_law_subset) (defScope s_law_subset) .none kV_law_subset dc_law_subset pm_law_subset an_law_subset cd_law_subset ct_law_subset, f_law_draft_by, PySem.W.fnOf "_law_draft_by" "_law_draft_by" (defArgs s_law_draft_by) (defBody s_law_draft_by) (defScope s_law_draft_by) .none kV_law_draft_by dc_law_draft_by pm_law_draft_by an_law_draft_by cd_law_draft_by ct_law_draft_by, f_law_numbers_same, PySem.W.fnOf "_law_numbers_same" "_law_numbers_same" (defArgs s_law_numbers_same) (defBody s_law_numbers_same) (defScope s_law_numbers_same) .none kV_law_numbers_same dc_law_numbers_same pm_law_numbers_same an_law_numbers_same cd_law_numbers_same ct_law_numbers_same, f_law_draft_same, PySem.W.fnOf "_law_draft_same" "_law_draft_same" (defArgs s_law_draft_same) (defBody s_law_draft_same) (defScope s_law_draft_same) .none kV_law_draft_same dc_law_draft_same pm_law_draft_same an_law_draft_same cd_law_draft_same ct_law_draft_same, f_law_other_writing, PySem.W.fnOf "_law_other_writing" "_law_other_writing" (defArgs s_law_other_writing) (defBody s_law_other_writing) (defScope s_law_other_writing) .none kV_law_other_writing dc_law_other_writing pm_law_other_writing an_law_other_writing cd_law_other_writing ct_law_other_writing, f_law_joined, PySem.W.fnOf "_law_joined" "_law_joined" (defArgs s_law_joined) (defBody s_law_joined) (defScope s_law_joined) .none kV_law_joined dc_law_joined pm_law_joined an_law_joined cd_law_joined ct_law_joined, f_law, PySem.W.fnOf "law" "law" (defArgs s_law) (defBody s_law) (defScope s_law) .none kV_law dc_law pm_law an_law cd_law ct_law, e_WeaveError, f_WeaveError_called, PySem.W.fnOf "called" "WeaveError.called" (defArgs s_WeaveError_called) (defBody s_WeaveError_called) (defScope s_WeaveError_called) .none kV_WeaveError_called dc_WeaveError_called pm_WeaveError_called an_WeaveError_called cd_WeaveError_called ct_WeaveError_called, e_NoRow, f_NoRow_called, PySem.W.fnOf "called" "NoRow.called" (defArgs s_NoRow_called) (defBody s_NoRow_called) (defScope s_NoRow_called) .none kV_NoRow_called dc_NoRow_called pm_NoRow_called an_NoRow_called cd_NoRow_called ct_NoRow_called, e_TooLarge, f_TooLarge_called, PySem.W.fnOf "called" "TooLarge.called" (defArgs s_TooLarge_called) (defBody s_TooLarge_called) (defScope s_TooLarge_called) .none kV_TooLarge_called dc_TooLarge_called pm_TooLarge_called an_TooLarge_called cd_TooLarge_called ct_TooLarge_called, e_NoDraft, f_NoDraft_called, PySem.W.fnOf "called" "NoDraft.called" (defArgs s_NoDraft_called) (defBody s_NoDraft_called) (defScope s_NoDraft_called) .none kV_NoDraft_called dc_NoDraft_called pm_NoDraft_called an_NoDraft_called cd_NoDraft_called ct_NoDraft_called⟩ :=
  ⟨⟨fun_mk (st := s_check_setting) l_check_setting c_check_setting k_check_setting, PySem.W.mg_of X G a_check_setting, (fun_mk (st := s_check_setting) l_check_setting c_check_setting k_check_setting).binds (ps := ["threading", "ties"]) fun _ _ _ _ _ _ us hl => bl2 (fun _ _ => rfl) us hl⟩,
   ⟨fun_mk (st := s_check_count) l_check_count c_check_count k_check_count, PySem.W.mg_of X G a_check_count, (fun_mk (st := s_check_count) l_check_count c_check_count k_check_count).binds (ps := ["count"]) fun _ _ _ _ _ _ us hl => bl1 (fun _ => rfl) us hl⟩,
   ⟨fun_mk (st := s_check_shaft) l_check_shaft c_check_shaft k_check_shaft, PySem.W.mg_of X G a_check_shaft, (fun_mk (st := s_check_shaft) l_check_shaft c_check_shaft k_check_shaft).binds (ps := ["shaft"]) fun _ _ _ _ _ _ us hl => bl1 (fun _ => rfl) us hl⟩,
   ⟨fun_mk (st := s_check_tie) l_check_tie c_check_tie k_check_tie, PySem.W.mg_of X G a_check_tie, (fun_mk (st := s_check_tie) l_check_tie c_check_tie k_check_tie).binds (ps := ["tie"]) fun _ _ _ _ _ _ us hl => bl1 (fun _ => rfl) us hl⟩,
   ⟨fun_mk (st := s_check_treading) l_check_treading c_check_treading k_check_treading, PySem.W.mg_of X G a_check_treading, (fun_mk (st := s_check_treading) l_check_treading c_check_treading k_check_treading).binds (ps := ["treading", "treadles"]) fun _ _ _ _ _ _ us hl => bl2 (fun _ _ => rfl) us hl⟩,
   ⟨fun_mk (st := s_number_of) l_number_of c_number_of k_number_of, PySem.W.mg_of X G a_number_of, (fun_mk (st := s_number_of) l_number_of c_number_of k_number_of).binds (ps := ["figures"]) fun _ _ _ _ _ _ us hl => bl1 (fun _ => rfl) us hl⟩,
   ⟨fun_mk (st := s_unfolded) l_unfolded c_unfolded k_unfolded, PySem.W.mg_of X G a_unfolded, (fun_mk (st := s_unfolded) l_unfolded c_unfolded k_unfolded).binds (ps := ["text"]) fun _ _ _ _ _ _ us hl => bl1 (fun _ => rfl) us hl⟩,
   ⟨fun_mk (st := s_shown) l_shown c_shown k_shown, PySem.W.mg_of X G a_shown, (fun_mk (st := s_shown) l_shown c_shown k_shown).binds (ps := ["row"]) fun _ _ _ _ _ _ us hl => bl1 (fun _ => rfl) us hl⟩,
   ⟨fun_mk (st := s_whole_size) l_whole_size c_whole_size k_whole_size, PySem.W.mg_of X G a_whole_size, (fun_mk (st := s_whole_size) l_whole_size c_whole_size k_whole_size).binds (ps := ["row_items"]) fun _ _ _ _ _ _ us hl => bl1 (fun _ => rfl) us hl⟩,
   ⟨fun_mk (st := s_all_numbers) l_all_numbers c_all_numbers k_all_numbers, PySem.W.mg_of X G a_all_numbers, (fun_mk (st := s_all_numbers) l_all_numbers c_all_numbers k_all_numbers).binds (ps := ["row_items"]) fun _ _ _ _ _ _ us hl => bl1 (fun _ => rfl) us hl⟩,
   ⟨fun_mk (st := s_steps_between) l_steps_between c_steps_between k_steps_between, PySem.W.mg_of X G a_steps_between, (fun_mk (st := s_steps_between) l_steps_between c_steps_between k_steps_between).binds (ps := ["start", "stop"]) fun _ _ _ _ _ _ us hl => bl2 (fun _ _ => rfl) us hl⟩,
   ⟨fun_mk (st := s_read_row) l_read_row c_read_row k_read_row, PySem.W.mg_of X G a_read_row, (fun_mk (st := s_read_row) l_read_row c_read_row k_read_row).binds (ps := ["text"]) fun _ _ _ _ _ _ us hl => bl1 (fun _ => rfl) us hl⟩,
   ⟨fun_mk (st := s_read_items) l_read_items c_read_items k_read_items, PySem.W.mg_of X G a_read_items, (fun_mk (st := s_read_items) l_read_items c_read_items k_read_items).binds (ps := ["reader", "depth"]) fun _ _ _ _ _ _ us hl => bl2 (fun _ _ => rfl) us hl⟩,
   ⟨fun_mk (st := s_read_item) l_read_item c_read_item k_read_item, PySem.W.mg_of X G a_read_item, (fun_mk (st := s_read_item) l_read_item c_read_item k_read_item).binds (ps := ["reader", "depth"]) fun _ _ _ _ _ _ us hl => bl2 (fun _ _ => rfl) us hl⟩,
   ⟨fun_mk (st := s_read_times) l_read_times c_read_times k_read_times, PySem.W.mg_of X G a_read_times, (fun_mk (st := s_read_times) l_read_times c_read_times k_read_times).binds (ps := ["reader", "count", "depth"]) fun _ _ _ _ _ _ us hl => bl3 (fun _ _ _ => rfl) us hl⟩,
   ⟨fun_mk (st := s_read_path) l_read_path c_read_path k_read_path, PySem.W.mg_of X G a_read_path, (fun_mk (st := s_read_path) l_read_path c_read_path k_read_path).binds (ps := ["reader", "first"]) fun _ _ _ _ _ _ us hl => bl2 (fun _ _ => rfl) us hl⟩,
   ⟨fun_mk (st := s_read_number) l_read_number c_read_number k_read_number, PySem.W.mg_of X G a_read_number, (fun_mk (st := s_read_number) l_read_number c_read_number k_read_number).binds (ps := ["reader"]) fun _ _ _ _ _ _ us hl => bl1 (fun _ => rfl) us hl⟩,
   ⟨fun_mk (st := s_parted) l_parted c_parted k_parted, PySem.W.mg_of X G a_parted, (fun_mk (st := s_parted) l_parted c_parted k_parted).binds (ps := ["row"]) fun _ _ _ _ _ _ us hl => bl1 (fun _ => rfl) us hl⟩,
   ⟨fun_mk (st := s_written_path) l_written_path c_written_path k_written_path, PySem.W.mg_of X G a_written_path, (fun_mk (st := s_written_path) l_written_path c_written_path k_written_path).binds (ps := ["path"]) fun _ _ _ _ _ _ us hl => bl1 (fun _ => rfl) us hl⟩,
   ⟨fun_mk (st := s_is_stop) l_is_stop c_is_stop k_is_stop, PySem.W.mg_of X G a_is_stop, (fun_mk (st := s_is_stop) l_is_stop c_is_stop k_is_stop).binds (ps := ["path", "k"]) fun _ _ _ _ _ _ us hl => bl2 (fun _ _ => rfl) us hl⟩,
   ⟨fun_mk (st := s_written_draft) l_written_draft c_written_draft k_written_draft, PySem.W.mg_of X G a_written_draft, (fun_mk (st := s_written_draft) l_written_draft c_written_draft k_written_draft).binds (ps := ["draft"]) fun _ _ _ _ _ _ us hl => bl1 (fun _ => rfl) us hl⟩,
   ⟨fun_mk (st := s_read_draft) l_read_draft c_read_draft k_read_draft, PySem.W.mg_of X G a_read_draft, (fun_mk (st := s_read_draft) l_read_draft c_read_draft k_read_draft).binds (ps := ["text"]) fun _ _ _ _ _ _ us hl => bl1 (fun _ => rfl) us hl⟩,
   ⟨fun_mk (st := s_law_numbers) l_law_numbers c_law_numbers k_law_numbers, PySem.W.mg_of X G a_law_numbers, (fun_mk (st := s_law_numbers) l_law_numbers c_law_numbers k_law_numbers).binds (ps := ["script", "many"]) fun _ _ _ _ _ _ us hl => bl2 (fun _ _ => rfl) us hl⟩,
   ⟨fun_mk (st := s_law_subset) l_law_subset c_law_subset k_law_subset, PySem.W.mg_of X G a_law_subset, (fun_mk (st := s_law_subset) l_law_subset c_law_subset k_law_subset).binds (ps := ["number"]) fun _ _ _ _ _ _ us hl => bl1 (fun _ => rfl) us hl⟩,
   ⟨fun_mk (st := s_law_draft_by) l_law_draft_by c_law_draft_by k_law_draft_by, PySem.W.mg_of X G a_law_draft_by, (fun_mk (st := s_law_draft_by) l_law_draft_by c_law_draft_by k_law_draft_by).binds (ps := ["numbers"]) fun _ _ _ _ _ _ us hl => bl1 (fun _ => rfl) us hl⟩,
   ⟨fun_mk (st := s_law_numbers_same) l_law_numbers_same c_law_numbers_same k_law_numbers_same, PySem.W.mg_of X G a_law_numbers_same, (fun_mk (st := s_law_numbers_same) l_law_numbers_same c_law_numbers_same k_law_numbers_same).binds (ps := ["found", "due"]) fun _ _ _ _ _ _ us hl => bl2 (fun _ _ => rfl) us hl⟩,
   ⟨fun_mk (st := s_law_draft_same) l_law_draft_same c_law_draft_same k_law_draft_same, PySem.W.mg_of X G a_law_draft_same, (fun_mk (st := s_law_draft_same) l_law_draft_same c_law_draft_same k_law_draft_same).binds (ps := ["draft", "threading", "ties", "treading"]) fun _ _ _ _ _ _ us hl => bl4 (fun _ _ _ _ => rfl) us hl⟩,
   ⟨fun_mk (st := s_law_other_writing) l_law_other_writing c_law_other_writing k_law_other_writing, PySem.W.mg_of X G a_law_other_writing, (fun_mk (st := s_law_other_writing) l_law_other_writing c_law_other_writing k_law_other_writing).binds (ps := ["row", "way"]) fun _ _ _ _ _ _ us hl => bl2 (fun _ _ => rfl) us hl⟩,
   ⟨fun_mk (st := s_law_joined) l_law_joined c_law_joined k_law_joined, PySem.W.mg_of X G a_law_joined, (fun_mk (st := s_law_joined) l_law_joined c_law_joined k_law_joined).binds (ps := ["threading", "ties", "treading"]) fun _ _ _ _ _ _ us hl => bl3 (fun _ _ _ => rfl) us hl⟩,
   ⟨fun_mk (st := s_law) l_law c_law k_law, PySem.W.mg_of X G a_law, (fun_mk (st := s_law) l_law c_law k_law).binds (ps := ["script"]) fun _ _ _ _ _ _ us hl => bl1 (fun _ => rfl) us hl⟩,
   PySem.W.mg_none_of X G z_abs,
   PySem.W.mg_none_of X G z_bool,
   PySem.W.mg_none_of X G z_int,
   PySem.W.mg_none_of X G z_isinstance,
   PySem.W.mg_none_of X G z_len,
   PySem.W.mg_none_of X G z_list,
   PySem.W.mg_none_of X G z_range,
   PySem.W.mg_none_of X G z_str,
   PySem.W.mg_none_of X G z_sum,
   ⟨_, PySem.W.mg_of X G x_MOST_STRANDS⟩,
   ⟨_, PySem.W.mg_of X G x_MOST_SHAFTS⟩,
   ⟨_, PySem.W.mg_of X G x_FIGURES⟩,
   ⟨_, PySem.W.mg_of X G x_MOST_NUMBERS⟩,
   ⟨_, PySem.W.mg_of X G x_MOST_DEEP⟩,
   ⟨_, PySem.W.mg_of X G x_BETWEEN_PARTS⟩,
   ⟨_, PySem.W.mg_of X G x_BETWEEN_TIES⟩,
   PySem.W.mg_of X G n_WeaveError,
   exn_mk y1_WeaveError y2_WeaveError y3_WeaveError y4_WeaveError y5_WeaveError y6_WeaveError y7_WeaveError y8_WeaveError y9_WeaveError y10_WeaveError y11_WeaveError,
   ⟨fun_mk (st := s_WeaveError_called) lm_WeaveError cm_WeaveError km_WeaveError, ⟨fm_WeaveError, gm_WeaveError, km_WeaveError⟩, (fun_mk (st := s_WeaveError_called) lm_WeaveError cm_WeaveError km_WeaveError).binds (ps := ["self"]) fun _ _ _ _ _ _ us hl => match us, hl with | [_], _ => rfl⟩,
   r_WeaveError_WeaveError,
   r_WeaveError_NoRow,
   r_WeaveError_TooLarge,
   r_WeaveError_NoDraft,
   PySem.W.mg_of X G n_NoRow,
   exn_mk y1_NoRow y2_NoRow y3_NoRow y4_NoRow y5_WeaveError y6_WeaveError y7_NoRow y8_NoRow y9_NoRow y10_NoRow y11_NoRow,
   ⟨fun_mk (st := s_NoRow_called) lm_NoRow cm_NoRow km_NoRow, ⟨fm_NoRow, gm_NoRow, km_NoRow⟩, (fun_mk (st := s_NoRow_called) lm_NoRow cm_NoRow km_NoRow).binds (ps := ["self"]) fun _ _ _ _ _ _ us hl => match us, hl with | [_], _ => rfl⟩,
   r_NoRow_WeaveError,
   r_NoRow_NoRow,
   r_NoRow_TooLarge,
   r_NoRow_NoDraft,
   PySem.W.mg_of X G n_TooLarge,
   exn_mk y1_TooLarge y2_TooLarge y3_TooLarge y4_TooLarge y5_WeaveError y6_WeaveError y7_TooLarge y8_TooLarge y9_TooLarge y10_TooLarge y11_TooLarge,
   ⟨fun_mk (st := s_TooLarge_called) lm_TooLarge cm_TooLarge km_TooLarge, ⟨fm_TooLarge, gm_TooLarge, km_TooLarge⟩, (fun_mk (st := s_TooLarge_called) lm_TooLarge cm_TooLarge km_TooLarge).binds (ps := ["self"]) fun _ _ _ _ _ _ us hl => match us, hl with | [_], _ => rfl⟩,
   r_TooLarge_WeaveError,
   r_TooLarge_NoRow,
   r_TooLarge_TooLarge,
   r_TooLarge_NoDraft,
   PySem.W.mg_of X G n_NoDraft,
   exn_mk y1_NoDraft y2_NoDraft y3_NoDraft y4_NoDraft y5_WeaveError y6_WeaveError y7_NoDraft y8_NoDraft y9_NoDraft y10_NoDraft y11_NoDraft,
   ⟨fun_mk (st := s_NoDraft_called) lm_NoDraft cm_NoDraft km_NoDraft, ⟨fm_NoDraft, gm_NoDraft, km_NoDraft⟩, (fun_mk (st := s_NoDraft_called) lm_NoDraft cm_NoDraft km_NoDraft).binds (ps := ["self"]) fun _ _ _ _ _ _ us hl => match us, hl with | [_], _ => rfl⟩,
   r_NoDraft_WeaveError,
   r_NoDraft_NoRow,
   r_NoDraft_TooLarge,
   r_NoDraft_NoDraft,
   PySem.W.mg_of X G n_Draft,
   own_mk o1_Draft o2_Draft o3_Draft o4_Draft o5_Draft fm_Draft___init__ gm_Draft___init__ o8_Draft,
   na_Draft_threading,
   na_Draft_ties,
   na_Draft_treading,
   PySem.W.mg_of X G n_Reader,
   own_mk o1_Reader o2_Reader o3_Reader o4_Reader o5_Reader fm_Reader___init__ gm_Reader___init__ o8_Reader,
   na_Reader_text,
   na_Reader_place,
   PySem.W.mg_of X G n_Path,
   own_mk o1_Path o2_Path o3_Path o4_Path o5_Path fm_Path___init__ gm_Path___init__ o8_Path,
   na_Path_stops,
   PySem.W.mg_of X G n_Times,
   own_mk o1_Times o2_Times o3_Times o4_Times o5_Times fm_Times___init__ gm_Times___init__ o8_Times,
   na_Times_count,
   na_Times_inner,
   ⟨fun_mk (st := s_Draft___init__) lm_Draft___init__ cm_Draft___init__ km_Draft___init__, ⟨fm_Draft___init__, gm_Draft___init__, km_Draft___init__⟩, (fun_mk (st := s_Draft___init__) lm_Draft___init__ cm_Draft___init__ km_Draft___init__).binds (ps := ["self", "threading", "ties", "treading"]) fun _ _ _ _ _ _ us hl => bl4 (fun _ _ _ _ => rfl) us hl⟩,
   ⟨fun_mk (st := s_Reader___init__) lm_Reader___init__ cm_Reader___init__ km_Reader___init__, ⟨fm_Reader___init__, gm_Reader___init__, km_Reader___init__⟩, (fun_mk (st := s_Reader___init__) lm_Reader___init__ cm_Reader___init__ km_Reader___init__).binds (ps := ["self", "text"]) fun _ _ _ _ _ _ us hl => bl2 (fun _ _ => rfl) us hl⟩,
   ⟨fun_mk (st := s_Reader_ended) lm_Reader_ended cm_Reader_ended km_Reader_ended, ⟨fm_Reader_ended, gm_Reader_ended, km_Reader_ended⟩, (fun_mk (st := s_Reader_ended) lm_Reader_ended cm_Reader_ended km_Reader_ended).binds (ps := ["self"]) fun _ _ _ _ _ _ us hl => bl1 (fun _ => rfl) us hl⟩,
   ⟨fun_mk (st := s_Reader_took) lm_Reader_took cm_Reader_took km_Reader_took, ⟨fm_Reader_took, gm_Reader_took, km_Reader_took⟩, (fun_mk (st := s_Reader_took) lm_Reader_took cm_Reader_took km_Reader_took).binds (ps := ["self", "wanted"]) fun _ _ _ _ _ _ us hl => bl2 (fun _ _ => rfl) us hl⟩,
   ⟨fun_mk (st := s_Reader_stretch) lm_Reader_stretch cm_Reader_stretch km_Reader_stretch, ⟨fm_Reader_stretch, gm_Reader_stretch, km_Reader_stretch⟩, (fun_mk (st := s_Reader_stretch) lm_Reader_stretch cm_Reader_stretch km_Reader_stretch).binds (ps := ["self", "signs"]) fun _ _ _ _ _ _ us hl => bl2 (fun _ _ => rfl) us hl⟩,
   ⟨fun_mk (st := s_Reader_number) lm_Reader_number cm_Reader_number km_Reader_number, ⟨fm_Reader_number, gm_Reader_number, km_Reader_number⟩, (fun_mk (st := s_Reader_number) lm_Reader_number cm_Reader_number km_Reader_number).binds (ps := ["self"]) fun _ _ _ _ _ _ us hl => bl1 (fun _ => rfl) us hl⟩,
   ⟨fun_mk (st := s_Path___init__) lm_Path___init__ cm_Path___init__ km_Path___init__, ⟨fm_Path___init__, gm_Path___init__, km_Path___init__⟩, (fun_mk (st := s_Path___init__) lm_Path___init__ cm_Path___init__ km_Path___init__).binds (ps := ["self", "stops"]) fun _ _ _ _ _ _ us hl => bl2 (fun _ _ => rfl) us hl⟩,
   ⟨fun_mk (st := s_Path_size) lm_Path_size cm_Path_size km_Path_size, ⟨fm_Path_size, gm_Path_size, km_Path_size⟩, (fun_mk (st := s_Path_size) lm_Path_size cm_Path_size km_Path_size).binds (ps := ["self"]) fun _ _ _ _ _ _ us hl => bl1 (fun _ => rfl) us hl⟩,
   ⟨fun_mk (st := s_Path_numbers) lm_Path_numbers cm_Path_numbers km_Path_numbers, ⟨fm_Path_numbers, gm_Path_numbers, km_Path_numbers⟩, (fun_mk (st := s_Path_numbers) lm_Path_numbers cm_Path_numbers km_Path_numbers).binds (ps := ["self"]) fun _ _ _ _ _ _ us hl => bl1 (fun _ => rfl) us hl⟩,
   ⟨fun_mk (st := s_Times___init__) lm_Times___init__ cm_Times___init__ km_Times___init__, ⟨fm_Times___init__, gm_Times___init__, km_Times___init__⟩, (fun_mk (st := s_Times___init__) lm_Times___init__ cm_Times___init__ km_Times___init__).binds (ps := ["self", "count", "inner"]) fun _ _ _ _ _ _ us hl => bl3 (fun _ _ _ => rfl) us hl⟩,
   ⟨fun_mk (st := s_Times_size) lm_Times_size cm_Times_size km_Times_size, ⟨fm_Times_size, gm_Times_size, km_Times_size⟩, (fun_mk (st := s_Times_size) lm_Times_size cm_Times_size km_Times_size).binds (ps := ["self"]) fun _ _ _ _ _ _ us hl => bl1 (fun _ => rfl) us hl⟩,
   ⟨fun_mk (st := s_Times_numbers) lm_Times_numbers cm_Times_numbers km_Times_numbers, ⟨fm_Times_numbers, gm_Times_numbers, km_Times_numbers⟩, (fun_mk (st := s_Times_numbers) lm_Times_numbers cm_Times_numbers km_Times_numbers).binds (ps := ["self"]) fun _ _ _ _ _ _ us hl => bl1 (fun _ => rfl) us hl⟩⟩
  have e := hfa.symm.trans (PySem.W.mg_of X G a_law)
  cases e
  exact ⟨_, fun s v => .of_eq rfl, fun base _ _ => ok_law T⟩
end Mine
open PySem PySem.W PyProof.Rows
def PySem.W.Fast.tw4818729362136705537 := ()
def PySem.W.Fast.tw10982866060371703794 := ()
def PySem.W.Fast.tw11785745149383296913 := ()
def PySem.W.Fast.tw6066729974087645207 := ()
def PySem.W.Fast.tw9669281603410449333 := ()
def PySem.W.Fast.tw819754809169210636 := ()
def PySem.W.Fast.tw2684133489637045193 := ()
def PySem.W.Fast.tw11455790703416944546 := ()
def PySem.W.Fast.tw13429608595654969904 := ()
def PySem.W.Fast.tw3522029450595200286 := ()
def PySem.W.Fast.tw12342350623656349378 := ()
def PySem.W.Fast.tw3603476265651953416 := ()
def PySem.W.Fast.tw10367942837295213610 := ()
def PySem.W.Fast.tw11067493953277145128 := ()
def PySem.W.Fast.tw15482340503805294869 := ()
def PySem.W.Fast.tw9733192986486061974 := ()
def PySem.W.Fast.tw561682496769221527 := ()
def PySem.W.Fast.tw18343740817199058906 := ()
def PySem.W.Fast.tw3777791755968459913 := ()
def PySem.W.Fast.tw13332885542785583546 := ()
def PySem.W.Fast.tw11507732714498371918 := ()
def PySem.W.Fast.tw2283130597212136883 := ()
def PySem.W.Fast.tw2417416052276253150 := ()
def PySem.W.Fast.tw6392282022474947812 := ()
def PySem.W.Fast.tw18017381772982337030 := ()
def PySem.W.Fast.tw6569459218970367985 := ()
def PySem.W.Fast.tw5542872781043364303 := ()
def PySem.W.Fast.tw9462554737598063831 := ()
def PySem.W.Fast.tw11925377506134684140 := ()
def PySem.W.Fast.tw3614980187379902316 := ()
def PySem.W.Fast.tw6663021296127418687 := ()
def PySem.W.Fast.tw10561049569407630485 := ()
def PySem.W.Fast.tw17092903200252134348 := ()
def PySem.W.Fast.tw1325021540156515553 := ()
def PySem.W.Fast.tw6237945720445959973 := ()
def PySem.W.Fast.tw9185655683606991158 := ()
def PySem.W.Fast.tw11862510363915354501 := ()
def PySem.W.Fast.tw5481080491249492440 := ()
def PySem.W.Fast.tw5891612976603514797 := ()
def PySem.W.Fast.tw15719980759674522826 := ()
def PySem.W.Fast.tw11078923266658941158 := ()
def PySem.W.Fast.tw6401176178886614872 := ()
def PySem.W.Fast.tw2828037968760242692 := ()
def PySem.W.Fast.tw11348031122661663340 := ()
def PySem.W.Fast.tw6914957160735424544 := ()
def PySem.W.Fast.tw2995303621895341249 := ()
def PySem.W.Fast.tw141585883879502357 := ()
def PySem.W.Fast.tw3996140858791954783 := ()
def PySem.W.Fast.tw6278842741351302232 := ()
def PySem.W.Fast.tw1646819157146135255 := ()
def PySem.W.Fast.tw17177244530048773390 := ()
def PySem.W.Fast.tw16579196935692710785 := ()
def PySem.W.Fast.tw17850871246121877525 := ()
def PySem.W.Fast.tw10147334044901825437 := ()
def PySem.W.Fast.tw11525394725831221470 := ()
def PySem.W.Fast.tw352388898851532061 := ()
def PySem.W.Fast.tw14581879172094924484 := ()
def PySem.W.Fast.tw11133280828205269829 := ()
def PySem.W.Fast.tw12888523713470125194 := ()
def PySem.W.Fast.tw16039810526899718265 := ()
def PySem.W.Fast.tw5930114174722662292 := ()
def PySem.W.Fast.tw3514507729675300565 := ()
def PySem.W.Fast.tw9179590674787730552 := ()
def PySem.W.Fast.tw3837447208341867451 := ()
def PySem.W.Fast.tw10523554150985897753 := ()
def PySem.W.Fast.tw14195440065122977404 := ()
def PySem.W.Fast.tw581449200679199410 := ()
def PySem.W.Fast.tw14627825331637318224 := ()
def PySem.W.Fast.tw8548456943664171762 := ()
def PySem.W.Fast.tw17943445655507501181 := ()
def PySem.W.Fast.tw11343653580310241268 := ()
def PySem.W.Fast.tw2780010814044303544 := ()
def PySem.W.Fast.tw14350839591538797100 := ()
def PySem.W.Fast.tw7227901549207705687 := ()
def PySem.W.Fast.tw7038447626165057068 := ()
def PySem.W.Fast.tw6155590317271757985 := ()
def PySem.W.Fast.tw5731870557759624172 := ()
def PySem.W.Fast.tw14143331133548862756 := ()
def PySem.W.Fast.tw8684695615132747519 := ()
def PySem.W.Fast.tw15706339219247410489 := ()
def PySem.W.Fast.tw18118622225750915630 := ()
def PySem.W.Fast.tw6489729747354732530 := ()
def PySem.W.Fast.tw215268541760581832 := ()
def PySem.W.Fast.tw10100287764731528993 := ()
def PySem.W.Fast.tw4815643745262584511 := ()
def PySem.W.Fast.tw3243079287006500957 := ()
def PySem.W.Fast.tw5129528835228211714 := ()
def PySem.W.Fast.tw5345840686686786295 := ()
def PySem.W.Fast.tw4660770697314682209 := ()
def PySem.W.Fast.tw9998944241128237834 := ()
def PySem.W.Fast.tw5689662300943799772 := ()
def PySem.W.Fast.tw2174329380026707030 := ()
def PySem.W.Fast.tw8206627235749671601 := ()
def PySem.W.Fast.tw14180471119511123989 := ()
def PySem.W.Fast.tw10994157353192763116 := ()
def PySem.W.Fast.tw9866192716650729104 := ()
def PySem.W.Fast.tw18258023704932805083 := ()
def PySem.W.Fast.tw8347539633336307421 := ()
def PySem.W.Fast.tw13767965279317671788 := ()
def PySem.W.Fast.tw13723748026943120461 := ()
def PySem.W.Fast.tw13466834872702348738 := ()
def PySem.W.Fast.tw4386945408308973336 := ()
def PySem.W.Fast.tw14607727416693657810 := ()
def PySem.W.Fast.tw13455902675468232235 := ()
def PySem.W.Fast.tw7388262680760262844 := ()
def PySem.W.Fast.tw835228716353359955 := ()
def PySem.W.Fast.tw1344919683818719730 := ()
def PySem.W.Fast.tw7472285349950360536 := ()
def PySem.W.Fast.tw13225153892491448024 := ()
def PySem.W.Fast.tw11560168452336738576 := ()
def PySem.W.Fast.tw2396693047804801039 := ()
def PySem.W.Fast.tw510082174477738 := ()
def PySem.W.Fast.tw14442774090788783651 := ()
def PySem.W.Fast.tw9921095355388014779 := ()
def PySem.W.Fast.tw6091653963810281712 := ()
def PySem.W.Fast.tw10162005319134008365 := ()
def PySem.W.Fast.tw18188788538618648589 := ()
def PySem.W.Fast.tw17971818832030882851 := ()
def PySem.W.Fast.tw15870119694689773948 := ()
set_option maxRecDepth 100000 in
set_option maxHeartbeats 0 in
theorem PySem.Challenge.cw_heddle_k11_drafts_written_holds : PySem.Challenge.rw_heddle_k11_drafts_written.Holds := by
  w_on; o_law; k_head; (case hw => w_witness2)
  k_fill
  refine L2.walk_ofK (l := PySem.Challenge.rw_heddle_k11_drafts_written) (n := 63) (k := 43) (x := "script") (CX := L2.CX0) (sp := Mine.sp_law) rfl (by decide) rfl ⟨rfl, by decide, by decide⟩ (fun w h Y => PySem.W.kIn_of Y) ?F ?S ?C
  case F =>
    intro w mg fa h KX G hmg
    refine' Mine.law_mk KX G hmg ?a_check_setting ?l_check_setting ?c_check_setting ?k_check_setting ?a_check_count ?l_check_count ?c_check_count ?k_check_count ?a_check_shaft ?l_check_shaft ?c_check_shaft ?k_check_shaft ?a_check_tie ?l_check_tie ?c_check_tie ?k_check_tie ?a_check_treading ?l_check_treading ?c_check_treading ?k_check_treading ?a_number_of ?l_number_of ?c_number_of ?k_number_of ?a_unfolded ?l_unfolded ?c_unfolded ?k_unfolded ?a_shown ?l_shown ?c_shown ?k_shown ?a_whole_size ?l_whole_size ?c_whole_size ?k_whole_size ?a_all_numbers ?l_all_numbers ?c_all_numbers ?k_all_numbers ?a_steps_between ?l_steps_between ?c_steps_between ?k_steps_between ?a_read_row ?l_read_row ?c_read_row ?k_read_row ?a_read_items ?l_read_items ?c_read_items ?k_read_items ?a_read_item ?l_read_item ?c_read_item ?k_read_item ?a_read_times ?l_read_times ?c_read_times ?k_read_times ?a_read_path ?l_read_path ?c_read_path ?k_read_path ?a_read_number ?l_read_number ?c_read_number ?k_read_number ?a_parted ?l_parted ?c_parted ?k_parted ?a_written_path ?l_written_path ?c_written_path ?k_written_path ?a_is_stop ?l_is_stop ?c_is_stop ?k_is_stop ?a_written_draft ?l_written_draft ?c_written_draft ?k_written_draft ?a_read_draft ?l_read_draft ?c_read_draft ?k_read_draft ?a_law_numbers ?l_law_numbers ?c_law_numbers ?k_law_numbers ?a_law_subset ?l_law_subset ?c_law_subset ?k_law_subset ?a_law_draft_by ?l_law_draft_by ?c_law_draft_by ?k_law_draft_by ?a_law_numbers_same ?l_law_numbers_same ?c_law_numbers_same ?k_law_numbers_same ?a_law_draft_same ?l_law_draft_same ?c_law_draft_same ?k_law_draft_same ?a_law_other_writing ?l_law_other_writing ?c_law_other_writing ?k_law_other_writing ?a_law_joined ?l_law_joined ?c_law_joined ?k_law_joined ?a_law ?l_law ?c_law ?k_law ?z_abs ?z_bool ?z_int ?z_isinstance ?z_len ?z_list ?z_range ?z_str ?z_sum ?x_MOST_STRANDS ?x_MOST_SHAFTS ?x_FIGURES ?x_MOST_NUMBERS ?x_MOST_DEEP ?x_BETWEEN_PARTS ?x_BETWEEN_TIES ?n_WeaveError ?n_NoRow ?n_TooLarge ?n_NoDraft ?y1_WeaveError ?y2_WeaveError ?y3_WeaveError ?y4_WeaveError ?y5_WeaveError ?y6_WeaveError ?y7_WeaveError ?y8_WeaveError ?y9_WeaveError ?y10_WeaveError ?y11_WeaveError ?r_WeaveError_WeaveError ?r_WeaveError_NoRow ?r_WeaveError_TooLarge ?r_WeaveError_NoDraft ?y1_NoRow ?y2_NoRow ?y3_NoRow ?y4_NoRow ?y7_NoRow ?y8_NoRow ?y9_NoRow ?y10_NoRow ?y11_NoRow ?r_NoRow_WeaveError ?r_NoRow_NoRow ?r_NoRow_TooLarge ?r_NoRow_NoDraft ?y1_TooLarge ?y2_TooLarge ?y3_TooLarge ?y4_TooLarge ?y7_TooLarge ?y8_TooLarge ?y9_TooLarge ?y10_TooLarge ?y11_TooLarge ?r_TooLarge_WeaveError ?r_TooLarge_NoRow ?r_TooLarge_TooLarge ?r_TooLarge_NoDraft ?y1_NoDraft ?y2_NoDraft ?y3_NoDraft ?y4_NoDraft ?y7_NoDraft ?y8_NoDraft ?y9_NoDraft ?y10_NoDraft ?y11_NoDraft ?r_NoDraft_WeaveError ?r_NoDraft_NoRow ?r_NoDraft_TooLarge ?r_NoDraft_NoDraft ?fm_WeaveError ?gm_WeaveError ?lm_WeaveError ?cm_WeaveError ?km_WeaveError ?fm_NoRow ?gm_NoRow ?lm_NoRow ?cm_NoRow ?km_NoRow ?fm_TooLarge ?gm_TooLarge ?lm_TooLarge ?cm_TooLarge ?km_TooLarge ?fm_NoDraft ?gm_NoDraft ?lm_NoDraft ?cm_NoDraft ?km_NoDraft ?n_Draft ?n_Reader ?n_Path ?n_Times ?fm_Draft___init__ ?gm_Draft___init__ ?lm_Draft___init__ ?cm_Draft___init__ ?km_Draft___init__ ?fm_Reader___init__ ?gm_Reader___init__ ?lm_Reader___init__ ?cm_Reader___init__ ?km_Reader___init__ ?fm_Reader_ended ?gm_Reader_ended ?lm_Reader_ended ?cm_Reader_ended ?km_Reader_ended ?fm_Reader_took ?gm_Reader_took ?lm_Reader_took ?cm_Reader_took ?km_Reader_took ?fm_Reader_stretch ?gm_Reader_stretch ?lm_Reader_stretch ?cm_Reader_stretch ?km_Reader_stretch ?fm_Reader_number ?gm_Reader_number ?lm_Reader_number ?cm_Reader_number ?km_Reader_number ?fm_Path___init__ ?gm_Path___init__ ?lm_Path___init__ ?cm_Path___init__ ?km_Path___init__ ?fm_Path_size ?gm_Path_size ?lm_Path_size ?cm_Path_size ?km_Path_size ?fm_Path_numbers ?gm_Path_numbers ?lm_Path_numbers ?cm_Path_numbers ?km_Path_numbers ?fm_Times___init__ ?gm_Times___init__ ?lm_Times___init__ ?cm_Times___init__ ?km_Times___init__ ?fm_Times_size ?gm_Times_size ?lm_Times_size ?cm_Times_size ?km_Times_size ?fm_Times_numbers ?gm_Times_numbers ?lm_Times_numbers ?cm_Times_numbers ?km_Times_numbers ?o1_Draft ?o2_Draft ?o3_Draft ?o4_Draft ?o5_Draft ?o8_Draft ?na_Draft_threading ?na_Draft_ties ?na_Draft_treading ?o1_Reader ?o2_Reader ?o3_Reader ?o4_Reader ?o5_Reader ?o8_Reader ?na_Reader_text ?na_Reader_place ?o1_Path ?o2_Path ?o3_Path ?o4_Path ?o5_Path ?o8_Path ?na_Path_stops ?o1_Times ?o2_Times ?o3_Times ?o4_Times ?o5_Times ?o8_Times ?na_Times_count ?na_Times_inner
    (case a_check_setting => k_is)
    (case l_check_setting => k_is)
    (case c_check_setting => k_is)
    (case k_check_setting => k_is)
    (case a_check_count => k_is)
    (case l_check_count => k_is)
    (case c_check_count => k_is)
    (case k_check_count => k_is)
    (case a_check_shaft => k_is)
    (case l_check_shaft => k_is)
    (case c_check_shaft => k_is)
    (case k_check_shaft => k_is)
    (case a_check_tie => k_is)
    (case l_check_tie => k_is)
    (case c_check_tie => k_is)
    (case k_check_tie => k_is)
    (case a_check_treading => k_is)
    (case l_check_treading => k_is)
    (case c_check_treading => k_is)
    (case k_check_treading => k_is)
    (case a_number_of => k_is)
    (case l_number_of => k_is)
    (case c_number_of => k_is)
    (case k_number_of => k_is)
    (case a_unfolded => k_is)
    (case l_unfolded => k_is)
    (case c_unfolded => k_is)
    (case k_unfolded => k_is)
    (case a_shown => k_is)
    (case l_shown => k_is)
    (case c_shown => k_is)
    (case k_shown => k_is)
    (case a_whole_size => k_is)
    (case l_whole_size => k_is)
    (case c_whole_size => k_is)
    (case k_whole_size => k_is)
    (case a_all_numbers => k_is)
    (case l_all_numbers => k_is)
    (case c_all_numbers => k_is)
    (case k_all_numbers => k_is)
    (case a_steps_between => k_is)
    (case l_steps_between => k_is)
    (case c_steps_between => k_is)
    (case k_steps_between => k_is)
    (case a_read_row => k_is)
    (case l_read_row => k_is)
    (case c_read_row => k_is)
    (case k_read_row => k_is)
    (case a_read_items => k_is)
    (case l_read_items => k_is)
    (case c_read_items => k_is)
    (case k_read_items => k_is)
    (case a_read_item => k_is)
    (case l_read_item => k_is)
    (case c_read_item => k_is)
    (case k_read_item => k_is)
    (case a_read_times => k_is)
    (case l_read_times => k_is)
    (case c_read_times => k_is)
    (case k_read_times => k_is)
    (case a_read_path => k_is)
    (case l_read_path => k_is)
    (case c_read_path => k_is)
    (case k_read_path => k_is)
    (case a_read_number => k_is)
    (case l_read_number => k_is)
    (case c_read_number => k_is)
    (case k_read_number => k_is)
    (case a_parted => k_is)
    (case l_parted => k_is)
    (case c_parted => k_is)
    (case k_parted => k_is)
    (case a_written_path => k_is)
    (case l_written_path => k_is)
    (case c_written_path => k_is)
    (case k_written_path => k_is)
    (case a_is_stop => k_is)
    (case l_is_stop => k_is)
    (case c_is_stop => k_is)
    (case k_is_stop => k_is)
    (case a_written_draft => k_is)
    (case l_written_draft => k_is)
    (case c_written_draft => k_is)
    (case k_written_draft => k_is)
    (case a_read_draft => k_is)
    (case l_read_draft => k_is)
    (case c_read_draft => k_is)
    (case k_read_draft => k_is)
    (case a_law_numbers => k_is)
    (case l_law_numbers => k_is)
    (case c_law_numbers => k_is)
    (case k_law_numbers => k_is)
    (case a_law_subset => k_is)
    (case l_law_subset => k_is)
    (case c_law_subset => k_is)
    (case k_law_subset => k_is)
    (case a_law_draft_by => k_is)
    (case l_law_draft_by => k_is)
    (case c_law_draft_by => k_is)
    (case k_law_draft_by => k_is)
    (case a_law_numbers_same => k_is)
    (case l_law_numbers_same => k_is)
    (case c_law_numbers_same => k_is)
    (case k_law_numbers_same => k_is)
    (case a_law_draft_same => k_is)
    (case l_law_draft_same => k_is)
    (case c_law_draft_same => k_is)
    (case k_law_draft_same => k_is)
    (case a_law_other_writing => k_is)
    (case l_law_other_writing => k_is)
    (case c_law_other_writing => k_is)
    (case k_law_other_writing => k_is)
    (case a_law_joined => k_is)
    (case l_law_joined => k_is)
    (case c_law_joined => k_is)
    (case k_law_joined => k_is)
    (case a_law => k_is)
    (case l_law => k_is)
    (case c_law => k_is)
    (case k_law => k_is)
    (case z_abs => k_is)
    (case z_bool => k_is)
    (case z_int => k_is)
    (case z_isinstance => k_is)
    (case z_len => k_is)
    (case z_list => k_is)
    (case z_range => k_is)
    (case z_str => k_is)
    (case z_sum => k_is)
    (case x_MOST_STRANDS => k_is)
    (case x_MOST_SHAFTS => k_is)
    (case x_FIGURES => k_is)
    (case x_MOST_NUMBERS => k_is)
    (case x_MOST_DEEP => k_is)
    (case x_BETWEEN_PARTS => k_is)
    (case x_BETWEEN_TIES => k_is)
    (case n_WeaveError => k_is)
    (case n_NoRow => k_is)
    (case n_TooLarge => k_is)
    (case n_NoDraft => k_is)
    (case y1_WeaveError => k_exc)
    (case y2_WeaveError => k_is)
    (case y3_WeaveError => k_is)
    (case y4_WeaveError => k_is)
    (case y5_WeaveError => k_is)
    (case y6_WeaveError => k_is)
    (case y7_WeaveError => k_is)
    (case y8_WeaveError => k_is)
    (case y9_WeaveError => k_is)
    (case y10_WeaveError => k_is)
    (case y11_WeaveError => k_is)
    (case r_WeaveError_WeaveError => k_is)
    (case r_WeaveError_NoRow => k_is)
    (case r_WeaveError_TooLarge => k_is)
    (case r_WeaveError_NoDraft => k_is)
    (case y1_NoRow => k_exc)
    (case y2_NoRow => k_is)
    (case y3_NoRow => k_is)
    (case y4_NoRow => k_is)
    (case y7_NoRow => k_is)
    (case y8_NoRow => k_is)
    (case y9_NoRow => k_is)
    (case y10_NoRow => k_is)
    (case y11_NoRow => k_is)
    (case r_NoRow_WeaveError => k_is)
    (case r_NoRow_NoRow => k_is)
    (case r_NoRow_TooLarge => k_is)
    (case r_NoRow_NoDraft => k_is)
    (case y1_TooLarge => k_exc)
    (case y2_TooLarge => k_is)
    (case y3_TooLarge => k_is)
    (case y4_TooLarge => k_is)
    (case y7_TooLarge => k_is)
    (case y8_TooLarge => k_is)
    (case y9_TooLarge => k_is)
    (case y10_TooLarge => k_is)
    (case y11_TooLarge => k_is)
    (case r_TooLarge_WeaveError => k_is)
    (case r_TooLarge_NoRow => k_is)
    (case r_TooLarge_TooLarge => k_is)
    (case r_TooLarge_NoDraft => k_is)
    (case y1_NoDraft => k_exc)
    (case y2_NoDraft => k_is)
    (case y3_NoDraft => k_is)
    (case y4_NoDraft => k_is)
    (case y7_NoDraft => k_is)
    (case y8_NoDraft => k_is)
    (case y9_NoDraft => k_is)
    (case y10_NoDraft => k_is)
    (case y11_NoDraft => k_is)
    (case r_NoDraft_WeaveError => k_is)
    (case r_NoDraft_NoRow => k_is)
    (case r_NoDraft_TooLarge => k_is)
    (case r_NoDraft_NoDraft => k_is)
    (case fm_WeaveError => k_is)
    (case gm_WeaveError => k_is)
    (case lm_WeaveError => k_is)
    (case cm_WeaveError => k_is)
    (case km_WeaveError => k_is)
    (case fm_NoRow => k_is)
    (case gm_NoRow => k_is)
    (case lm_NoRow => k_is)
    (case cm_NoRow => k_is)
    (case km_NoRow => k_is)
    (case fm_TooLarge => k_is)
    (case gm_TooLarge => k_is)
    (case lm_TooLarge => k_is)
    (case cm_TooLarge => k_is)
    (case km_TooLarge => k_is)
    (case fm_NoDraft => k_is)
    (case gm_NoDraft => k_is)
    (case lm_NoDraft => k_is)
    (case cm_NoDraft => k_is)
    (case km_NoDraft => k_is)
    (case n_Draft => k_is)
    (case n_Reader => k_is)
    (case n_Path => k_is)
    (case n_Times => k_is)
    (case fm_Draft___init__ => k_is)
    (case gm_Draft___init__ => k_is)
    (case lm_Draft___init__ => k_is)
    (case cm_Draft___init__ => k_is)
    (case km_Draft___init__ => k_is)
    (case fm_Reader___init__ => k_is)
    (case gm_Reader___init__ => k_is)
    (case lm_Reader___init__ => k_is)
    (case cm_Reader___init__ => k_is)
    (case km_Reader___init__ => k_is)
    (case fm_Reader_ended => k_is)
    (case gm_Reader_ended => k_is)
    (case lm_Reader_ended => k_is)
    (case cm_Reader_ended => k_is)
    (case km_Reader_ended => k_is)
    (case fm_Reader_took => k_is)
    (case gm_Reader_took => k_is)
    (case lm_Reader_took => k_is)
    (case cm_Reader_took => k_is)
    (case km_Reader_took => k_is)
    (case fm_Reader_stretch => k_is)
    (case gm_Reader_stretch => k_is)
    (case lm_Reader_stretch => k_is)
    (case cm_Reader_stretch => k_is)
    (case km_Reader_stretch => k_is)
    (case fm_Reader_number => k_is)
    (case gm_Reader_number => k_is)
    (case lm_Reader_number => k_is)
    (case cm_Reader_number => k_is)
    (case km_Reader_number => k_is)
    (case fm_Path___init__ => k_is)
    (case gm_Path___init__ => k_is)
    (case lm_Path___init__ => k_is)
    (case cm_Path___init__ => k_is)
    (case km_Path___init__ => k_is)
    (case fm_Path_size => k_is)
    (case gm_Path_size => k_is)
    (case lm_Path_size => k_is)
    (case cm_Path_size => k_is)
    (case km_Path_size => k_is)
    (case fm_Path_numbers => k_is)
    (case gm_Path_numbers => k_is)
    (case lm_Path_numbers => k_is)
    (case cm_Path_numbers => k_is)
    (case km_Path_numbers => k_is)
    (case fm_Times___init__ => k_is)
    (case gm_Times___init__ => k_is)
    (case lm_Times___init__ => k_is)
    (case cm_Times___init__ => k_is)
    (case km_Times___init__ => k_is)
    (case fm_Times_size => k_is)
    (case gm_Times_size => k_is)
    (case lm_Times_size => k_is)
    (case cm_Times_size => k_is)
    (case km_Times_size => k_is)
    (case fm_Times_numbers => k_is)
    (case gm_Times_numbers => k_is)
    (case lm_Times_numbers => k_is)
    (case cm_Times_numbers => k_is)
    (case km_Times_numbers => k_is)
    (case o1_Draft => k_is)
    (case o2_Draft => k_is)
    (case o3_Draft => k_is)
    (case o4_Draft => k_is)
    (case o5_Draft => k_is)
    (case o8_Draft => k_is)
    (case na_Draft_threading => k_is)
    (case na_Draft_ties => k_is)
    (case na_Draft_treading => k_is)
    (case o1_Reader => k_is)
    (case o2_Reader => k_is)
    (case o3_Reader => k_is)
    (case o4_Reader => k_is)
    (case o5_Reader => k_is)
    (case o8_Reader => k_is)
    (case na_Reader_text => k_is)
    (case na_Reader_place => k_is)
    (case o1_Path => k_is)
    (case o2_Path => k_is)
    (case o3_Path => k_is)
    (case o4_Path => k_is)
    (case o5_Path => k_is)
    (case o8_Path => k_is)
    (case na_Path_stops => k_is)
    (case o1_Times => k_is)
    (case o2_Times => k_is)
    (case o3_Times => k_is)
    (case o4_Times => k_is)
    (case o5_Times => k_is)
    (case o8_Times => k_is)
    (case na_Times_count => k_is)
    (case na_Times_inner => k_is)
  case S => exact fun K H a ns hl hO hS => Mine.sp_law_holds hl hS
  case C => exact fun _ _ _ _ z => z
