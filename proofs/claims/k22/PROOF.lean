import PyProof.Rows.All
import Wide.All
import OpenK.AllK
import Wide.FinOn
import Lean
import PyProof.EqAt
import PyProof.EqKinds
import PyProof.TupleCall
import PyProof.ZipIter
import PyProof.TupleIter
import PyProof.AttrMiss
import PyProof.TupleKey
import PyProof.DictFindH
import KE.KDictOf
import PyProof.DictIter
import PyProof.DictWalks
import PyProof.ListRange
import KE.KDictList
import PyProof.CompUse
import KE.KTryMore
import PyProof.WalkInts
import PySem.Challenge.RW_plymap_k22_sides_and_rounds
set_option Elab.async false
set_option linter.all false
set_option maxRecDepth 100000
/-! THE HAND LAYER, for ints, bools, texts, own classes, LISTS and tuples (index, slices, in, append, pop ..), calls, loops. Paste it whole ahead of your own text; what your proof does not reach may be deleted. -/
namespace L2
open PySem PySem.Spec PyProof.Rows

/-- a key: an int or a str -/
abbrev Key := Sum Int Str
def keyIs : Key → Value → Bool
  | .inl k, v => Value.isInt k v
  | .inr x, v => Value.isStrOf x v
def keyH (w : World) : Key → Int
  | .inl k => hashInt k
  | .inr x => hashStr w x
theorem keyIs_shape : ∀ {k : Key} {v : Value}, keyIs k v = true → (∃ i t, k = Sum.inl i ∧ v = Value.int i t) ∨ (∃ x t, k = Sum.inr x ∧ v = Value.str x t)
  | .inl i, v, h => by
    obtain ⟨t, e⟩ := Value.isInt_shape (k := i) (v := v) h
    exact .inl ⟨i, t, rfl, e⟩
  | .inr x, v, h => by
    obtain ⟨t, e⟩ := Value.isStrOf_shape (x := x) (v := v) h
    exact .inr ⟨x, t, rfl, e⟩
theorem key_ll (a b : Int) : decide ((Sum.inl a : Key) = Sum.inl b) = (a == b) := by
  by_cases e : a = b
  · subst e; simp
  · have h : ¬ (Sum.inl a : Key) = Sum.inl b := fun q => e (Sum.inl.inj q)
    rw [decide_eq_false h]
    exact (beq_eq_false_iff_ne.mpr e).symm
theorem key_rr (a b : Str) : decide ((Sum.inr a : Key) = Sum.inr b) = decide (a = b) := by
  by_cases e : a = b
  · subst e; simp
  · have h : ¬ (Sum.inr a : Key) = Sum.inr b := fun q => e (Sum.inr.inj q)
    rw [decide_eq_false h, decide_eq_false e]
theorem key_lr (a : Int) (b : Str) : decide ((Sum.inl a : Key) = Sum.inr b) = false := decide_eq_false (fun q => nomatch q)
theorem key_rl (a : Str) (b : Int) : decide ((Sum.inr a : Key) = Sum.inl b) = false := decide_eq_false (fun q => nomatch q)

def mixKind (prog : Program) (w : World) : PySem.KeyKind prog w Key where
  is := keyIs
  hash := keyH w
  inj := fun v a b ha hb => by
    rcases keyIs_shape ha with ⟨i, t, rfl, rfl⟩ | ⟨x, t, rfl, rfl⟩
    · rcases keyIs_shape hb with ⟨j, u, rfl, e⟩ | ⟨y, u, rfl, e⟩
      · injection e with e1 _; rw [e1]
      · exact nomatch e
    · rcases keyIs_shape hb with ⟨j, u, rfl, e⟩ | ⟨y, u, rfl, e⟩
      · exact nomatch e
      · injection e with e1 _; rw [e1]
  byValue := fun k v h => by
    rcases keyIs_shape h with ⟨i, t, rfl, rfl⟩ | ⟨x, t, rfl, rfl⟩ <;> rfl
  pyHash := fun hv h => by
    rcases keyIs_shape hv with ⟨i, t, rfl, rfl⟩ | ⟨x, t, rfl, rfl⟩
    · exact wpAny_pyHash_int h
    · exact wpAny_pyHash_str h
  eqBool := fun hu hv h => by
    rcases keyIs_shape hu with ⟨i, t, rfl, rfl⟩ | ⟨x, t, rfl, rfl⟩
    · rcases keyIs_shape hv with ⟨j, u, rfl, rfl⟩ | ⟨y, u, rfl, rfl⟩
      · rw [key_ll] at h; exact wpAny_eqBool_int h
      · rw [key_lr] at h; exact SeqAt.EqAt.int_str i t y u _ _ _ _ h
    · rcases keyIs_shape hv with ⟨j, u, rfl, rfl⟩ | ⟨y, u, rfl, rfl⟩
      · rw [key_rl] at h; exact SeqAt.EqAt.str_int x t j u _ _ _ _ h
      · rw [key_rr] at h; exact wpAny_eqBool_str h
  «strs» := fun k x t v h => by
    rcases keyIs_shape h with ⟨i, u, rfl, e⟩ | ⟨y, u, rfl, e⟩
    · exact nomatch e
    · injection e with e1 _
      subst e1
      cases v <;> rfl

end L2

namespace L2
open PySem PySem.Spec PyProof.Rows

/-- a value, without the heap -/
inductive V where
  | non | bl (b : Bool) | int (i : Int) | str (x : Str) | byt (b : Array UInt8) | flt (b : UInt64) | ref (a : Addr) | ty (n : String)
  deriving DecidableEq

def RelV : V → Value → Prop
  | .non, u => u = Value.none
  | .bl b, u => u = Value.bool b
  | .int i, u => ∃ t, u = Value.int i t
  | .str x, u => ∃ t, u = Value.str x t
  | .byt b, u => ∃ t, u = Value.bytes b t
  | .flt b, u => ∃ t, u = Value.float b t
  | .ref a, u => u = Value.ref a
  | .ty n, u => u = Value.type n

abbrev Vals : List V → List Value → Prop := Paired RelV
theorem Vals.length {xs : List V} {us : List Value} (r : Vals xs us) : xs.length = us.length := Paired.length r
theorem Vals.get : ∀ {xs : List V} {us : List Value} {i : Nat} {x : V}, Vals xs us → xs[i]? = some x → ∃ u, us[i]? = some u ∧ RelV x u
  | _, _, _, _, .nil, e => by simp at e
  | _, _, 0, _, .cons r _, e => by simp at e; subst e; exact ⟨_, rfl, r⟩
  | _, _, i + 1, x, .cons _ t, e => by
    obtain ⟨u, h1, h2⟩ := Vals.get (i := i) (x := x) t (by simpa using e)
    exact ⟨u, by simpa using h1, h2⟩
theorem Vals.set {x : V} {u : Value} (r : RelV x u) : ∀ {xs : List V} {us : List Value} (i : Nat), Vals xs us → Vals (xs.set i x) (us.set i u)
  | _, _, _, .nil => .nil
  | _, _, 0, .cons _ t => .cons r t
  | _, _, i + 1, .cons q t => .cons q (Vals.set r i t)
theorem Vals.append : ∀ {xs ys : List V} {us ws : List Value}, Vals xs us → Vals ys ws → Vals (xs ++ ys) (us ++ ws)
  | _, _, _, _, .nil, s => s
  | _, _, _, _, .cons r t, s => .cons r (Vals.append t s)
theorem Vals.take : ∀ {xs : List V} {us : List Value} (n : Nat), Vals xs us → Vals (xs.take n) (us.take n)
  | _, _, 0, _ => .nil
  | _, _, _ + 1, .nil => .nil
  | _, _, n + 1, .cons r t => .cons r (Vals.take n t)
theorem Vals.drop : ∀ {xs : List V} {us : List Value} (n : Nat), Vals xs us → Vals (xs.drop n) (us.drop n)
  | _, _, 0, r => r
  | _, _, _ + 1, .nil => .nil
  | _, _, n + 1, .cons _ t => Vals.drop n t

def RelO : Option V → Option Value → Prop
  | some v, some u => RelV v u
  | none, none => True
  | _, _ => False
def KV {κ : Type} : List (κ × V) → List (κ × Value) → Prop := Paired fun (p : κ × V) (q : κ × Value) => p.1 = q.1 ∧ RelV p.2 q.2

/-- a key of a dict (00_mix): an int or a text -/
def kV : Key → V
  | .inl i => .int i
  | .inr x => .str x

/-- what stands at a tracked address -/
inductive HO where
  /-- a list -/
  | lst (xs : List V)
  /-- a tuple (never changes) -/
  | tup (xs : List V)
  /-- a dict whose keys are ints and texts; one whose keys are tuples of ints and texts (the empty one is both) -/
  | dK (kvs : List (Key × V)) | dT (kvs : List (List Key × V))
  /-- a set of ints: its members, its size -/
  | set (S : Int → Bool) (n : Nat)
  /-- an instance of the class at C, its dict at dx, its attributes -/
  | ins (C dx : Addr) (fs : List (Str × V))
  /-- the dict of the instance at x -/
  | own (x : Addr)
  /-- the dict of an exception -/
  | xd (fs : List (Str × V))
  /-- a bound method, f of x -/
  | met (f x : Addr)
  /-- a range object lo, lo + 1, .. below hi -/
  | rng (lo hi : Int)
  /-- a thing that is known to the object (the script; a dict while a loop walks it): read, never written while it is so -/
  | frz (o : Obj) (u : HO)
  /-- a code object's table -/
  | tbl (ps : Array Value)
  /-- any other thing, by what is true of its one object (a def of one's own: SetO a S n := HO.ext fun h => ..) -/
  | ext (φ : Heap → Prop)

abbrev Hp := Addr → Option HO
def upd (H : Hp) (a : Addr) (o : HO) : Hp := fun b => if b = a then some o else H b
theorem upd_same {H : Hp} {a : Addr} {o : HO} : upd H a o a = some o := by unfold upd; rw [if_pos rfl]
theorem upd_ne {H : Hp} {a b : Addr} {o : HO} (h : b ≠ a) : upd H a o b = H b := by unfold upd; rw [if_neg h]
/-- two objects of different content stand apart -/
theorem ne_of {H : Hp} {a b : Addr} {o u : HO} (h : H a = some o) (h' : H b = some u) (d : o ≠ u) : a ≠ b := by
  intro e; subst e; rw [h] at h'; exact d (Option.some.inj h')
theorem ne_of_none {H : Hp} {a b : Addr} {o : HO} (h : H a = some o) (h' : H b = none) : a ≠ b := by
  intro e; subst e; rw [h] at h'; cases h'

section
variable (P : Program) (w : World)
def ObjOk (H : Hp) (h : Heap) (a : Addr) : HO → Prop
  | .lst xs => xs.length ≤ sizeLine ∧ ∃ (its : List Value) (n : Nat), Vals xs its ∧ h.get? a = some { cls := .type "list", data := .seq its.toArray n }
  | .tup xs => xs.length ≤ sizeLine ∧ ∃ its : List Value, Vals xs its ∧ IsTup h a its.toArray
  | .dK kvs => kvs.length ≤ sizeLine ∧ (a == sysModules) = false ∧ ∃ vs, KV kvs vs ∧ h.DictOf (mixKind P w) a vs
  | .dT kvs => kvs.length ≤ sizeLine ∧ (a == sysModules) = false ∧ ∃ xs : List (List Key × Addr × Value),
      Paired (fun (p : List Key × V) (q : List Key × Addr × Value) => p.1 = q.1 ∧ H q.2.1 = some (.tup (p.1.map kV)) ∧ RelV p.2 q.2.2) kvs xs ∧
      ∃ o es ep, h.get? a = some o ∧ o.ExactDict ∧ o.data = .dict es ep ∧ es.toList = xs.map (entryOfKey (tupleKind (mixKind P w))) ∧ (xs.map (·.1)).Nodup
  | .set S n => h.SetOf (intKind P w) a S n
  | .ins C dx fs => H dx = some (.own a) ∧ fs.length ≤ 1000 ∧ dx ≠ a ∧ h.get? a = some (PySem.W.instObj C dx) ∧
      ∃ mA, h.Ns1 dx mA ∧ (∀ f, RelO (fs.lookup f) (mA f)) ∧ PySem.Within mA (fs.map (·.1))
  | .own _ => ∃ o, h.get? a = some o
  | .xd fs => ∃ mA, h.Ns1 a mA ∧ ∀ f, RelO (fs.lookup f) (mA f)
  | .rng lo hi => ∃ t u v, h.get? a = some { cls := .type "range", data := .fields #[.int lo t, .int hi u, .int 1 v] }
  | .frz o u => h.get? a = some o ∧ ObjOk H h a u
  | .tbl ps => h.get? a = some { cls := .none, data := .fields ps }
  | .met f x => h.get? a = some (PySem.W.methodObj (.ref f) (.ref x))
  | .ext φ => φ h ∧ (∃ o, h.get? a = some o) ∧ ∀ h1 h2 : Heap, φ h1 → (∀ o, h1.get? a = some o → h2.get? a = some o) → φ h2
/-- the abstract heap is held -/
def HOk (H : Hp) (h : Heap) : Prop := ∀ a o, H a = some o → ObjOk P w H h a o
end

section
variable {P : Program} {w : World} {H H' : Hp} {h h' : Heap} {a : Addr} {o : HO}
theorem ObjOk.lt (x : ObjOk P w H h a o) : a < h.objs.size := by
  cases o with
  | lst xs => obtain ⟨_, _, _, _, e⟩ := x; exact Heap.lt_size e
  | tup xs => obtain ⟨_, _, _, p⟩ := x; exact p.lt
  | dK kvs => obtain ⟨_, _, _, _, o, _, _, e, _⟩ := x; exact Heap.lt_size e
  | dT kvs => obtain ⟨_, _, _, _, o, _, _, e, _⟩ := x; exact Heap.lt_size e
  | set S n => obtain ⟨o, _, _, _, e, _⟩ := x; exact Heap.lt_size e
  | ins C dx fs => obtain ⟨_, _, _, e, _⟩ := x; exact Heap.lt_size e
  | own y => obtain ⟨_, e⟩ := x; exact Heap.lt_size e
  | xd fs => obtain ⟨_, ⟨_, _, _, e, _⟩, _⟩ := x; exact Heap.lt_size e
  | rng lo hi => obtain ⟨_, _, _, e⟩ := x; exact Heap.lt_size e
  | frz ob u => obtain ⟨e, _⟩ := x; exact Heap.lt_size e
  | tbl ps => exact Heap.lt_size (show h.get? a = some _ from x)
  | met f y => exact Heap.lt_size (show h.get? a = some _ from x)
  | ext φ => obtain ⟨_, ⟨_, e⟩, _⟩ := x; exact Heap.lt_size e
theorem Paired.mapP {α β : Type} {F G : α → β → Prop} : ∀ {l₁ : List α} {l₂ : List β}, Paired F l₁ l₂ → (∀ a b, F a b → G a b) → Paired G l₁ l₂
  | _, _, .nil, _ => .nil
  | _, _, .cons r t, f => .cons (f _ _ r) (Paired.mapP t f)
/-- what an object's description leans on: its own object, its own dict, the tuples -/
theorem ObjOk.stay (x : ObjOk P w H h a o) (k : ∀ b u, (b = a ∨ H b = some (.own a)) → h.get? b = some u → h'.get? b = some u)
    (ho : ∀ b, H b = some (.own a) → H' b = some (.own a)) (ht : ∀ b xs, H b = some (.tup xs) → H' b = some (.tup xs)) : ObjOk P w H' h' a o := by
  induction o with
  | lst xs => obtain ⟨z, its, n, r, e⟩ := x; exact ⟨z, its, n, r, k _ _ (.inl rfl) e⟩
  | tup xs => obtain ⟨z, its, r, ob, e, c⟩ := x; exact ⟨z, its, r, ob, k _ _ (.inl rfl) e, c⟩
  | dK kvs => obtain ⟨z, y, vs, r, ob, es, ep, e, c⟩ := x; exact ⟨z, y, vs, r, ob, es, ep, k _ _ (.inl rfl) e, c⟩
  | dT kvs =>
    obtain ⟨z, y, xs, r, ob, es, ep, e, c⟩ := x
    exact ⟨z, y, xs, Paired.mapP r fun p q z => ⟨z.1, ht _ _ z.2.1, z.2.2⟩, ob, es, ep, k _ _ (.inl rfl) e, c⟩
  | set S n => obtain ⟨ob, es, ep, t, e, c⟩ := x; exact ⟨ob, es, ep, t, k _ _ (.inl rfl) e, c⟩
  | ins C dx fs =>
    obtain ⟨d, z, ne, e, mA, ⟨od, es, ep, e2, c⟩, r⟩ := x
    exact ⟨ho _ d, z, ne, k _ _ (.inl rfl) e, mA, ⟨od, es, ep, k _ _ (.inr d) e2, c⟩, r⟩
  | own y => obtain ⟨ob, e⟩ := x; exact ⟨ob, k _ _ (.inl rfl) e⟩
  | xd fs => obtain ⟨mA, ⟨od, es, ep, e, c⟩, r⟩ := x; exact ⟨mA, ⟨od, es, ep, k _ _ (.inl rfl) e, c⟩, r⟩
  | rng lo hi => obtain ⟨t, u, v, e⟩ := x; exact ⟨t, u, v, k _ _ (.inl rfl) e⟩
  | frz ob u ih => obtain ⟨e, q⟩ := x; exact ⟨k _ _ (.inl rfl) e, ih q⟩
  | tbl ps =>
    have e : h.get? a = some { cls := .none, data := .fields ps } := x
    show h'.get? a = some { cls := .none, data := .fields ps }
    exact k a _ (.inl rfl) e
  | met f y =>
    have e : h.get? a = some (PySem.W.methodObj (.ref f) (.ref y)) := x
    show h'.get? a = some (PySem.W.methodObj (.ref f) (.ref y))
    exact k a _ (.inl rfl) e
  | ext φ => obtain ⟨p, ⟨o, e⟩, st⟩ := x; exact ⟨st _ _ p fun o q => k _ _ (.inl rfl) q, ⟨o, k _ _ (.inl rfl) e⟩, st⟩
theorem HOk.lt (x : HOk P w H h) (e : H a = some o) : a < h.objs.size := (x a o e).lt
theorem HOk.fresh (x : HOk P w H h) (e : h.objs.size ≤ a) : H a = none := by
  cases q : H a with
  | none => rfl
  | some u => exact absurd (Nat.lt_of_lt_of_le (x.lt q) e) (Nat.lt_irrefl _)
/-- every object of the heap is kept -/
theorem HOk.kept (x : HOk P w H h) (k : ∀ b u, h.get? b = some u → h'.get? b = some u) : HOk P w H h' := fun a o e =>
  (x a o e).stay (fun b u _ q => k b u q) (fun _ q => q) fun _ _ q => q
/-- a new object is laid and tracked -/
theorem HOk.laid (x : HOk P w H h) (k : ∀ b u, h.get? b = some u → h'.get? b = some u) (hp : h.objs.size ≤ a) (new : ObjOk P w (upd H a o) h' a o) : HOk P w (upd H a o) h' := fun b u e => by
  have hn := x.fresh hp
  by_cases hb : b = a
  · subst hb; rw [upd_same] at e; cases e; exact new
  · rw [upd_ne hb] at e
    exact (x b u e).stay (fun c v _ q => k c v q) (fun c q => by rw [upd_ne (ne_of_none q hn)]; exact q) fun c xs q => by rw [upd_ne (ne_of_none q hn)]; exact q
end

/-- what may be read as u: it is u, or a known u -/
def Rd (H : Hp) (a : Addr) (u : HO) : Prop := H a = some u ∨ ∃ o, H a = some (.frz o u)
theorem Rd.ok {P : Program} {w : World} {H : Hp} {h : Heap} {a : Addr} {u : HO} (r : Rd H a u) (x : HOk P w H h) : ObjOk P w H h a u := by
  rcases r with r | ⟨o, r⟩
  · exact x a u r
  · obtain ⟨_, q⟩ := x a _ r
    exact q
/-- what may be written -/
def Mut : Option HO → Prop
  | some (.lst _) => True
  | some (.dK _) => True
  | some (.dT _) => True
  | some (.set _ _) => True
  | some (.ins _ _ _) => True
  | some (.ext _) => True
  | _ => False
section
variable {P : Program} {w : World} {H : Hp} {h h' : Heap} {x e : Addr} {o' : HO}
/-- the object at e is changed: x itself, or the dict of the instance x -/
theorem HOk.write (ok : HOk P w H h) (mu : Mut (H x)) (he : e = x ∨ H e = some (.own x)) (k : ∀ b u, b ≠ e → h.get? b = some u → h'.get? b = some u) (heo : ∃ u, h'.get? e = some u)
    (new : ObjOk P w (upd H x o') h' x o') : HOk P w (upd H x o') h' := fun b u q => by
  have nown : ∀ c y, H c = some (.own y) → c ≠ x := fun c y r z => by subst z; rw [r] at mu; exact mu
  have ntup : ∀ c xs, H c = some (.tup xs) → c ≠ x := fun c xs r z => by subst z; rw [r] at mu; exact mu
  by_cases hb : b = x
  · subst hb; rw [upd_same] at q; cases q; exact new
  · rw [upd_ne hb] at q
    by_cases hbe : b = e
    · have q' : H b = some (.own x) := by
        rcases he with z | z
        · exact absurd (hbe.trans z) hb
        · rw [hbe]; exact z
      rw [q] at q'; cases q'
      obtain ⟨v, hv⟩ := heo
      exact ⟨v, by rw [hbe]; exact hv⟩
    · refine (ok b u q).stay (fun c v hc r => k c v ?_ r) (fun c r => by rw [upd_ne (nown c b r)]; exact r) fun c xs r => by rw [upd_ne (ntup c xs r)]; exact r
      rcases hc with rfl | hc
      · exact hbe
      · rintro rfl
        rcases he with z | z
        · exact nown c b hc z
        · rw [hc] at z; cases z; exact hb rfl
end

/-! ### kept unless tracked; of the frames at fs (the callers') the slots may change (an exception that passes writes there); of the records at ex (iterators) nothing is said -/
structure Un (fs ex : List Addr) (H H' : Hp) (h h' : Heap) : Prop where
  keep : ∀ b o, h.get? b = some o → H b = none → b ∉ fs → b ∉ ex → h'.get? b = some o
  slot : ∀ b o, h.get? b = some o → H b = none → b ∈ fs → b ∉ ex → ∃ sl, h'.get? b = some { o with slots := sl }
  free : ∀ b o, h.get? b = some o → H b = none → b ∉ ex → H' b = none
  there : ∀ b o, h.get? b = some o → b ∉ ex → ∃ o', h'.get? b = some o'
  tups : ∀ b xs, H b = some (.tup xs) → H' b = some (.tup xs)
  frzs : ∀ b o u, H b = some (.frz o u) → H' b = some (.frz o u)
  tbls : ∀ b ps, H b = some (.tbl ps) → ∃ more, H' b = some (.tbl (ps ++ more))
section
variable {fs fs' ex ex' : List Addr} {H H1 H2 : Hp} {h h1 h2 h' : Heap} {a x e : Addr} {o : HO}
theorem Un.any (u : Un fs ex H H1 h h1) {b : Addr} {ob : Obj} (q : h.get? b = some ob) (n : H b = none) (hx : b ∉ ex) : ∃ sl, h1.get? b = some { ob with slots := sl } := by
  by_cases hb : b ∈ fs
  · exact u.slot b ob q n hb hx
  · exact ⟨ob.slots, u.keep b ob q n hb hx⟩
theorem Un.kept (k : ∀ b u, h.get? b = some u → h'.get? b = some u) : Un fs ex H H h h' :=
  ⟨fun b ob q _ _ _ => k b ob q, fun b ob q _ _ _ => ⟨ob.slots, k b ob q⟩, fun _ _ _ n _ => n, fun b ob q _ => ⟨ob, k b ob q⟩, fun _ _ q => q, fun _ _ _ q => q, fun _ ps q => ⟨#[], by rw [q]; simp⟩⟩
theorem Un.refl : Un fs ex H H h h := Un.kept fun _ _ q => q
theorem Un.laid (k : ∀ b u, h.get? b = some u → h'.get? b = some u) (hp : h.objs.size ≤ a) (hn : H a = none) : Un fs ex H (upd H a o) h h' where
  keep := fun b u q _ _ _ => k b u q
  slot := fun b u q _ _ _ => ⟨u.slots, k b u q⟩
  free := fun b u q n _ => by rw [upd_ne (Nat.ne_of_lt (Nat.lt_of_lt_of_le (Heap.lt_size q) hp))]; exact n
  there := fun b u q _ => ⟨u, k b u q⟩
  tups := fun b xs q => by rw [upd_ne (ne_of_none q hn)]; exact q
  frzs := fun b u xs q => by rw [upd_ne (ne_of_none q hn)]; exact q
  tbls := fun b ps q => ⟨#[], by rw [upd_ne (ne_of_none q hn), q]; simp⟩
theorem Un.write (mu : Mut (H x)) (he : e = x ∨ H e = some (.own x)) (k : ∀ b u, b ≠ e → h.get? b = some u → h'.get? b = some u) (heo : ∃ u, h'.get? e = some u) : Un fs ex H (upd H x o) h h' := by
  have hx : ∀ b, H b = none → b ≠ x := fun b n z => by subst z; rw [n] at mu; exact mu
  have hb : ∀ b, H b = none → b ≠ e := fun b n z => by
    subst z
    rcases he with r | r
    · exact hx b n r
    · rw [n] at r; cases r
  have hm : ∀ b u, H b = some u → ¬ Mut (some u) → b ≠ x := fun b u q nm z => by subst z; rw [q] at mu; exact nm mu
  refine ⟨fun b u q n _ _ => k b u (hb b n) q, fun b u q n _ _ => ⟨u.slots, k b u (hb b n) q⟩, fun b u q n _ => by rw [upd_ne (hx b n)]; exact n, fun b u q _ => ?_,
    fun b xs q => by rw [upd_ne (hm b _ q fun z => z)]; exact q, fun b u xs q => by rw [upd_ne (hm b _ q fun z => z)]; exact q, fun b ps q => ⟨#[], by rw [upd_ne (hm b _ q fun z => z), q]; simp⟩⟩
  by_cases hbe : b = e
  · subst hbe; exact heo
  · exact ⟨u, k b u hbe q⟩
end

/-! ### the heap without what is tracked -/
def trk (h : Heap) (H : Hp) : List Addr := (List.range h.objs.size).filter fun a => (H a).isSome
def hidT (h : Heap) (H : Hp) : Heap := PySem.W.hideAll h (trk h H)
theorem hidT_size (h : Heap) (H : Hp) : (hidT h H).objs.size = h.objs.size := PySem.W.hideAll_size _ _
theorem hidT_get {h : Heap} {H : Hp} {b : Addr} {o : Obj} (e : h.get? b = some o) (n : H b = none) : (hidT h H).get? b = some o :=
  PySem.W.hideAll_get _ e fun hm => by
    have q : (H b).isSome = true := (List.mem_filter.mp hm).2
    rw [n] at q; simp at q
theorem of_hidT {h : Heap} {H : Hp} {b : Addr} {o : Obj} (e : (hidT h H).get? b = some o) : h.get? b = some o ∧ H b = none := by
  have e' : h.get? b = some o := PySem.W.of_hideAll (trk h H) e
  refine ⟨e', ?_⟩
  cases q : H b with
  | none => rfl
  | some x =>
    have hm : b ∈ trk h H := List.mem_filter.mpr ⟨List.mem_range.mpr (Heap.lt_size e'), by simp [q]⟩
    have z : (hidT h H).get? b = none := PySem.W.hideAll_none (trk h H) hm
    rw [z] at e; cases e

/-! ### OpenK's ledger, filled with every new object but one -/
end L2

namespace L2
open PySem PySem.Spec PyProof.Rows

/-- the module's facts, over the base: the heap at the law's entry without what is tracked there -/
structure Mod (K : PySem.W.Frag) (mg : Str → Option Value) (base : Heap) : Prop where
  kin : K.In base
  glob : base.Ns mainGlobals mg
  blt : ∃ mb, base.Ns builtinsNs mb ∧ ∀ x : Str, x ≠ "__name__" → mb x = bootBuiltins x
  nolimit : base.NoLimit

/-- the context: a def's body (or a comprehension's block) running. base: fixed through the whole law; s₀, H₀: the entry; outer: the frames whose slots others may change (a def's callers); stack: all frames that run;
   ex: iterators that were made ahead of the entry and are walked here (a comprehension's); fn: the names whose cells were made at the entry (a def: all; a comprehension's block: its own); calm: not within an except suite; pn: pins that every state bears; xe: what is wanted of an exception that leaves the code -/
structure Cx where
  prog : Program
  w : World
  K : PySem.W.Frag
  mg : Str → Option Value
  base : Heap
  A : Around
  N : List Str
  s₀ : Shared
  H₀ : Hp
  env : Env
  outer : List Env
  stack : List Env
  ex : List Addr
  fn : Str → Bool
  calm : Bool
  pn : List (Addr × Obj)
  xe : Value → Shared → Prop
/-- the callers' frames -/
def frs (l : List Env) : List Addr := l.filterMap (·.frame)
abbrev Cx.fs (X : Cx) : List Addr := frs X.outer

def Vis (sc : Scope) (x : Str) : Prop := sc.names.lookup x = some .local ∨ sc.names.lookup x = some .cell ∨ sc.names.lookup x = some .free
def Loc (sc : Scope) (x : Str) : Prop := sc.names.lookup x = some .local ∨ sc.names.lookup x = some .cell
def Look (env : Env) (h : Heap) (m : Str → Option Value) (x : Str) (u : Value) : Prop :=
  (env.kindOf x = some .local ∧ m x = some u) ∨ ((env.kindOf x = some .cell ∨ env.kindOf x = some .free) ∧ ∃ c, env.cells.lookup x = some c ∧ h.IsCell c (some u))

structure Cx.Ok (X : Cx) : Prop where
  mod : Mod X.K X.mg X.base
  kind : X.env.scope.kind = .function
  glob : X.env.globals = mainGlobals
  blt : X.env.builtins = builtinsNs
  above : X.s₀.heap.objs.size ≤ X.env.locals
  inj : ∀ x y c, X.env.cells.lookup x = some c → X.env.cells.lookup y = some c → x = y
  has : ∀ x, (X.env.kindOf x = some .cell ∨ X.env.kindOf x = some .free) → ∃ c, X.env.cells.lookup x = some c
  cab : ∀ x c, X.fn x = true → X.env.cells.lookup x = some c → X.s₀.heap.objs.size ≤ c
  hd : X.calm = true → X.A.handled = none
  frames : X.A.frames = some X.stack
  stk : X.stack = X.outer ∨ (X.stack = X.env :: X.outer ∧ X.env.frame = some X.env.locals)
  exf : ∀ b ∈ X.ex, b ≠ X.env.locals ∧ ∀ x c, X.env.cells.lookup x = some c → c ≠ b
  bs : ∀ b o, X.base.get? b = some o → X.s₀.heap.get? b = some o ∧ X.H₀ b = none
  bsz : X.base.objs.size ≤ X.s₀.heap.objs.size
  noex : ∀ b o, X.base.get? b = some o → b ∉ X.ex
  exfs : ∀ b ∈ X.ex, b ∉ X.fs
  funs : X.s₀.heap.FunFrames X.base X.outer
  frf : ∀ b ∈ X.fs, X.H₀ b = none

structure Inv (X : Cx) (pins : List (Addr × Obj)) (σ : List (Option V)) (H : Hp) (s : Shared) : Prop where
  ok : X.Ok
  os : s.os = X.s₀.os
  bare : AllBare s.gens
  base : Un X.fs X.ex X.H₀ H X.s₀.heap s.heap
  loc : ∃ m, s.heap.Ns X.env.locals m ∧ ∀ (i : Nat) (x : Str) (v : V), X.N[i]? = some x → σ[i]? = some (some v) → Vis X.env.scope x → ∃ u, RelV v u ∧ Look X.env s.heap m x u
  cell : ∀ x c, X.env.cells.lookup x = some c → ∃ v, s.heap.IsCell c v
  free : H X.env.locals = none
  freeC : ∀ x c, X.env.cells.lookup x = some c → H c = none
  pin : ∀ p ∈ X.pn ++ pins, s.heap.get? p.1 = some p.2 ∧ H p.1 = none ∧ p.1 ≠ X.env.locals ∧ p.1 ∉ X.fs ∧ ∀ v, p.2.data ≠ .cell v
  hok : HOk X.prog X.w H s.heap
  len : σ.length = X.N.length

section
variable {X : Cx} {pins : List (Addr × Obj)} {σ : List (Option V)} {H H' : Hp} {s : Shared} {h' : Heap}

theorem Cx.Ok.nofr (ok : X.Ok) {b : Addr} {o : Obj} (e : X.base.get? b = some o) : b ∉ X.fs := fun hb => by
  have := (ok.funs.mem hb).1
  rw [e] at this; cases this
theorem Inv.bs (I : Inv X pins σ H s) : ∀ b o, X.base.get? b = some o → s.heap.get? b = some o ∧ H b = none := fun b o e =>
  ⟨I.base.keep b o (I.ok.bs b o e).1 (I.ok.bs b o e).2 (I.ok.nofr e) (I.ok.noex b o e), I.base.free b o (I.ok.bs b o e).1 (I.ok.bs b o e).2 (I.ok.noex b o e)⟩
theorem Inv.bk (I : Inv X pins σ H s) : ∀ b o, X.base.get? b = some o → s.heap.get? b = some o := fun b o e => (I.bs b o e).1
theorem Inv.mod (I : Inv X pins σ H s) : Mod X.K X.mg X.base := I.ok.mod
theorem Inv.kIn (I : Inv X pins σ H s) : X.K.In s.heap := I.ok.mod.kin.keeps I.bk
theorem Inv.lt (I : Inv X pins σ H s) : X.env.locals < s.heap.objs.size := let ⟨_, hn, _⟩ := I.loc; hn.lt
theorem Inv.sz (I : Inv X pins σ H s) : X.s₀.heap.objs.size ≤ s.heap.objs.size := Nat.le_trans I.ok.above (Nat.le_of_lt I.lt)
theorem Inv.nofs (I : Inv X pins σ H s) {a : Addr} (h : s.heap.objs.size ≤ a) : a ∉ X.fs := fun hb => by
  obtain ⟨_, o, ho, _⟩ := I.ok.funs.mem hb
  exact absurd (Nat.lt_of_lt_of_le (Heap.lt_size ho) (Nat.le_trans I.sz h)) (Nat.lt_irrefl _)
theorem Inv.cne (I : Inv X pins σ H s) : ∀ x c, X.env.cells.lookup x = some c → c ≠ X.env.locals := fun x c e z => by
  obtain ⟨v, o, ho, hd⟩ := I.cell x c e
  obtain ⟨m, ⟨o', es, ep, ho', hd', _⟩, _⟩ := I.loc
  rw [z, ho'] at ho; cases ho; rw [hd'] at hd; cases hd
theorem Inv.funs (I : Inv X pins σ H s) : s.heap.FunFrames X.base X.outer := by
  have all : ∀ (l : List Env), (∀ b ∈ frs l, b ∈ X.fs) → X.s₀.heap.FunFrames X.base l → s.heap.FunFrames X.base l := by
    intro l
    induction l with
    | nil => intro _ _; trivial
    | cons env r ih =>
      intro hs hl
      obtain ⟨hk, ⟨L, o, hf, hn, ho, hd⟩, hr⟩ := hl
      have hL : L ∈ X.fs := hs L (by unfold frs; rw [List.filterMap_cons, hf]; exact List.mem_cons_self)
      obtain ⟨sl, e⟩ := I.base.slot L o ho (I.ok.frf L hL) hL fun z => I.ok.exfs L z hL
      exact ⟨hk, ⟨L, _, hf, hn, e, hd⟩, ih (fun b hb => hs b (by unfold frs; rw [List.filterMap_cons, hf]; exact List.mem_cons_of_mem _ hb)) hr⟩
  exact all X.outer (fun _ hb => hb) I.ok.funs

/-- the frames that run, for a call -/
theorem Inv.stack (I : Inv X pins σ H s) : s.heap.FunFrames X.base X.stack := by
  rcases I.ok.stk with e | ⟨e, hf⟩
  · rw [e]; exact I.funs
  · rw [e]
    obtain ⟨m, hn, _⟩ := I.loc
    refine .cons (by rw [I.ok.kind]; decide) hf hn ?_ I.funs
    exact Heap.get?_none_of_le (Nat.le_trans I.ok.bsz I.ok.above)
theorem Inv.stkSub (I : Inv X pins σ H s) : ∀ b ∈ frs X.stack, b ∈ X.env.locals :: X.fs := fun b hb => by
  rcases I.ok.stk with e | ⟨e, hf⟩
  · rw [e] at hb; exact List.mem_cons_of_mem _ hb
  · rw [e] at hb
    unfold frs at hb
    rw [List.filterMap_cons, hf] at hb
    exact hb
theorem Inv.stkFree (I : Inv X pins σ H s) : ∀ b ∈ frs X.stack, H b = none := fun b hb => by
  rcases List.mem_cons.mp (I.stkSub b hb) with e | hb
  · rw [e]; exact I.free
  · obtain ⟨_, o, ho, _⟩ := I.ok.funs.mem hb
    exact I.base.free b o ho (I.ok.frf b hb) fun z => I.ok.exfs b z hb

/-- THE STEP: the untracked objects but the frame and the records at ch are kept (the callers' frames up to slots), the frame's map is kept, the new abstract heap is held -/
theorem Inv.step {g' : Array GenState} {t' : Nat} {d' : Drawn} {ch : List Addr} (I : Inv X pins σ H s)
    (hch : ∀ b ∈ ch, (b ∈ X.ex ∨ X.s₀.heap.objs.size ≤ b) ∧ b ≠ X.env.locals ∧ (∀ x c, X.env.cells.lookup x = some c → c ≠ b) ∧ ∀ p ∈ X.pn ++ pins, p.1 ≠ b)
    (keep : ∀ b o, b ≠ X.env.locals → b ∉ X.fs → b ∉ ch → s.heap.get? b = some o → H b = none → h'.get? b = some o)
    (slot : ∀ b o, b ≠ X.env.locals → b ∈ X.fs → b ∉ ch → s.heap.get? b = some o → H b = none → ∃ sl, h'.get? b = some { o with slots := sl }) (free : ∀ b o, b ∉ ch → s.heap.get? b = some o → H b = none → H' b = none)
    (there : ∀ b o, b ∉ ch → s.heap.get? b = some o → ∃ o', h'.get? b = some o')
    (tups : ∀ b xs, H b = some (.tup xs) → H' b = some (.tup xs)) (frzs : ∀ b o u, H b = some (.frz o u) → H' b = some (.frz o u)) (tbls : ∀ b ps, H b = some (.tbl ps) → ∃ more, H' b = some (.tbl (ps ++ more)))
    (ns : ∀ m, s.heap.Ns X.env.locals m → h'.Ns X.env.locals m) (hok : HOk X.prog X.w H' h') (hg : AllBare g') :
    Inv X pins σ H' { s with heap := h', gens := g', drawn := d', toks := t' } := by
  have neL : ∀ b o, X.s₀.heap.get? b = some o → b ≠ X.env.locals := fun b o e => Nat.ne_of_lt (Nat.lt_of_lt_of_le (Heap.lt_size e) I.ok.above)
  have neC : ∀ b o, X.s₀.heap.get? b = some o → b ∉ X.ex → b ∉ ch := fun b o e hx hb => by
    rcases (hch b hb).1 with z | z
    · exact hx z
    · exact absurd (Nat.lt_of_lt_of_le (Heap.lt_size e) z) (Nat.lt_irrefl _)
  have cellK : ∀ x c, X.env.cells.lookup x = some c → ∀ v, s.heap.IsCell c v → h'.IsCell c v := fun x c e v ⟨o, ho, hd⟩ => by
    have nch : c ∉ ch := fun z => (hch c z).2.2.1 x c e rfl
    by_cases hc : c ∈ X.fs
    · obtain ⟨sl, q⟩ := slot c o (I.cne x c e) hc nch ho (I.freeC x c e)
      exact ⟨_, q, hd⟩
    · exact ⟨o, keep c o (I.cne x c e) hc nch ho (I.freeC x c e), hd⟩
  refine ⟨I.ok, I.os, hg, ⟨fun b o e n hb hx => ?_, fun b o e n hb hx => ?_, fun b o e n hx => ?_, fun b o e hx => ?_, fun b xs e => tups b xs (I.base.tups b xs e), fun b o xs e => frzs b o xs (I.base.frzs b o xs e), fun b ps e => ?_⟩, ?_, fun x c e => ?_, ?_, fun x c e => ?_, fun p hp => ?_, hok, I.len⟩
  · exact keep b o (neL b o e) hb (neC b o e hx) (I.base.keep b o e n hb hx) (I.base.free b o e n hx)
  · obtain ⟨sl, e1⟩ := I.base.slot b o e n hb hx
    obtain ⟨sl', e2⟩ := slot b _ (neL b o e) hb (neC b o e hx) e1 (I.base.free b o e n hx)
    exact ⟨sl', e2⟩
  · obtain ⟨o', e1⟩ := I.base.there b o e hx
    exact free b o' (neC b o e hx) e1 (I.base.free b o e n hx)
  · obtain ⟨o', e1⟩ := I.base.there b o e hx
    exact there b o' (neC b o e hx) e1
  · obtain ⟨m1, e1⟩ := I.base.tbls b ps e
    obtain ⟨m2, e2⟩ := tbls b _ e1
    exact ⟨m1 ++ m2, by rw [e2, Array.append_assoc]⟩
  · obtain ⟨m, hn, hl⟩ := I.loc
    refine ⟨m, ns m hn, fun i x v e1 e2 e3 => ?_⟩
    obtain ⟨u, r, l⟩ := hl i x v e1 e2 e3
    refine ⟨u, r, ?_⟩
    rcases l with l | ⟨k, c, e, z⟩
    · exact .inl l
    · exact .inr ⟨k, c, e, cellK x c e _ z⟩
  · obtain ⟨v, z⟩ := I.cell x c e
    exact ⟨v, cellK x c e v z⟩
  · obtain ⟨m, ⟨o, _, _, ho, _⟩, _⟩ := I.loc
    exact free _ o (fun z => (hch _ z).2.1 rfl) ho I.free
  · obtain ⟨v, o, ho, hd⟩ := I.cell x c e
    exact free c o (fun z => (hch c z).2.2.1 x c e rfl) ho (I.freeC x c e)
  · obtain ⟨e, n, ne, nf, d⟩ := I.pin p hp
    have nch : p.1 ∉ ch := fun z => (hch p.1 z).2.2.2 p hp rfl
    exact ⟨keep p.1 p.2 ne nf nch e n, free p.1 p.2 nch e n, ne, nf, d⟩
/-- .. where the frame's own object is kept too -/
theorem Inv.un {t' : Nat} (I : Inv X pins σ H s) (u : Un X.fs [] H H' s.heap h') (hok : HOk X.prog X.w H' h') : Inv X pins σ H' { s with heap := h', toks := t' } := by
  obtain ⟨m, ⟨o, es, ep, ho, r⟩, _⟩ := id I.loc
  obtain ⟨sl, hL⟩ := u.any ho I.free (by simp)
  exact I.step (g' := s.gens) (d' := s.drawn) (ch := []) (fun _ z => nomatch z) (fun b o _ hb _ e n => u.keep b o e n hb (by simp)) (fun b o _ hb _ e n => u.slot b o e n hb (by simp)) (fun b o _ e n => u.free b o e n (by simp)) (fun b o _ e => u.there b o e (by simp)) u.tups u.frzs u.tbls (fun m' hm => by
    obtain ⟨o', es', ep', ho', r'⟩ := hm
    rw [ho] at ho'; cases ho'
    exact ⟨_, es', ep', hL, r'⟩) hok I.bare
/-- behind a call (or a comprehension's block): the slots of this frame may have changed too, the records at ch may have turned -/
theorem Inv.call {g' : Array GenState} {t' : Nat} {d' : Drawn} {ch : List Addr} (I : Inv X pins σ H s) (u : Un (frs X.stack) ch H H' s.heap h') (hok : HOk X.prog X.w H' h') (hg : AllBare g')
    (hch : ∀ b ∈ ch, (b ∈ X.ex ∨ X.s₀.heap.objs.size ≤ b) ∧ b ≠ X.env.locals ∧ (∀ x c, X.env.cells.lookup x = some c → c ≠ b) ∧ ∀ p ∈ X.pn ++ pins, p.1 ≠ b) :
    Inv X pins σ H' { s with heap := h', gens := g', drawn := d', toks := t' } := by
  obtain ⟨m, ⟨o, es, ep, ho, r⟩, _⟩ := id I.loc
  obtain ⟨sl, hL⟩ := u.any ho I.free fun z => (hch _ z).2.1 rfl
  exact I.step (ch := ch) hch (fun b o hL hb hc e n => u.keep b o e n (fun z => (List.mem_cons.mp (I.stkSub b z)).elim hL hb) hc) (fun b o _ _ hc e n => u.any e n hc) (fun b o hc e n => u.free b o e n hc) (fun b o hc e => u.there b o e hc) u.tups u.frzs u.tbls (fun m' hm => by
    obtain ⟨o', es', ep', ho', r'⟩ := hm
    rw [ho] at ho'; cases ho'
    exact ⟨_, es', ep', hL, r'⟩) hok hg
/-- an untracked record of ours (an iterator) has turned -/
theorem Inv.turned {t' : Nat} {it : Addr} (I : Inv X pins σ H s) (k : ∀ b o, b ≠ it → s.heap.get? b = some o → h'.get? b = some o) (hn : H it = none) (hL : it ≠ X.env.locals)
    (h1 : it ∈ X.ex ∨ X.s₀.heap.objs.size ≤ it) (h2 : ∀ x c, X.env.cells.lookup x = some c → c ≠ it) (h3 : ∀ p ∈ X.pn ++ pins, p.1 ≠ it) : Inv X pins σ H { s with heap := h', toks := t' } := by
  have nit : ∀ b u, H b = some u → b ≠ it := fun b u e z => by rw [z, hn] at e; cases e
  refine I.step (g' := s.gens) (d' := s.drawn) (ch := [it]) (fun b hb => ?_) (fun b o _ _ hc e _ => k b o (fun z => hc (by simp [z])) e) (fun b o _ _ hc e _ => ⟨o.slots, k b o (fun z => hc (by simp [z])) e⟩) (fun _ _ _ _ n => n)
    (fun b o hc e => ⟨o, k b o (fun z => hc (by simp [z])) e⟩) (fun _ _ e => e) (fun _ _ _ e => e) (fun b ps e => ⟨#[], by rw [e]; simp⟩) (fun m hm => ?_) (fun b u e => ?_) I.bare
  · have e : b = it := by simpa using hb
    subst e
    exact ⟨h1, hL, h2, h3⟩
  · obtain ⟨o, es, ep, ho, r⟩ := hm
    exact ⟨o, es, ep, k _ o (Ne.symm hL) ho, r⟩
  · refine (I.hok b u e).stay (fun c v hc q => k c v ?_ q) (fun _ q => q) fun _ _ q => q
    rcases hc with z | z
    · rw [z]; exact nit b u e
    · exact nit c _ z
theorem Inv.tok (I : Inv X pins σ H s) (t : Nat) : Inv X pins σ H { s with toks := t } := I.un (h' := s.heap) (t' := t) Un.refl I.hok
/-- all objects kept -/
theorem Inv.kept {t' : Nat} (I : Inv X pins σ H s) (k : ∀ b u, s.heap.get? b = some u → h'.get? b = some u) : Inv X pins σ H { s with heap := h', toks := t' } := I.un (Un.kept k) (I.hok.kept k)
/-- a new object laid and tracked -/
theorem Inv.laid {a : Addr} {o : HO} {t' : Nat} (I : Inv X pins σ H s) (k : ∀ b u, s.heap.get? b = some u → h'.get? b = some u) (hp : s.heap.objs.size ≤ a) (new : ObjOk X.prog X.w (upd H a o) h' a o) :
    Inv X pins σ (upd H a o) { s with heap := h', toks := t' } := I.un (Un.laid k hp (I.hok.fresh hp)) (I.hok.laid k hp new)
/-- an object written -/
theorem Inv.write {x e : Addr} {o : HO} {t' : Nat} (I : Inv X pins σ H s) (mu : Mut (H x)) (he : e = x ∨ H e = some (.own x)) (k : ∀ b u, b ≠ e → s.heap.get? b = some u → h'.get? b = some u) (heo : ∃ u, h'.get? e = some u)
    (new : ObjOk X.prog X.w (upd H x o) h' x o) : Inv X pins σ (upd H x o) { s with heap := h', toks := t' } := I.un (Un.write mu he k heo) (I.hok.write mu he k heo new)
/-- forgetting slots, pins -/
theorem Inv.weak {σ' : List (Option V)} (I : Inv X pins σ H s) (hl : σ'.length = σ.length) (w : ∀ (i : Nat) v, σ'[i]? = some (some v) → σ[i]? = some (some v)) : Inv X pins σ' H s :=
  ⟨I.ok, I.os, I.bare, I.base, let ⟨m, hn, hl'⟩ := I.loc; ⟨m, hn, fun i x v e1 e2 e3 => hl' i x v e1 (w i v e2) e3⟩, I.cell, I.free, I.freeC, I.pin, I.hok, hl.trans I.len⟩
theorem Inv.pins_of {pins' : List (Addr × Obj)} (I : Inv X pins σ H s) (h : ∀ p ∈ pins', s.heap.get? p.1 = some p.2 ∧ H p.1 = none ∧ p.1 ≠ X.env.locals ∧ p.1 ∉ X.fs ∧ ∀ v, p.2.data ≠ .cell v) : Inv X pins' σ H s :=
  ⟨I.ok, I.os, I.bare, I.base, I.loc, I.cell, I.free, I.freeC, fun p hp => (List.mem_append.mp hp).elim (fun z => I.pin p (List.mem_append_left _ z)) (h p), I.hok, I.len⟩

theorem nodup_ix {N : List Str} (hN : N.Nodup) {i j : Nat} {x : Str} (a : N[i]? = some x) (b : N[j]? = some x) : i = j := by
  obtain ⟨h1, e1⟩ := List.getElem?_eq_some_iff.mp a
  obtain ⟨h2, e2⟩ := List.getElem?_eq_some_iff.mp b
  exact (List.getElem_inj hN).mp (e1.trans e2.symm)

/-- a name is stored; what changed -/
theorem store_ok2 {M : Model} {A : Around} {E : Value → Shared → Prop} {i : Nat} {x : Str} {v : V} {u : Value} {Q : Unit → Shared → Prop} (I : Inv X pins σ H s) (hN : X.N.Nodup) (hi : X.N[i]? = some x) (hx : Loc X.env.scope x) (r : RelV v u)
    (h : ∀ s', Inv X pins (σ.set i (some v)) H s' → (∃ a, Heap.SameBut a s.heap s'.heap ∧ (a = X.env.locals ∨ X.env.cells.lookup x = some a)) → Q () s') (hf : X.fn x = true ∨ X.env.scope.names.lookup x = some .local := by first | exact .inl rfl | exact .inr rfl | assumption) : wpAny M A (storeName X.env x u) Q E s := by
  obtain ⟨m, hn, hl⟩ := id I.loc
  have hcls : (X.env.scope.kind == .class || (X.env.scope.kind == .module && X.env.locals != X.env.globals)) = false := by rw [I.ok.kind]; rfl
  have hiσ : i < σ.length := by rw [I.len]; exact (List.getElem?_eq_some_iff.mp hi).1
  have cne := I.cne
  have tracked : ∀ {a : Addr} {h' : Heap}, (∃ o, s.heap.get? a = some o ∧ H a = none) → Heap.SameBut a s.heap h' → HOk X.prog X.w H h' := fun {a h'} ha hs b ob e => by
    obtain ⟨_, _, hfree⟩ := ha
    refine (I.hok b ob e).stay (fun c w' hc q => (hs.2 c ?_).trans q) (fun _ q => q) fun _ _ q => q
    rintro rfl
    rcases hc with rfl | hc
    · rw [hfree] at e; cases e
    · rw [hfree] at hc; cases hc
  rcases hx with hk | hk
  · refine wpAny_storeName_local hk hn (fun h' hn' hs => ?_) hcls
    obtain ⟨oL, _, _, hoL, _⟩ := id hn
    refine h _ ⟨I.ok, I.os, I.bare, ⟨fun b o e n hb hx => ?_, fun b o e n hb hx => ?_, I.base.free, fun b o e hx => ?_, I.base.tups, I.base.frzs, I.base.tbls⟩, ⟨_, hn', fun j y v' e1 e2 e3 => ?_⟩, fun y c e => ?_, I.free, I.freeC, fun p hp => ?_, tracked ⟨oL, hoL, I.free⟩ hs, by simpa using I.len⟩ ⟨_, hs, .inl rfl⟩
    · exact (hs.2 b (Nat.ne_of_lt (Nat.lt_of_lt_of_le (Heap.lt_size e) I.ok.above))).trans (I.base.keep b o e n hb hx)
    · obtain ⟨sl, e1⟩ := I.base.slot b o e n hb hx
      exact ⟨sl, (hs.2 b (Nat.ne_of_lt (Nat.lt_of_lt_of_le (Heap.lt_size e) I.ok.above))).trans e1⟩
    · obtain ⟨o', e1⟩ := I.base.there b o e hx
      exact ⟨o', (hs.2 b (Nat.ne_of_lt (Nat.lt_of_lt_of_le (Heap.lt_size e) I.ok.above))).trans e1⟩
    · by_cases hj : j = i
      · subst hj
        rw [hi] at e1; cases e1
        rw [List.getElem?_set_self hiσ] at e2
        cases e2
        exact ⟨u, r, .inl ⟨hk, by simp⟩⟩
      · rw [List.getElem?_set_ne (Ne.symm hj)] at e2
        obtain ⟨u', r', q⟩ := hl j y v' e1 e2 e3
        refine ⟨u', r', ?_⟩
        rcases q with ⟨k, e⟩ | ⟨k, c, e, z⟩
        · refine .inl ⟨k, ?_⟩
          have : y ≠ x := fun e => hj (nodup_ix hN e1 (e ▸ hi))
          simp [this, e]
        · exact .inr ⟨k, c, e, z.sameBut hs (cne y c e)⟩
    · obtain ⟨w', z⟩ := I.cell y c e
      exact ⟨w', z.sameBut hs (cne y c e)⟩
    · obtain ⟨e, n, ne, nf, d⟩ := I.pin p hp
      exact ⟨(hs.2 p.1 ne).trans e, n, ne, nf, d⟩
  · have hfn : X.fn x = true := by
      rcases hf with z | z
      · exact z
      · rw [z] at hk; cases hk
    obtain ⟨c, hc⟩ := I.ok.has x (.inl hk)
    obtain ⟨w', z⟩ := I.cell x c hc
    refine wpAny_storeName_cell I.ok.kind hk hc z (fun h' hc' hs => ?_)
    obtain ⟨oc, hoc, hocd⟩ := id z
    refine h { s with heap := h' } ⟨I.ok, I.os, I.bare, ⟨fun b o e n hb hx => ?_, fun b o e n hb hx => ?_, I.base.free, fun b o e hx => ?_, I.base.tups, I.base.frzs, I.base.tbls⟩, ⟨m, hn.sameBut hs (Ne.symm (cne x c hc)), fun j y v' e1 e2 e3 => ?_⟩, fun y c' e => ?_, I.free, I.freeC, fun p hp => ?_, tracked ⟨oc, hoc, I.freeC x c hc⟩ hs, by simpa using I.len⟩ ⟨c, hs, .inr hc⟩
    · exact (hs.2 b (Nat.ne_of_lt (Nat.lt_of_lt_of_le (Heap.lt_size e) (I.ok.cab x c hfn hc)))).trans (I.base.keep b o e n hb hx)
    · obtain ⟨sl, e1⟩ := I.base.slot b o e n hb hx
      exact ⟨sl, (hs.2 b (Nat.ne_of_lt (Nat.lt_of_lt_of_le (Heap.lt_size e) (I.ok.cab x c hfn hc)))).trans e1⟩
    · obtain ⟨o', e1⟩ := I.base.there b o e hx
      exact ⟨o', (hs.2 b (Nat.ne_of_lt (Nat.lt_of_lt_of_le (Heap.lt_size e) (I.ok.cab x c hfn hc)))).trans e1⟩
    · by_cases hj : j = i
      · subst hj
        rw [hi] at e1; cases e1
        rw [List.getElem?_set_self hiσ] at e2
        cases e2
        exact ⟨u, r, .inr ⟨.inl hk, c, hc, hc'⟩⟩
      · rw [List.getElem?_set_ne (Ne.symm hj)] at e2
        obtain ⟨u', r', q⟩ := hl j y v' e1 e2 e3
        refine ⟨u', r', ?_⟩
        rcases q with q | ⟨k, c', e, z'⟩
        · exact .inl q
        · refine .inr ⟨k, c', e, z'.sameBut hs ?_⟩
          rintro rfl
          exact hj (nodup_ix hN e1 (I.ok.inj _ _ _ e hc ▸ hi))
    · by_cases hcc : c' = c
      · subst hcc; exact ⟨_, hc'⟩
      · obtain ⟨w2, z2⟩ := I.cell y c' e
        exact ⟨w2, z2.sameBut hs hcc⟩
    · obtain ⟨e, n, ne, nf, d⟩ := I.pin p hp
      refine ⟨(hs.2 p.1 ?_).trans e, n, ne, nf, d⟩
      intro q
      rw [q, hoc] at e
      have q' : oc = p.2 := Option.some.inj e
      exact d w' (by rw [← q']; exact hocd)
theorem store_ok {M : Model} {A : Around} {E : Value → Shared → Prop} {i : Nat} {x : Str} {v : V} {u : Value} {Q : Unit → Shared → Prop} (I : Inv X pins σ H s) (hN : X.N.Nodup) (hi : X.N[i]? = some x) (hx : Loc X.env.scope x) (r : RelV v u)
    (h : ∀ s', Inv X pins (σ.set i (some v)) H s' → Q () s') (hf : X.fn x = true ∨ X.env.scope.names.lookup x = some .local := by first | exact .inl rfl | exact .inr rfl | assumption) : wpAny M A (storeName X.env x u) Q E s :=
  store_ok2 I hN hi hx r (fun s' I' _ => h s' I') hf
/-- behind a call or a block, the state as it is -/
theorem Inv.call' {s' : Shared} {ch : List Addr} (I : Inv X pins σ H s) (ho : s'.os = s.os) (u : Un (frs X.stack) ch H H' s.heap s'.heap) (hok : HOk X.prog X.w H' s'.heap) (hg : AllBare s'.gens)
    (hch : ∀ b ∈ ch, (b ∈ X.ex ∨ X.s₀.heap.objs.size ≤ b) ∧ b ≠ X.env.locals ∧ (∀ x c, X.env.cells.lookup x = some c → c ≠ b) ∧ ∀ p ∈ X.pn ++ pins, p.1 ≠ b) : Inv X pins σ H' s' := by
  obtain ⟨h', g', d', t', o'⟩ := s'
  have e : o' = s.os := ho
  subst e
  exact I.call (g' := g') (t' := t') (d' := d') u hok hg hch
end

/-! ### the judgements -/
/-- an exception: its class, its own dict's address (where it has one), the abstract heap behind it -/
abbrev XK := Value → Option Addr → Hp → Prop
abbrev St := List (Option V)
abbrev VK := V → Hp → Prop
/-- an expression's reading; a test's; an argument list's -/
abbrev TE := St → Hp → VK → Prop
abbrev TT := St → Hp → (Bool → Hp → Prop) → Prop
abbrev TA := St → Hp → (List V → Hp → Prop) → Prop
/-- what is wanted behind a statement -/
structure Ends where
  nx : St → Hp → Prop
  rt : VK
  bk : St → Hp → Prop := fun _ _ => False
  ct : St → Hp → Prop := fun _ _ => False
abbrev TS := Ends → St → Hp → Prop

def EP (X : Cx) (pins : List (Addr × Obj)) (σ : St) (Q : VK) (u : Value) (s' : Shared) : Prop := ∃ v H', Inv X pins σ H' s' ∧ RelV v u ∧ Q v H'
def TP (X : Cx) (pins : List (Addr × Obj)) (σ : St) (Q : Bool → Hp → Prop) (b : Bool) (s' : Shared) : Prop := ∃ H', Inv X pins σ H' s' ∧ Q b H'
def AP (X : Cx) (pins : List (Addr × Obj)) (σ : St) (Q : List V → Hp → Prop) (us : List Value) (s' : Shared) : Prop := ∃ vs H', Inv X pins σ H' s' ∧ Vals vs us ∧ Q vs H'
def SP (X : Cx) (pins : List (Addr × Obj)) (D : Ends) (f : Flow) (s' : Shared) : Prop :=
  match f with
  | .next => ∃ σ' H', Inv X pins σ' H' s' ∧ D.nx σ' H'
  | .brk => ∃ σ' H', Inv X pins σ' H' s' ∧ D.bk σ' H'
  | .cont => ∃ σ' H', Inv X pins σ' H' s' ∧ D.ct σ' H'
  | .ret u => ∃ v σ' H', Inv X pins σ' H' s' ∧ RelV v u ∧ D.rt v H'

def PE (X : Cx) (e : Expr) (t : TE) : Prop :=
  ∀ (pins : List (Addr × Obj)) (s : Shared) (σ : St) (H : Hp) (Q : VK), Inv X pins σ H s → t σ H Q → wpAny (model X.prog X.w) X.A (eval e X.env) (EP X pins σ Q) X.xe s
def PT (X : Cx) (e : Expr) (t : TT) : Prop :=
  ∀ (pins : List (Addr × Obj)) (s : Shared) (σ : St) (H : Hp) (Q : Bool → Hp → Prop), Inv X pins σ H s → t σ H Q → wpAny (model X.prog X.w) X.A (isTrue e X.env (eval e X.env)) (TP X pins σ Q) X.xe s
/-- a test whatever its 'whole' is (and, or) -/
def PW (X : Cx) (e : Expr) (t : TT) : Prop :=
  ∀ (whole : Sem Value) (pins : List (Addr × Obj)) (s : Shared) (σ : St) (H : Hp) (Q : Bool → Hp → Prop), Inv X pins σ H s → t σ H Q → wpAny (model X.prog X.w) X.A (isTrue e X.env whole) (TP X pins σ Q) X.xe s
theorem PW.pt {X : Cx} {e : Expr} {t : TT} (h : PW X e t) : PT X e t := h _
/-- an argument list (no star), from the left -/
def PA (X : Cx) (es : List Expr) (t : TA) : Prop :=
  ∀ (pos : Pos) (pins : List (Addr × Obj)) (s : Shared) (σ : St) (H : Hp) (Q : List V → Hp → Prop), Inv X pins σ H s → t σ H Q → wpAny (model X.prog X.w) X.A (spliced (backTo pos (starEach es X.env))) (AP X pins σ Q) X.xe s
def PS (X : Cx) (st : Stmt) (t : TS) : Prop :=
  ∀ (pins : List (Addr × Obj)) (s : Shared) (σ : St) (H : Hp) (D : Ends), Inv X pins σ H s → t D σ H → wpAny (model X.prog X.w) X.A (exec st X.env) (SP X pins D) X.xe s
def PSs (X : Cx) (st : List Stmt) (t : TS) : Prop :=
  ∀ (pins : List (Addr × Obj)) (s : Shared) (σ : St) (H : Hp) (D : Ends), Inv X pins σ H s → t D σ H → wpAny (model X.prog X.w) X.A (execs st X.env) (SP X pins D) X.xe s
/-- weaken the end -/
theorem thn {α : Type} {t : Sem α} {Q Q' : α → Shared → Prop} {M : Model} {A : Around} {E : Value → Shared → Prop} {s : Shared} (h : wpAny M A t Q E s) (hQ : ∀ a s, Q a s → Q' a s) : wpAny M A t Q' E s := wpAny_mono h hQ fun _ _ x => x
end L2

namespace L2
open PySem PySem.Spec PyProof.Rows
section
variable {X : Cx}


/-! ### names and constants -/
def tVar (i : Nat) : TE := fun σ H Q => ∃ v, σ[i]? = some (some v) ∧ Q v H
def tC (v : V) : TE := fun _ H Q => Q v H
theorem pe_var {i : Nat} {x : Str} {pos : Pos} (hN : X.N[i]? = some x) (hv : Vis X.env.scope x) (hd : (x == ("__debug__" : Str)) = false := by decide) (hcd : (x == ("__classdict__" : Str)) = false := by decide) : PE X (.Name x pos) (tVar i) := by
  intro pins s σ H Q I h
  obtain ⟨v, e, h⟩ := h
  obtain ⟨m, hn, hl⟩ := I.loc
  obtain ⟨u, r, l⟩ := hl i x v hN e hv
  have fin : EP X pins σ Q u s := ⟨v, H, I, r, h⟩
  rcases l with ⟨hk, hm⟩ | ⟨hk, c, hc, hcell⟩
  · exact wpAny_Name (wpAny_loadName_local I.ok.kind hk hn hm fin) hd
  · rcases hk with hk | hk
    · exact wpAny_Name (wpAny_loadName_cell I.ok.kind hk hc hcell fin) hd
    · exact wpAny_Name (wpAny_loadName_free I.ok.kind hk hc hcell fin hcd) hd
theorem pe_int {i j pos} : PE X (.Constant (.int i) j pos) (tC (.int i)) := fun _ _ _ H _ I h => wpAny_Constant_int ⟨.int i, H, I.tok _, ⟨_, rfl⟩, h⟩
theorem pe_bl {b j pos} : PE X (.Constant (.bool b) j pos) (tC (.bl b)) := fun _ _ _ H _ I h => Constant_bool ⟨.bl b, H, I, rfl, h⟩

/-- a global name of the def -/
def Gl (X : Cx) (x : Str) : Prop := X.env.kindOf x = some .globalImplicit
theorem ld_glob {E : Value → Shared → Prop} {pins : List (Addr × Obj)} {s : Shared} {σ : St} {H : Hp} {x : Str} {u : Value} {pos : Pos} {Q : Value → Shared → Prop} (I : Inv X pins σ H s) (hg : Gl X x) (hm : X.mg x = some u) (h : Q u s)
    (hd : (x == ("__debug__" : Str)) = false := by decide) : wpAny (model X.prog X.w) X.A (eval (.Name x pos) X.env) Q E s :=
  Calls.Name_function_global I.ok.kind hg (Calls.loadGlobal_global (by rw [I.ok.glob]; exact I.mod.glob.keeps I.bk) hm h) hd
theorem ld_blt {E : Value → Shared → Prop} {pins : List (Addr × Obj)} {s : Shared} {σ : St} {H : Hp} {x : Str} {u : Value} {pos : Pos} {Q : Value → Shared → Prop} (I : Inv X pins σ H s) (hg : Gl X x) (hm : X.mg x = none) (hv : bootBuiltins x = some u) (h : Q u s)
    (hn : x ≠ "__name__" := by decide) (hd : (x == ("__debug__" : Str)) = false := by decide) : wpAny (model X.prog X.w) X.A (eval (.Name x pos) X.env) Q E s := by
  obtain ⟨mb, h1, h2⟩ := I.mod.blt
  exact Calls.Name_function_global I.ok.kind hg (Calls.loadGlobal_builtin (by rw [I.ok.glob]; exact I.mod.glob.keeps I.bk) hm (by rw [I.ok.blt]; exact h1.keeps I.bk) ((h2 x hn).trans hv) h) hd
theorem pe_bltn {x : Str} {v : V} {u : Value} {pos : Pos} (hg : Gl X x) (hm : X.mg x = none) (hv : bootBuiltins x = some u) (r : RelV v u) (hn : x ≠ "__name__" := by decide) (hd : (x == ("__debug__" : Str)) = false := by decide) : PE X (.Name x pos) (tC v) :=
  fun _ _ _ H _ I h => ld_blt I hg hm hv ⟨v, H, I, r, h⟩ hn hd

/-! ### arithmetic -/
variable {a b : Expr} {ta tb : TE} {pos : Pos}

/-! ### comparisons -/
/-- a comparison as a value, as a test -/
def tB (t : TE) : TT := fun σ H Q => t σ H fun x H1 => ∃ c, x = .bl c ∧ Q c H1
/-- an expression whose value is a bool, as a test -/
theorem pt_val {e : Expr} {t : TE} (h : PE X e t) (he : ∀ whole, isTrue e X.env whole = (do let v ← whole; standAt e.pos; holding [v] (truthy v)) := by intro _; rfl) : PT X e (tB t) := by
  intro pins s σ H Q I hw
  refine isTrue_plain (thn (h pins s σ H _ I hw) fun v s1 ⟨x, H1, I1, r1, q1⟩ => ?_) (he _)
  obtain ⟨d, rfl, q⟩ := q1
  cases r1
  exact wpAny_truthy_bool ⟨H1, I1, q⟩

/-! ### and, or, not -/
variable {tA tB' : TT} {rest : List Expr}
def tAnd (t u : TT) : TT := fun σ H Q => t σ H fun c H1 => if c = true then u σ H1 Q else Q false H1
def tOr (t u : TT) : TT := fun σ H Q => t σ H fun c H1 => if c = true then Q true H1 else u σ H1 Q
def tNot (t : TT) : TT := fun σ H Q => t σ H fun c H1 => Q (!c) H1
theorem pw_and1 (ha : PT X a tA) : PW X (.BoolOp .And [a] pos) tA := by
  intro wh pins s σ H Q I h
  refine isTrue_and (thn (ha pins s σ H Q I h) fun c s1 e => ?_)
  cases c with
  | true => exact isTrue_and_nil e
  | false => exact e
theorem pw_or1 (ha : PT X a tA) : PW X (.BoolOp .Or [a] pos) tA := by
  intro wh pins s σ H Q I h
  refine isTrue_or (thn (ha pins s σ H Q I h) fun c s1 e => ?_)
  cases c with
  | false => exact isTrue_or_nil e
  | true => exact e
theorem pw_and (ha : PT X a tA) (hb : PW X (.BoolOp .And (b :: rest) pos) tB') : PW X (.BoolOp .And (a :: b :: rest) pos) (tAnd tA tB') := by
  intro wh pins s σ H Q I h
  refine isTrue_and (thn (ha pins s σ H _ I h) fun c s1 ⟨H1, I1, q1⟩ => ?_)
  cases c with
  | true => exact hb wh pins s1 σ H1 Q I1 q1
  | false => exact ⟨H1, I1, q1⟩
theorem pw_or (ha : PT X a tA) (hb : PW X (.BoolOp .Or (b :: rest) pos) tB') : PW X (.BoolOp .Or (a :: b :: rest) pos) (tOr tA tB') := by
  intro wh pins s σ H Q I h
  refine isTrue_or (thn (ha pins s σ H _ I h) fun c s1 ⟨H1, I1, q1⟩ => ?_)
  cases c with
  | true => exact ⟨H1, I1, q1⟩
  | false => exact hb wh pins s1 σ H1 Q I1 q1
theorem pt_not (ha : PT X a tA) : PT X (.UnaryOp .Not a pos) (tNot tA) := by
  intro pins s σ H Q I h
  exact isTrue_not (ha pins s σ H (fun c H1 => Q (!c) H1) I h)
/-- .. as values (bools) -/
def tAndV (ta tb : TE) : TE := fun σ H Q => ta σ H fun x H1 => ∃ c, x = .bl c ∧ if c = true then tb σ H1 Q else Q (.bl false) H1
def tNotV (ta : TE) : TE := fun σ H Q => ta σ H fun x H1 => ∃ c, x = .bl c ∧ Q (.bl (!c)) H1
theorem pe_one {op} {t : TE} (h : PE X a t) : PE X (.BoolOp op [a] pos) t := fun pins s σ H Q I hw => BoolOp_one (h pins s σ H Q I hw)
theorem pe_and (ha : PE X a ta) (hb : PE X (.BoolOp .And (b :: rest) pos) tb) : PE X (.BoolOp .And (a :: b :: rest) pos) (tAndV ta tb) := by
  intro pins s σ H Q I h
  refine BoolOp_and (thn (ha pins s σ H _ I h) fun v s1 ⟨x, H1, I1, r1, q1⟩ => ?_)
  obtain ⟨c, rfl, q1⟩ := q1
  cases r1
  refine wpAny_truthy_bool ?_
  cases c with
  | true => exact hb pins s1 σ H1 Q I1 q1
  | false => exact ⟨.bl false, H1, I1, rfl, q1⟩
theorem pe_not (ha : PE X a ta) : PE X (.UnaryOp .Not a pos) (tNotV ta) := by
  intro pins s σ H Q I h
  refine UnaryOp_ (thn (ha pins s σ H _ I h) fun v s1 ⟨x, H1, I1, r1, q1⟩ => ?_)
  obtain ⟨c, rfl, q1⟩ := q1
  cases r1
  exact not_of (wpAny_truthy_bool ⟨.bl (!c), H1, I1, rfl, q1⟩)
/-- a if t else b -/
def tIf (t : TT) (ta tb : TE) : TE := fun σ H Q => t σ H fun c H1 => if c = true then ta σ H1 Q else tb σ H1 Q
theorem pe_ifExp {c : Expr} (hc : PT X c tA) (ha : PE X a ta) (hb : PE X b tb) : PE X (.IfExp c a b pos) (tIf tA ta tb) := by
  intro pins s σ H Q I h
  refine wpAny_IfExp (thn (hc pins s σ H _ I h) fun d s1 ⟨H1, I1, q1⟩ => ?_)
  cases d with
  | true => exact ha pins s1 σ H1 Q I1 q1
  | false => exact hb pins s1 σ H1 Q I1 q1
end
end L2

namespace L2
open PySem PySem.Spec PyProof.Rows

/-! ### a list, a tuple that is read: tracked, frozen, or an object of the module -/
def SqL (K : PySem.W.Frag) (H : Hp) (a : Addr) (xs : List V) : Prop :=
  Rd H a (.lst xs) ∨
    ∃ (o : Obj) (its : Array Value) (n : Nat), K.lookup a = some o ∧ o.cls = .type "list" ∧ o.dict = none ∧ o.data = .seq its n ∧ its.size ≤ sizeLine ∧ Vals xs its.toList
def SqT (K : PySem.W.Frag) (H : Hp) (a : Addr) (xs : List V) : Prop :=
  Rd H a (.tup xs) ∨
    ∃ (o : Obj) (its : Array Value) (n : Nat), K.lookup a = some o ∧ o.cls = .type "tuple" ∧ o.data = .seq its n ∧ its.size ≤ sizeLine ∧ Vals xs its.toList
def absV : Value → Option V
  | .none => some .non
  | .bool b => some (.bl b)
  | .int i _ => some (.int i)
  | .str x _ => some (.str x)
  | .bytes b _ => some (.byt b)
  | .float b _ => some (.flt b)
  | .ref a => some (.ref a)
  | .type n => some (.ty n)
  | _ => none
theorem RelV.abs {x : V} {u : Value} (r : RelV x u) : absV u = some x := by
  cases x with
  | non => cases r; rfl
  | bl _ => cases r; rfl
  | int _ => obtain ⟨t, rfl⟩ := r; rfl
  | str _ => obtain ⟨t, rfl⟩ := r; rfl
  | byt _ => obtain ⟨t, rfl⟩ := r; rfl
  | flt _ => obtain ⟨t, rfl⟩ := r; rfl
  | ref _ => cases r; rfl
  | ty _ => cases r; rfl
theorem RelV.inj {x y : V} {u : Value} (r : RelV x u) (q : RelV y u) : x = y := Option.some.inj (r.abs.symm.trans q.abs)
theorem Vals.inj : ∀ {xs ys : List V} {us : List Value}, Vals xs us → Vals ys us → xs = ys
  | _, _, _, .nil, .nil => rfl
  | _, _, _, .cons r t, .cons r' t' => by rw [r.inj r', Vals.inj t t']
section
variable {X : Cx} {pins : List (Addr × Obj)} {σ : St} {H : Hp} {s : Shared} {a : Addr} {xs ys : List V}
theorem SqL.of {K : PySem.W.Frag} (h : H a = some (.lst xs)) : SqL K H a xs := .inl (.inl h)
theorem SqT.of {K : PySem.W.Frag} (h : H a = some (.tup xs)) : SqT K H a xs := .inl (.inl h)
theorem Inv.list (I : Inv X pins σ H s) (h : SqL X.K H a xs) : ∃ its : List Value, Vals xs its ∧ PlainL s.heap a its.toArray ∧ xs.length ≤ sizeLine := by
  rcases h with h | ⟨o, its, n, hk, hc, hd, hs, hz, r⟩
  · obtain ⟨z, its, n, r, e⟩ := h.ok I.hok
    exact ⟨its, r, ⟨_, n, e, rfl, rfl, rfl⟩, z⟩
  · refine ⟨its.toList, r, ⟨o, n, I.kIn a o hk, hc, hd, by simpa using hs⟩, ?_⟩
    have e := r.length
    simp only [Array.length_toList] at e
    omega
theorem Inv.tuple (I : Inv X pins σ H s) (h : SqT X.K H a xs) : ∃ its : List Value, Vals xs its ∧ IsTup s.heap a its.toArray ∧ xs.length ≤ sizeLine := by
  rcases h with h | ⟨o, its, n, hk, hc, hs, hz, r⟩
  · obtain ⟨z, its, r, p⟩ := h.ok I.hok
    exact ⟨its, r, p, z⟩
  · refine ⟨its.toList, r, ⟨o, I.kIn a o hk, hc, n, by simpa using hs⟩, ?_⟩
    have e := r.length
    simp only [Array.length_toList] at e
    omega
theorem Inv.list_inj (I : Inv X pins σ H s) (h : SqL X.K H a xs) (h' : SqL X.K H a ys) : xs = ys := by
  obtain ⟨its, r, ⟨o, n, e, _, _, d⟩, _⟩ := I.list h
  obtain ⟨its', r', ⟨o', n', e', _, _, d'⟩, _⟩ := I.list h'
  rw [e] at e'; cases e'
  rw [d] at d'
  injection d' with d1 _
  have : its = its' := by simpa using congrArg Array.toList d1
  subst this
  exact r.inj r'
end

/-! ### another wish about exceptions -/
abbrev Cx.wish (X : Cx) (E : Value → Shared → Prop) : Cx := { X with xe := E }
/-- no exception leaves -/
abbrev Cx.nox (X : Cx) : Cx := X.wish fun _ _ => False
theorem Cx.Ok.wish {X : Cx} (ok : X.Ok) (E : Value → Shared → Prop) : (X.wish E).Ok :=
  ⟨ok.mod, ok.kind, ok.glob, ok.blt, ok.above, ok.inj, ok.has, ok.cab, ok.hd, ok.frames, ok.stk, ok.exf, ok.bs, ok.bsz, ok.noex, ok.exfs, ok.funs, ok.frf⟩
theorem Cx.Ok.unwish {X : Cx} {E : Value → Shared → Prop} (ok : (X.wish E).Ok) : X.Ok :=
  ⟨ok.mod, ok.kind, ok.glob, ok.blt, ok.above, ok.inj, ok.has, ok.cab, ok.hd, ok.frames, ok.stk, ok.exf, ok.bs, ok.bsz, ok.noex, ok.exfs, ok.funs, ok.frf⟩
section
variable {X : Cx} {pins : List (Addr × Obj)} {σ : St} {H : Hp} {s : Shared} {E : Value → Shared → Prop}
theorem Inv.wish (I : Inv X pins σ H s) (E : Value → Shared → Prop) : Inv (X.wish E) pins σ H s := ⟨I.ok.wish E, I.os, I.bare, I.base, I.loc, I.cell, I.free, I.freeC, I.pin, I.hok, I.len⟩
theorem Inv.unwish (I : Inv (X.wish E) pins σ H s) : Inv X pins σ H s := ⟨I.ok.unwish, I.os, I.bare, I.base, I.loc, I.cell, I.free, I.freeC, I.pin, I.hok, I.len⟩
theorem SP.unwish {D : Ends} {f : Flow} {s' : Shared} (h : SP (X.wish E) pins D f s') : SP X pins D f s' := by
  cases f with
  | next => obtain ⟨σ', H', I, q⟩ := h; exact ⟨σ', H', I.unwish, q⟩
  | brk => obtain ⟨σ', H', I, q⟩ := h; exact ⟨σ', H', I.unwish, q⟩
  | cont => obtain ⟨σ', H', I, q⟩ := h; exact ⟨σ', H', I.unwish, q⟩
  | ret u => obtain ⟨v, σ', H', I, r, q⟩ := h; exact ⟨v, σ', H', I.unwish, r, q⟩
theorem PSs.nox {st : List Stmt} {t : TS} (h : PSs X.nox st t) : PSs X st t := fun pins s σ H D I hw =>
  wpAny_mono (h pins s σ H D (I.wish _) hw) (fun _ _ q => q.unwish) fun _ _ z => False.elim z
end

/-! ### blocks and small statements -/
section
variable {X : Cx} {st : Stmt} {rest : List Stmt} {t u : TS} {e : Expr} {te : TE} {pos : Pos}
def tNext : TS := fun D σ H => D.nx σ H
def tSeq (t u : TS) : TS := fun D σ H => t { D with nx := u D } σ H
theorem pss_nil : PSs X [] tNext := fun _ _ σ H _ I h => wpAny_execs_nil ⟨σ, H, I, h⟩
theorem pss_cons (h1 : PS X st t) (h2 : PSs X rest u) : PSs X (st :: rest) (tSeq t u) := by
  intro pins s σ H D I h
  refine wpAny_execs_cons (thn (h1 pins s σ H { D with nx := u D } I h) fun f s1 q => ?_)
  cases f with
  | next =>
    obtain ⟨σ', H', I', q⟩ := q
    exact h2 pins s1 σ' H' D I' q
  | ret v => exact q
  | brk => exact q
  | cont => exact q
theorem pss_one (h1 : PS X st t) : PSs X [st] t := by
  intro pins s σ H D I h
  refine wpAny_execs_cons (thn (h1 pins s σ H D I h) fun f s1 q => ?_)
  cases f with
  | next => exact wpAny_execs_nil q
  | ret v => exact q
  | brk => exact q
  | cont => exact q
/-- in a def's body nothing is shown -/
theorem Inv.quiet {pins : List (Addr × Obj)} {σ : St} {H : Hp} {s : Shared} (I : Inv X pins σ H s) : interactive X.env = false := by simp [interactive, I.ok.kind]
/-- an expression whose value is dropped -/
def tDrop (te : TE) : TS := fun D σ H => te σ H fun _ H1 => D.nx σ H1
theorem ps_expr (he : PE X e te) (hs : swapsWith e none pos.line X.env = pure false := by rfl) : PS X (.Expr e pos) (tDrop te) := by
  intro pins s σ H D I h
  exact wpAny_Expr_any (thn (he pins s σ H _ I h) fun v s1 ⟨x, H1, I1, r1, q1⟩ => ⟨σ, H1, I1, q1⟩) I.quiet hs
def tRet (te : TE) : TS := fun D σ H => te σ H D.rt
theorem ps_ret (he : PE X e te) : PS X (.Return (some e) pos) (tRet te) := by
  intro pins s σ H D I h
  exact wpAny_Return_some (thn (he pins s σ H _ I h) fun v s1 ⟨x, H1, I1, r1, q1⟩ => ⟨x, σ, H1, I1, r1, q1⟩)
def tIfS (c : TT) (t u : TS) : TS := fun D σ H => c σ H fun b H1 => if b = true then t D σ H1 else u D σ H1
theorem ps_if {c : Expr} {a b : List Stmt} {tc : TT} (hc : PT X c tc) (ha : PSs X a t) (hb : PSs X b u) : PS X (.If c a b pos) (tIfS tc t u) := by
  intro pins s σ H D I h
  refine wpAny_If (thn (hc pins s σ H _ I h) fun d s1 ⟨H1, I1, q1⟩ => ?_)
  cases d with
  | true => exact ha pins s1 σ H1 D I1 q1
  | false => exact hb pins s1 σ H1 D I1 q1
end

/-! ### targets -/
abbrev TG := V → St → Hp → (St → Hp → Prop) → Prop
abbrev TGs := List V → St → Hp → (St → Hp → Prop) → Prop
def PG (X : Cx) (target : Expr) (t : TG) : Prop :=
  ∀ (pins : List (Addr × Obj)) (s : Shared) (σ : St) (H : Hp) (v : V) (u : Value) (Q : St → Hp → Prop), Inv X pins σ H s → RelV v u → t v σ H Q →
    wpAny (model X.prog X.w) X.A (assign target X.env u) (fun _ s' => ∃ σ' H', Inv X pins σ' H' s' ∧ Q σ' H') X.xe s
/-- several targets, one after another -/
def PGs (X : Cx) (ts : List Expr) (t : TGs) : Prop :=
  ∀ (pins : List (Addr × Obj)) (s : Shared) (σ : St) (H : Hp) (vs : List V) (us : List Value) (Q : St → Hp → Prop), Inv X pins σ H s → Vals vs us → t vs σ H Q →
    wpAny (model X.prog X.w) X.A (assignInOrder ((assignEach ts X.env).map (·.2)) us) (fun _ s' => ∃ σ' H', Inv X pins σ' H' s' ∧ Q σ' H') X.xe s
/-- o[i] = v, by values -/
abbrev TSet := V → V → V → Hp → (Hp → Prop) → Prop
def PSet (X : Cx) (t : TSet) : Prop :=
  ∀ (pins : List (Addr × Obj)) (s : Shared) (σ : St) (H : Hp) (o i v : V) (ov iv u : Value) (Q : Hp → Prop), Inv X pins σ H s → RelV o ov → RelV i iv → RelV v u → t o i v H Q →
    wpAny (model X.prog X.w) X.A (setItem ov iv u) (fun _ s' => ∃ H', Inv X pins σ H' s' ∧ Q H') X.xe s
/-- a op= b, by values -/
abbrev TIp := V → V → Hp → VK → Prop
def PIp (X : Cx) (op : Operator) (t : TIp) : Prop :=
  ∀ (pins : List (Addr × Obj)) (s : Shared) (σ : St) (H : Hp) (x y : V) (v u : Value) (Q : VK), Inv X pins σ H s → RelV x v → RelV y u → t x y H Q →
    wpAny (model X.prog X.w) X.A (inplaceOp op v u) (EP X pins σ Q) X.xe s
section
variable {X : Cx} {pos : Pos}
def gName (i : Nat) : TG := fun v σ H Q => Q (σ.set i (some v)) H
theorem pg_name {i : Nat} {x : Str} (hN : X.N.Nodup) (hi : X.N[i]? = some x) (hx : Loc X.env.scope x) (hf : X.fn x = true ∨ X.env.scope.names.lookup x = some .local := by first | exact .inl rfl | exact .inr rfl | assumption) : PG X (.Name x pos) (gName i) := by
  intro pins s σ H v u Q I r h
  exact wpAny_assign_Name (store_ok I hN hi hx r (fun s' I' => ⟨_, H, I', h⟩) hf)
def gNil : TGs := fun vs σ H Q => vs = [] ∧ Q σ H
def gCons (t : TG) (u : TGs) : TGs := fun vs σ H Q => ∃ v r, vs = v :: r ∧ t v σ H fun σ' H' => u r σ' H' Q
theorem pgs_nil : PGs X [] gNil := by
  intro pins s σ H vs us Q I r h
  obtain ⟨e, h⟩ := h
  subst e
  cases r
  exact assignInOrder_nil ⟨σ, H, I, h⟩
theorem pgs_cons {e : Expr} {es : List Expr} {t : TG} {u : TGs} (h1 : PG X e t) (h2 : PGs X es u)
    (hs : (assignEach (e :: es) X.env).map (·.2) = assign e X.env :: (assignEach es X.env).map (·.2) := by rfl) : PGs X (e :: es) (gCons t u) := by
  intro pins s σ H vs us Q I r h
  obtain ⟨v, vr, e1, h⟩ := h
  subst e1
  cases r with
  | cons r rr =>
    rw [hs]
    refine assignInOrder_cons (thn (h1 pins s σ H _ _ _ I r h) fun _ s1 ⟨σ1, H1, I1, q1⟩ => ?_)
    exact h2 pins s1 σ1 H1 _ _ Q I1 rr q1
/-- (a, b, ..) = a tuple of that length -/
def gTup (K : PySem.W.Frag) (n : Nat) (t : TGs) : TG := fun v σ H Q => ∃ a xs, v = .ref a ∧ SqT K H a xs ∧ xs.length = n ∧ t xs σ H Q
theorem pg_tup {es : List Expr} {k : Nat} {t : TGs} {n : Nat} (hc : X.calm = true) (h : PGs X es t)
    (hn : (assignEach es X.env).length = n := by rfl) (hst : (assignEach es X.env).findIdx? (·.1) = none := by rfl) : PG X (.Tuple es k pos) (gTup X.K n t) := by
  intro pins s σ H v u Q I r hw
  obtain ⟨a, xs, e1, hq, hl, hw⟩ := hw
  subst e1
  cases r
  obtain ⟨its, rv, ht, hz⟩ := I.tuple hq
  refine assign_Tuple_tuple (I.ok.hd hc) ht (by simp [hn, ← hl, rv.length]) hst fun h' hx => ?_
  have I1 : Inv X pins σ H { s with heap := h' } := I.kept (t' := s.toks) fun b o e => hx b o (Nat.ne_of_lt (Heap.lt_size e)) e
  exact h pins _ σ H xs _ Q I1 (by simpa using rv) hw
/-- o[i] = .. -/
def gSub (to ti : TE) (t : TSet) : TG := fun v σ H Q => to σ H fun o H1 => ti σ H1 fun i H2 => t o i v H2 fun H3 => Q σ H3
theorem pg_sub {o i : Expr} {to ti : TE} {t : TSet} (ho : PE X o to) (hi : PE X i ti) (hs : PSet X t)
    (ha : ∀ v, assign (.Subscript o i pos) X.env v = (do
      let ov ← holding [v] (eval o X.env)
      let iv ← holding [v, ov] (eval i X.env)
      standAt pos
      holding [v, ov, iv] (setItem ov iv v)
      release [v, ov, iv] []) := by intro _; rfl) : PG X (.Subscript o i pos) (gSub to ti t) := by
  intro pins s σ H v u Q I r h
  rw [ha]
  refine wpAny_bind (wpAny_holding (thn (ho pins s σ H _ I h) fun ov s1 ⟨x, H1, I1, r1, q1⟩ => ?_))
  refine wpAny_bind (wpAny_holding (thn (hi pins s1 σ H1 _ I1 q1) fun iv s2 ⟨y, H2, I2, r2, q2⟩ => ?_))
  refine wpAny_bind (wpAny_standAt (wpAny_bind (wpAny_holding (thn (hs pins s2 σ H2 x y v ov iv u _ I2 r1 r2 r q2) fun _ s3 ⟨H3, I3, q3⟩ => ?_))))
  exact wpAny_release ⟨σ, H3, I3, q3⟩
/-- target = value -/
def tAsg (te : TE) (g : TG) : TS := fun D σ H => te σ H fun x H1 => g x σ H1 D.nx
theorem ps_asg {tg e : Expr} {te : TE} {g : TG} (he : PE X e te) (hg : PG X tg g) (hs : swapsWithSole [tg] e pos.line X.env = pure false := by rfl) (hw : swappedStores [tg] e X.env = pure none := by rfl)
    (h1 : (assignEach [tg] X.env).map (·.2) = [assign tg X.env] := by rfl) : PS X (.Assign [tg] e pos) (tAsg te g) := by
  intro pins s σ H D I h
  refine wpAny_Assign_stores (thn (he pins s σ H _ I h) fun v s1 ⟨x, H1, I1, r1, q1⟩ => ?_) hs hw
  rw [h1]
  exact thn (hg pins s1 σ H1 x v _ I1 r1 q1) fun _ s2 q => q
/-- name = value -/
theorem ps_set {i : Nat} {x : Str} {e : Expr} {te : TE} {pos' : Pos} (hN : X.N.Nodup) (hi : X.N[i]? = some x) (hx : Loc X.env.scope x) (he : PE X e te) (hs : swapsWith e (some (.Name x pos')) pos.line X.env = pure false := by rfl) (hf : X.fn x = true ∨ X.env.scope.names.lookup x = some .local := by first | exact .inl rfl | exact .inr rfl | assumption) :
    PS X (.Assign [.Name x pos'] e pos) (tAsg te (gName i)) := by
  intro pins s σ H D I h
  refine wpAny_Assign_Name (thn (he pins s σ H _ I h) fun v s1 ⟨y, H1, I1, r1, q1⟩ => ?_) hs
  exact store_ok I1 hN hi hx r1 (fun s2 I2 => ⟨_, H1, I2, q1⟩) hf
/-- a, b = x, y with plain local names: stored from the right; the pair itself is not tracked (the opening rows as in PyProof/Rows/TupAssign.lean:23) -/
def tPar (i j : Nat) (ta : TA) : TS := fun D σ H => ta σ H fun vs H1 => ∃ v w, vs = [v, w] ∧ D.nx ((σ.set i (some v)).set j (some w)) H1
theorem ps_par {i j : Nat} {x y : Str} {a b : Expr} {ta : TA} {px py pt : Pos} {kt k2 pt2} (hc : X.calm = true) (hN : X.N.Nodup) (hi : X.N[i]? = some x) (hj : X.N[j]? = some y) (hij : i ≠ j)
    (hx : X.env.scope.names.lookup x = some .local) (hy : X.env.scope.names.lookup y = some .local) (ha : PA X [a, b] ta)
    (hw : swappedStores [.Tuple [.Name x px, .Name y py] kt pt] (.Tuple [a, b] k2 pt2) X.env = pure (some [x, y]))
    (hs : swapsWithSole [.Tuple [.Name x px, .Name y py] kt pt] (.Tuple [a, b] k2 pt2) pos.line X.env = pure false := by rfl) :
    PS X (.Assign [.Tuple [.Name x px, .Name y py] kt pt] (.Tuple [a, b] k2 pt2) pos) (tPar i j ta) := by
  intro pins s σ H D I h
  rw [exec_Assign_arm]
  refine wpAny_bind (wpAny_standAt ?_)
  rw [hs]
  refine wpAny_bind (wpAny_pure ?_)
  rw [if_neg (by decide)]
  refine wpAny_bind (Tuple_ (thn (ha _ pins s σ H _ I h) fun us s1 ⟨vs, H1, I1, r1, q1⟩ => ?_))
  obtain ⟨v, w, e1, q1⟩ := q1
  subst e1
  obtain ⟨u1, u2, rfl, rv, rw'⟩ : ∃ u1 u2, us = [u1, u2] ∧ RelV v u1 ∧ RelV w u2 := by
    cases r1 with
    | cons p q =>
      cases q with
      | cons p' q' =>
        cases q'
        exact ⟨_, _, rfl, p, p'⟩
  refine wpAny_newObj_type ?_ (by show 2 ≤ sizeLine; decide)
  have I2 : Inv X pins σ H1 { s1 with heap := s1.heap.push { cls := .type "tuple", data := .seq [u1, u2].toArray } } := I1.kept (t' := s1.toks) fun b o e => Heap.get?_push_of_some _ e
  rw [hw]
  refine wpAny_bind (wpAny_pure ?_)
  show wpAny (model X.prog X.w) X.A (do rule "assign.swapped-stores"; let items ← unpackItems (.ref s1.heap.objs.size) 2 none; assignInOrder [fun v => bindName X.env y v, fun v => bindName X.env x v] items.reverse; pure Flow.next) _ _ _
  refine wpAny_bind (wpAny_rule (wpAny_bind (unpackItems_tuple (items := #[u1, u2]) (I.ok.hd hc) (IsTup.new s1.heap _) fun h' hx' => ?_)))
  have I3 := I2.kept (h' := h') (t' := s1.toks) fun b o e => hx' b o (Nat.ne_of_lt (Heap.lt_size e)) e
  show wpAny _ _ (assignInOrder [fun v => bindName X.env y v, fun v => bindName X.env x v] [u2, u1] >>= fun _ => pure Flow.next) _ _ _
  refine wpAny_bind (assignInOrder_cons (wpAny_bindName (store_ok I3 hN hj (.inl hy) rw' (fun s2 I4 => ?_) (.inr hy))))
  refine assignInOrder_cons (wpAny_bindName (store_ok I4 hN hi (.inl hx) rv (fun s3 I5 => assignInOrder_nil (wpAny_pure ?_)) (.inr hx)))
  rw [List.set_comm _ _ (Ne.symm hij)] at I5
  exact ⟨_, H1, I5, q1⟩
/-- name op= e -/
def tAug (i : Nat) (te : TE) (ti : TIp) : TS := fun D σ H => ∃ x, σ[i]? = some (some x) ∧ te σ H fun y H1 => ti x y H1 fun z H2 => D.nx (σ.set i (some z)) H2
theorem ps_aug {i : Nat} {x : Str} {e : Expr} {te : TE} {op : Operator} {ti : TIp} {pos' : Pos} (hN : X.N.Nodup) (hi : X.N[i]? = some x) (hx : Loc X.env.scope x) (he : PE X e te) (ho : PIp X op ti) (hf : X.fn x = true ∨ X.env.scope.names.lookup x = some .local := by first | exact .inl rfl | exact .inr rfl | assumption) :
    PS X (.AugAssign (.Name x pos') op e pos) (tAug i te ti) := by
  intro pins s σ H D I h
  obtain ⟨v, e1, h⟩ := h
  obtain ⟨m, hn, hl⟩ := I.loc
  have vis : Vis X.env.scope x := by rcases hx with k | k; exact .inl k; exact .inr (.inl k)
  obtain ⟨u, r, l⟩ := hl i x v hi e1 vis
  refine wpAny_AugAssign_Name ?_
  have go : wpAny (model X.prog X.w) X.A (eval e X.env) (fun w s₂ => wpAny (model X.prog X.w) X.A (inplaceOp op u w) (fun r s₃ => wpAny (model X.prog X.w) X.A (storeName X.env x r) (fun _ => SP X pins D .next) X.xe s₃) X.xe s₂) X.xe s := by
    refine thn (he pins s σ H _ I h) fun w s1 ⟨y, H1, I1, r1, q1⟩ => ?_
    refine thn (ho pins s1 σ H1 v y u w _ I1 r r1 q1) fun z s2 ⟨zv, H2, I2, r2, q2⟩ => ?_
    exact store_ok I2 hN hi hx r2 (fun s3 I3 => ⟨_, H2, I3, q2⟩) hf
  rcases l with ⟨hk, hm⟩ | ⟨hk, c, hc, hcell⟩
  · exact wpAny_loadName_local I.ok.kind hk hn hm go
  · rcases hk with hk | hk
    · exact wpAny_loadName_cell I.ok.kind hk hc hcell go
    · rcases hx with k | k
      · have : X.env.scope.names.lookup x = some .free := hk
        rw [k] at this; cases this
      · have : X.env.scope.names.lookup x = some .free := hk
        rw [k] at this; cases this
/-- o[i] op= e -/
def tAugS (to ti te : TE) (tget : V → V → Hp → VK → Prop) (tip : TIp) (tset : TSet) : TS := fun D σ H => to σ H fun o H1 => ti σ H1 fun i H2 => tget o i H2 fun x H3 => te σ H3 fun y H4 => tip x y H4 fun z H5 => tset o i z H5 fun H6 => D.nx σ H6
/-- o[i], by values -/
def PGet (X : Cx) (t : V → V → Hp → VK → Prop) : Prop :=
  ∀ (pins : List (Addr × Obj)) (s : Shared) (σ : St) (H : Hp) (o i : V) (ov iv : Value) (Q : VK), Inv X pins σ H s → RelV o ov → RelV i iv → t o i H Q →
    wpAny (model X.prog X.w) X.A (getItem ov iv) (EP X pins σ Q) X.xe s
theorem ps_augS {o i e : Expr} {to ti te : TE} {tget : V → V → Hp → VK → Prop} {tip : TIp} {tset : TSet} {op : Operator} {tpos : Pos} (ho : PE X o to) (hi : PE X i ti) (hg : PGet X tget) (he : PE X e te) (hp : PIp X op tip) (hs : PSet X tset)
    (ha : ∀ ov iv new, augStore i ov iv new = (do holding [new, ov, iv] (setItem ov iv new); release [new, ov, iv] []; pure .next) := by intros; rfl) : PS X (.AugAssign (.Subscript o i tpos) op e pos) (tAugS to ti te tget tip tset) := by
  intro pins s σ H D I h
  refine wpAny_AugAssign_SubscriptAny (thn (ho pins s σ H _ I h) fun ov s1 ⟨x1, H1, I1, r1, q1⟩ => ?_) ha
  refine thn (hi pins s1 σ H1 _ I1 q1) fun iv s2 ⟨x2, H2, I2, r2, q2⟩ => ?_
  refine thn (hg pins s2 σ H2 x1 x2 ov iv _ I2 r1 r2 q2) fun old s3 ⟨x3, H3, I3, r3, q3⟩ => ?_
  refine thn (he pins s3 σ H3 _ I3 q3) fun v s4 ⟨x4, H4, I4, r4, q4⟩ => ?_
  refine thn (hp pins s4 σ H4 x3 x4 old v _ I4 r3 r4 q4) fun new s5 ⟨x5, H5, I5, r5, q5⟩ => ?_
  exact thn (hs pins s5 σ H5 x1 x2 x5 ov iv new _ I5 r1 r2 r5 q5) fun _ s6 ⟨H6, I6, q6⟩ => ⟨σ, H6, I6, q6⟩
/-- ints -/
def ipI (f : Int → Int → Int) : TIp := fun x y H Q => ∃ i j, x = .int i ∧ y = .int j ∧ Q (.int (f i j)) H
theorem ip_add : PIp X .Add (ipI fun i j => i + j) := by
  intro pins s σ H x y v u Q I r1 r2 h
  obtain ⟨i, j, e1, e2, q⟩ := h
  subst e1; subst e2
  obtain ⟨t, rfl⟩ := r1
  obtain ⟨t', rfl⟩ := r2
  exact iadd_int ⟨.int _, H, I.tok _, ⟨_, rfl⟩, q⟩
theorem ip_sub : PIp X .Sub (ipI fun i j => i - j) := by
  intro pins s σ H x y v u Q I r1 r2 h
  obtain ⟨i, j, e1, e2, q⟩ := h
  subst e1; subst e2
  obtain ⟨t, rfl⟩ := r1
  obtain ⟨t', rfl⟩ := r2
  exact isub_int ⟨.int _, H, I.tok _, ⟨_, rfl⟩, q⟩
end

/-! ### while -/
section
variable {X : Cx} {pos : Pos}
/-- the invariant W with its measure -/
def tWhile (c : TT) (tb : TS) : TS := fun D σ H => ∃ W : Nat → St → Hp → Prop, (∃ m, W m σ H) ∧ ∀ m σ H, W m σ H →
  c σ H fun b H1 => if b = true then ∃ N : St → Hp → Prop, (∀ σ' H', N σ' H' → ∃ m', m' < m ∧ W m' σ' H') ∧ tb { D with nx := N, ct := N, bk := D.nx } σ H1 else D.nx σ H1
theorem ps_while {c : Expr} {body : List Stmt} {tc : TT} {tb : TS} (hp : PassesOwn (model X.prog X.w) X.A X.env X.xe) (hc : PT X c tc) (hb : PSs X body tb) : PS X (.While c body [] pos) (tWhile tc tb) := by
  intro pins s σ H D I h
  obtain ⟨W, ⟨m0, w0⟩, turn⟩ := h
  refine wpAny_While (codeAny_whileLoop (fun n s' => ∃ σ' H', Inv X pins σ' H' s' ∧ W n σ' H') ?_ m0 ⟨σ, H, I, w0⟩)
  rintro n s1 ⟨σ1, H1, I1, w1⟩
  refine wpAny_passesOwn hp (thn (hc pins s1 σ1 H1 _ I1 (turn n σ1 H1 w1)) fun b s2 ⟨H2, I2, q2⟩ => ?_)
  cases b with
  | true =>
    obtain ⟨N, hN, q2⟩ := q2
    rw [if_pos rfl]
    refine wpAny_passesOwn hp (thn (hb pins s2 σ1 H2 _ I2 q2) fun f s3 q3 => ?_)
    cases f with
    | next =>
      obtain ⟨σ3, H3, I3, n3⟩ := q3
      obtain ⟨m', hm, w3⟩ := hN σ3 H3 n3
      exact ⟨m', hm, σ3, H3, I3, w3⟩
    | cont =>
      obtain ⟨σ3, H3, I3, n3⟩ := q3
      obtain ⟨m', hm, w3⟩ := hN σ3 H3 n3
      exact ⟨m', hm, σ3, H3, I3, w3⟩
    | brk => exact q3
    | ret v => exact q3
  | false =>
    rw [if_neg Bool.false_ne_true]
    exact wpAny_execs_nil ⟨σ1, H2, I2, q2⟩
end

/-! ### what a loop or a comprehension walks -/
/-- at turn i: it yields x (the heap may grow), or it stops -/
structure It where
  go : Nat → Hp → Prop
  yld : Nat → Hp → V → Hp → Prop
  stop : Nat → Hp → Prop
/-- the iterator's own objects may turn: they are not the frame's, not pinned, younger than the entry (or a comprehension's own) -/
def FpOk (X : Cx) (pins : List (Addr × Obj)) (H : Hp) (b : Addr) : Prop :=
  H b = none ∧ b ≠ X.env.locals ∧ b ∉ X.fs ∧ (b ∈ X.ex ∨ X.s₀.heap.objs.size ≤ b) ∧ (∀ x c, X.env.cells.lookup x = some c → c ≠ b) ∧ ∀ p ∈ X.pn ++ pins, p.1 ≠ b
theorem Inv.fpOk {X : Cx} {pins : List (Addr × Obj)} {σ : St} {H H' : Hp} {s : Shared} {b : Addr} (I : Inv X pins σ H s) (hb : s.heap.objs.size ≤ b) (hn : H' b = none) : FpOk X pins H' b := by
  refine ⟨hn, Nat.ne_of_gt (Nat.lt_of_lt_of_le I.lt hb), I.nofs hb, .inr (Nat.le_trans I.sz hb), fun x c e z => ?_, fun p hp z => ?_⟩
  · obtain ⟨v, q⟩ := I.cell x c e
    exact absurd (Nat.lt_of_lt_of_le q.lt (by rw [z]; exact hb)) (Nat.lt_irrefl _)
  · exact absurd (Nat.lt_of_lt_of_le (Heap.lt_size (I.pin p hp).1) (by rw [z]; exact hb)) (Nat.lt_irrefl _)
structure Turn (P : Program) (w : World) (K : PySem.W.Frag) (tg : Expr) (J : It) (fp : List Addr) (it : Addr) (tn : Nat → Heap → Prop) : Prop where
  mem : it ∈ fp
  obj : ∀ i h, tn i h → ∀ b ∈ fp, ∃ o, h.get? b = some o ∧ ∀ v, o.data ≠ .cell v
  keep : ∀ i h h', tn i h → (∀ b ∈ fp, ∀ o, h.get? b = some o → h'.get? b = some o) → tn i h'
  item : ∀ (X : Cx), X.prog = P → X.w = w → X.K = K → X.calm = true → ∀ (i : Nat) (pins : List (Addr × Obj)) (s : Shared) (σ : St) (H : Hp) (E : Value → Shared → Prop), Inv X pins σ H s → (∀ b ∈ fp, FpOk X pins H b) → tn i s.heap → J.go i H →
    wpAny (model P w) X.A (pyNext (.ref it)) (fun r s1 => ∃ u, r = some u ∧
      wpAny (model P w) X.A (letOwnedTupleGo tg (.ref it) u) (fun _ s2 => ∃ x H', Inv X pins σ H' s2 ∧ RelV x u ∧ J.yld i H x H' ∧ tn (i + 1) s2.heap ∧ ∀ b ∈ fp, H' b = none) E s1) E s
  done : ∀ (X : Cx), X.prog = P → X.w = w → X.K = K → X.calm = true → ∀ (i : Nat) (pins : List (Addr × Obj)) (s : Shared) (σ : St) (H : Hp) (E : Value → Shared → Prop), Inv X pins σ H s → (∀ b ∈ fp, FpOk X pins H b) → tn i s.heap → J.stop i H →
    wpAny (model P w) X.A (pyNext (.ref it)) (fun r s1 => r = none ∧ Inv X pins σ H s1) E s
  self : ∀ (A : Around) (i : Nat) (s : Shared) (Q : Value → Shared → Prop) (E : Value → Shared → Prop), tn i s.heap → Q (.ref it) s → wpAny (model P w) A (pyIter (.ref it)) Q E s
abbrev TI := St → Hp → (It → Hp → Prop) → Prop
/-- an iterator has come -/
def PIE (X : Cx) (pins : List (Addr × Obj)) (σ : St) (tg : Expr) (R : It → Hp → Prop) (itv : Value) (s2 : Shared) : Prop :=
  ∃ (it : Addr) (fp : List Addr) (tn : Nat → Heap → Prop) (J : It) (H' : Hp), itv = .ref it ∧ Inv X pins σ H' s2 ∧ Turn X.prog X.w X.K tg J fp it tn ∧ tn 0 s2.heap ∧ (∀ b ∈ fp, FpOk X pins H' b) ∧ R J H'
def PI (X : Cx) (tg iter : Expr) (wi : TI) : Prop :=
  ∀ (pins : List (Addr × Obj)) (s : Shared) (σ : St) (H : Hp) (R : It → Hp → Prop), Inv X pins σ H s → wi σ H R →
    wpAny (model X.prog X.w) X.A (eval iter X.env) (fun v s1 => wpAny (model X.prog X.w) X.A (pyIter v) (PIE X pins σ tg R) X.xe s1) X.xe s

/-- the step ahead of the store is nothing for an iterator that keeps no tuple -/
theorem go_of {M : Model} {A : Around} {E : Value → Shared → Prop} {s : Shared} {tg : Expr} {it : Addr} {u : Value} {o : Obj} {n : String} {vs : Array Value} {Q : Unit → Shared → Prop} (ho : s.heap.get? it = some o) (hc : o.cls = .type n) (hd : o.data = .fields vs)
    (hn : ["enumerate", "zip", "dict_itemiterator", "dict_reverseitemiterator", "odict_iterator", "itertools.zip_longest", "itertools.pairwise"].contains n = false) (hQ : Q () s) : wpAny M A (letOwnedTupleGo tg (.ref it) u) Q E s := by
  unfold letOwnedTupleGo
  cases tg <;> first
    | exact wpAny_pure hQ
    | (cases u <;> first
        | exact wpAny_pure hQ
        | (refine wpAny_bind (wpAny_load ho ?_)
           rw [hc, hd]
           show wpAny M A (if (["enumerate", "zip", "dict_itemiterator", "dict_reverseitemiterator", "odict_iterator", "itertools.zip_longest", "itertools.pairwise"].contains n && vs[0]? == some (rawInt _)) = true then _ else _) Q E s
           rw [if_neg (by intro h; rw [hn, Bool.false_and] at h; cases h)]
           exact wpAny_pure hQ))

/-- the list at a, as it stands at each turn (a loop may append to it) -/
def Itl (K : PySem.W.Frag) (a : Addr) : It :=
  ⟨fun i H => ∃ xs x, SqL K H a xs ∧ xs[i]? = some x, fun i H x H' => H' = H ∧ ∀ xs, SqL K H a xs → xs[i]? = some x, fun i H => ∃ xs, SqL K H a xs ∧ xs.length ≤ i⟩
/-- lo, lo + 1, .. (n of them) -/
def Itr (lo : Int) (n : Nat) : It := ⟨fun i _ => i < n, fun i H x H' => H' = H ∧ x = .int (lo + i), fun i _ => n ≤ i⟩
theorem turn_list {P : Program} {w : World} {K : PySem.W.Frag} {tg : Expr} (a it : Addr) : Turn P w K tg (Itl K a) [it] it (fun i h => h.IsListIter it a i) where
  mem := by simp
  obj := fun i h st b hb => by
    have e : b = it := by simpa using hb
    subst e
    obtain ⟨o, e, c, d⟩ := st
    exact ⟨o, e, fun v z => by rw [d] at z; cases z⟩
  keep := fun i h h' st k => st.at fun o e => k it (by simp) o e
  item := by
    intro X hP hw hK hc i pins s σ H E I hf st hg
    subst hP hw hK
    obtain ⟨xs, x, hq, hx⟩ := hg
    obtain ⟨its, rv, p, hz⟩ := I.list hq
    obtain ⟨u, hu, ru⟩ := rv.get hx
    obtain ⟨f0, f1, f2, f3, f4, f5⟩ := hf it (by simp)
    refine wpAny_pyNext_list_item st p.isList (x := u) (by simpa using hu) fun h' st' sb => ?_
    have I1 : Inv X pins σ H { s with heap := h' } := I.turned (t' := s.toks) (fun b o hb e => (sb.2 b hb).trans e) f0 f1 f3 f4 f5
    obtain ⟨o, e, c, d⟩ := id st'
    exact ⟨u, rfl, go_of (s := { s with heap := h' }) e c d (by decide) ⟨x, H, I1, ru, ⟨rfl, fun ys hy => by rw [I.list_inj hy hq]; exact hx⟩, st', fun b hb => (hf b hb).1⟩⟩
  done := by
    intro X hP hw hK hc i pins s σ H E I hf st hg
    subst hP hw hK
    obtain ⟨xs, hq, hx⟩ := hg
    obtain ⟨its, rv, p, hz⟩ := I.list hq
    obtain ⟨f0, f1, f2, f3, f4, f5⟩ := hf it (by simp)
    have hl := rv.length
    exact wpAny_pyNext_list_end (I.ok.hd hc) st p.isList (by simp; omega) fun h' eb => ⟨rfl, I.turned (t' := s.toks) (fun b o hb e => eb b o hb e) f0 f1 f3 f4 f5⟩
  self := fun _ _ _ _ _ st h => wpAny_pyIter_listiter st h
theorem turn_range {P : Program} {w : World} {K : PySem.W.Frag} {tg : Expr} (it : Addr) (lo : Int) (n : Nat) : Turn P w K tg (Itr lo n) [it] it (fun i h => IsRangeIter h it (lo + (i : Nat) * 1) ((n : Int) - (i : Nat)) 1) where
  mem := by simp
  obj := fun i h st b hb => by
    have e : b = it := by simpa using hb
    subst e
    exact ⟨_, st, fun v z => by
      have z' : Data.fields _ = Data.cell v := z
      cases z'⟩
  keep := fun i h h' st k => k it (by simp) _ st
  item := by
    intro X hP hw hK hc i pins s σ H E I hf st hg
    subst hP hw hK
    obtain ⟨f0, f1, f2, f3, f4, f5⟩ := hf it (by simp)
    have W := Walks.range (prog := X.prog) (w := X.w) (I.ok.hd hc) it lo 1 n
    refine W.item i s _ _ hg st fun v h' tk hv st' kk => ?_
    obtain ⟨t, rfl⟩ := hv
    have I1 : Inv X pins σ H { s with heap := h', toks := tk } := I.turned (fun b o hb e => kk b o (by simpa using hb) e) f0 f1 f3 f4 f5
    refine ⟨_, rfl, go_of (s := { s with heap := h', toks := tk }) (n := "range_iterator") st' rfl rfl (by decide) ⟨.int (lo + i), H, I1, ⟨t, ?_⟩, ⟨rfl, rfl⟩, st', fun b hb => (hf b hb).1⟩⟩
    rw [Int.mul_one]
  done := by
    intro X hP hw hK hc i pins s σ H E I hf st hg
    subst hP hw hK
    obtain ⟨f0, f1, f2, f3, f4, f5⟩ := hf it (by simp)
    exact wpAny_pyNext_range_end (I.ok.hd hc) st (by have : n ≤ i := hg; omega) fun h' eb => ⟨rfl, I.turned (t' := s.toks) (fun b o hb e => eb b o hb e) f0 f1 f3 f4 f5⟩
  self := fun _ _ _ _ _ st h => wpAny_pyIter_rangeiter st h
end L2

namespace L2
open PySem PySem.Spec PyProof.Rows
section
variable {X : Cx} {tg : Expr}
def iList (K : PySem.W.Frag) (tl : TE) : TI := fun σ H R => tl σ H fun x H1 => ∃ a, x = .ref a ∧ (∃ xs, SqL K H1 a xs) ∧ R (Itl K a) H1
theorem pi_list {l : Expr} {tl : TE} (hl : PE X l tl) : PI X tg l (iList X.K tl) := by
  intro pins s σ H R I h
  refine thn (hl pins s σ H _ I h) fun v s1 ⟨x, H1, I1, r1, q1⟩ => ?_
  obtain ⟨a, e, ⟨xs, hq⟩, q⟩ := q1
  subst e
  cases r1
  obtain ⟨its, rv, p, hz⟩ := I1.list hq
  refine wpAny_pyIter_list p.isList ?_
  refine ⟨s1.heap.objs.size, [s1.heap.objs.size], _, _, H1, rfl, I1.kept (t' := s1.toks) fun b o e => Heap.get?_push_of_some _ e, turn_list a _, ⟨_, Heap.get?_push_size _ rfl, rfl, rfl⟩, fun b hb => ?_, q⟩
  have e : b = s1.heap.objs.size := by simpa using hb
  subst e
  exact I1.fpOk (Nat.le_refl _) (I1.hok.fresh (Nat.le_refl _))
/-- a range object just made, walked -/
theorem range_it {pins : List (Addr × Obj)} {σ : St} {H : Hp} {s : Shared} {R : It → Hp → Prop} {E : Value → Shared → Prop} {lo hi : Int} {t u v : Tok} {tk : Nat} (I : Inv X pins σ H s) (h1 : -(2 ^ 62) ≤ lo) (h2 : lo < 2 ^ 62) (h3 : -(2 ^ 62) ≤ hi) (h4 : hi < 2 ^ 62)
    (q : R (Itr lo (hi - lo).toNat) H) : wpAny (model X.prog X.w) X.A (pyIter (.ref s.heap.objs.size)) (PIE X pins σ tg R) E { s with heap := s.heap.push { cls := .type "range", data := .fields #[.int lo t, .int hi u, .int 1 v] }, toks := tk } := by
  refine wpAny_pyIter_range (IsRange.new ..) (small_one h1 h2 h3 h4) ?_
  have I1 : Inv X pins σ H { s with heap := s.heap.push { cls := .type "range", data := .fields #[.int lo t, .int hi u, .int 1 v] }, toks := tk } := I.kept fun b o e => Heap.get?_push_of_some _ e
  refine ⟨(s.heap.push { cls := .type "range", data := .fields #[.int lo t, .int hi u, .int 1 v] }).objs.size, [(s.heap.push { cls := .type "range", data := .fields #[.int lo t, .int hi u, .int 1 v] }).objs.size], _, _, H, rfl,
    I1.kept (t' := tk) fun b o e => Heap.get?_push_of_some _ e, turn_range _ lo (hi - lo).toNat, ?_, fun b hb => ?_, q⟩
  · have e1 : lo + ((0 : Nat) : Int) * 1 = lo := by simp
    have e2 : (((hi - lo).toNat : Nat) : Int) - ((0 : Nat) : Int) = Builtin.Range.rangeSize lo hi 1 := by rw [rangeSize_one]; split <;> omega
    show IsRangeIter _ _ (lo + ((0 : Nat) : Int) * 1) ((((hi - lo).toNat : Nat) : Int) - ((0 : Nat) : Int)) 1
    rw [e1, e2]
    exact Heap.get?_push_size _ rfl
  · have e : b = (s.heap.push { cls := .type "range", data := .fields #[.int lo t, .int hi u, .int 1 v] }).objs.size := by simpa using hb
    subst e
    exact I1.fpOk (Nat.le_refl _) (I1.hok.fresh (Nat.le_refl _))
def iRng1 (ta : TA) : TI := fun σ H R => ta σ H fun vs H1 => ∃ j : Int, vs = [.int j] ∧ -(2 ^ 62) ≤ j ∧ j < 2 ^ 62 ∧ R (Itr 0 j.toNat) H1
theorem pi_range1 {a : Expr} {ta : TA} {p pos : Pos} (hg : Gl X "range") (hm : X.mg "range" = none) (ha : PA X [a] ta) (hs : starEach [a] X.env = [(false, eval a X.env)] := by rfl) : PI X tg (.Call (.Name "range" p) [a] [] pos) (iRng1 ta) := by
  intro pins s σ H R I h
  refine Call_ (ld_blt I hg hm boot_range (PyProof.Rows.callWith_type1 (thn (ha pos pins s σ H _ I h) fun us s1 ⟨vs, H1, I1, r1, q1⟩ => ?_) hs rfl))
  obtain ⟨j, e, q1, q2, q⟩ := q1
  subst e
  cases r1 with
  | cons r rr =>
    cases rr
    obtain ⟨t, rfl⟩ := r
    exact call_range_1 (range_it I1 (by omega) (by omega) q1 q2 (by simpa using q))

/-! ### for -/
/-- W: the invariant by the turn and a measure; N: what the body is to reach -/
def tFor (wi : TI) (g : TG) (tb : TS) : TS := fun D σ H => wi σ H fun J H1 => ∃ W : Nat → Nat → St → Hp → Prop, (∃ m, W 0 m σ H1) ∧ ∀ i m σ H, W i m σ H →
  (J.stop i H ∧ D.nx σ H) ∨ (J.go i H ∧ ∃ N : St → Hp → Prop, (∀ σ' H', N σ' H' → ∃ m', m' < m ∧ W (i + 1) m' σ' H') ∧ ∀ x H', J.yld i H x H' → g x σ H' fun σ2 H2 => tb { D with nx := N, ct := N, bk := D.nx } σ2 H2)
/-- the records at fp as they stand -/
def pinsAt (fp : List Addr) (h : Heap) : List (Addr × Obj) := fp.filterMap fun b => (h.get? b).map fun o => (b, o)
theorem mem_pinsAt {fp : List Addr} {h : Heap} {b : Addr} {o : Obj} (hb : b ∈ fp) (e : h.get? b = some o) : (b, o) ∈ pinsAt fp h := List.mem_filterMap.mpr ⟨b, hb, by rw [e]; rfl⟩
theorem of_pinsAt {fp : List Addr} {h : Heap} {p : Addr × Obj} (hp : p ∈ pinsAt fp h) : p.1 ∈ fp ∧ h.get? p.1 = some p.2 := by
  obtain ⟨b, hb, e⟩ := List.mem_filterMap.mp hp
  cases q : h.get? b with
  | none => rw [q] at e; cases e
  | some o =>
    rw [q] at e
    have e' : (b, o) = p := Option.some.inj e
    subst e'
    exact ⟨hb, q⟩
theorem Inv.pinned {pins : List (Addr × Obj)} {σ : St} {H : Hp} {s : Shared} {fp : List Addr} (I : Inv X pins σ H s) (hf : ∀ b ∈ fp, FpOk X pins H b) (ho : ∀ b ∈ fp, ∃ o, s.heap.get? b = some o ∧ ∀ v, o.data ≠ .cell v) : Inv X (pins ++ pinsAt fp s.heap) σ H s :=
  I.pins_of fun p hp => (List.mem_append.mp hp).elim (fun z => I.pin p (List.mem_append_right _ z)) fun z => by
    obtain ⟨hb, e⟩ := of_pinsAt z
    obtain ⟨f0, f1, f2, _⟩ := hf p.1 hb
    obtain ⟨o, e', d⟩ := ho p.1 hb
    rw [e] at e'; cases e'
    exact ⟨e, f0, f1, f2, d⟩
theorem Inv.unpinned {pins pl : List (Addr × Obj)} {σ : St} {H : Hp} {s : Shared} (I : Inv X (pins ++ pl) σ H s) : Inv X pins σ H s := I.pins_of fun p hp => I.pin p (List.mem_append_right _ (List.mem_append_left _ hp))
theorem ps_for {iter : Expr} {body : List Stmt} {wi : TI} {g : TG} {tb : TS} {pos : Pos} (hp : PassesOwn (model X.prog X.w) X.A X.env X.xe) (hc : X.calm = true) (hi : PI X tg iter wi) (hg : PG X tg g) (hb : PSs X body tb)
    (hs : ∀ x, foldedSetIterable iter X.env x = pure x := by intro _; rfl) : PS X (.For tg iter body [] pos) (tFor wi g tb) := by
  intro pins s σ H D I h
  refine wpAny_For (thn (hi pins s σ H _ I h) fun v s1 h1 => thn h1 fun itv s2 h2 => ?_) hs
  obtain ⟨it, fp, tn, J, H2, e, I2, T, st2, f2, W, ⟨m0, w0⟩, turn⟩ := h2
  subst e
  -- what stays true of the iterator's objects through the loop
  have stat : ∀ {H' : Hp}, (∀ b ∈ fp, H' b = none) → ∀ b ∈ fp, FpOk X pins H' b := fun hn b hb => ⟨hn b hb, (f2 b hb).2⟩
  refine codeAny_forLoop_any (fun n s' => ∃ i σ' H', Inv X pins σ' H' s' ∧ tn i s'.heap ∧ (∀ b ∈ fp, H' b = none) ∧ W i n σ' H') ?_ m0 ⟨0, σ, H2, I2, st2, fun b hb => (f2 b hb).1, w0⟩
  rintro n s3 ⟨i, σ3, H3, I3, st3, fr3, w3⟩
  rcases turn i n σ3 H3 w3 with ⟨stop, qn⟩ | ⟨go, N, hN, step⟩
  · refine wpAny_passesOwn hp (thn (T.done X rfl rfl rfl hc i pins s3 σ3 H3 X.xe I3 (stat fr3) st3 stop) fun r s4 ⟨hr, I4⟩ => ?_)
    subst hr
    exact wpAny_execs_nil ⟨σ3, H3, I4, qn⟩
  · refine wpAny_passesOwn hp (thn (T.item X rfl rfl rfl hc i pins s3 σ3 H3 X.xe I3 (stat fr3) st3 go) fun r s4 ⟨u, hr, h4⟩ => ?_)
    subst hr
    refine wpAny_passesOwn hp (thn h4 fun _ s5 ⟨x, H5, I5, r5, y5, st5, fr5⟩ => ?_)
    have I5' := I5.pinned (stat fr5) (T.obj _ _ st5)
    refine wpAny_passesOwn hp (thn (hg _ s5 σ3 H5 x u _ I5' r5 (step x H5 y5)) fun _ s6 ⟨σ6, H6, I6, q6⟩ => ?_)
    refine wpAny_passesOwn hp (thn (hb _ s6 σ6 H6 _ I6 q6) fun f s7 q7 => ?_)
    have again : ∀ {σ7 : St} {H7 : Hp}, Inv X (pins ++ pinsAt fp s5.heap) σ7 H7 s7 → N σ7 H7 → ∃ m, m < n ∧ ∃ i σ' H', Inv X pins σ' H' s7 ∧ tn i s7.heap ∧ (∀ b ∈ fp, H' b = none) ∧ W i m σ' H' := fun {σ7 H7} I7 n7 => by
      obtain ⟨m', hm, w7⟩ := hN σ7 H7 n7
      refine ⟨m', hm, i + 1, σ7, H7, I7.unpinned, T.keep _ _ _ st5 fun b hb o e => (I7.pin (b, o) (List.mem_append_right _ (List.mem_append_right _ (mem_pinsAt hb e)))).1, fun b hb => ?_, w7⟩
      obtain ⟨o, e, d⟩ := T.obj _ _ st5 b hb
      exact (I7.pin (b, o) (List.mem_append_right _ (List.mem_append_right _ (mem_pinsAt hb e)))).2.1
    cases f with
    | next => obtain ⟨σ7, H7, I7, n7⟩ := q7; exact again I7 n7
    | cont => obtain ⟨σ7, H7, I7, n7⟩ := q7; exact again I7 n7
    | brk => obtain ⟨σ7, H7, I7, q7⟩ := q7; exact ⟨σ7, H7, I7.unpinned, q7⟩
    | ret v => obtain ⟨x7, σ7, H7, I7, r7, q7⟩ := q7; exact ⟨x7, σ7, H7, I7.unpinned, r7, q7⟩
end

/-! ### the forms one uses -/
/-- over a list that the body leaves as it is -/
theorem for_list {K : PySem.W.Frag} {a : Addr} {xs : List V} {g : TG} {tb : TS} {D : Ends} {σ : St} {H : Hp} (Pv : Nat → St → Hp → Prop) (h0 : Pv 0 σ H) (hl : ∀ i σ H, i ≤ xs.length → Pv i σ H → SqL K H a xs)
    (hs : ∀ i x σ H, xs[i]? = some x → Pv i σ H → g x σ H fun σ2 H2 => tb { D with nx := Pv (i + 1), ct := Pv (i + 1), bk := D.nx } σ2 H2) (hd : ∀ σ H, Pv xs.length σ H → D.nx σ H) :
    ∃ W : Nat → Nat → St → Hp → Prop, (∃ m, W 0 m σ H) ∧ ∀ i m σ H, W i m σ H →
      ((Itl K a).stop i H ∧ D.nx σ H) ∨ ((Itl K a).go i H ∧ ∃ N : St → Hp → Prop, (∀ σ' H', N σ' H' → ∃ m', m' < m ∧ W (i + 1) m' σ' H') ∧ ∀ x H', (Itl K a).yld i H x H' → g x σ H' fun σ2 H2 => tb { D with nx := N, ct := N, bk := D.nx } σ2 H2) := by
  refine ⟨fun i m σ H => m = xs.length - i ∧ i ≤ xs.length ∧ Pv i σ H, ⟨xs.length, by simp, Nat.zero_le _, h0⟩, ?_⟩
  rintro i m σ H ⟨rfl, hi, p⟩
  have q := hl i σ H hi p
  by_cases hlt : i < xs.length
  · refine .inr ⟨⟨xs, xs[i], q, by simp [hlt]⟩, Pv (i + 1), fun σ' H' p' => ⟨xs.length - (i + 1), by omega, rfl, hlt, p'⟩, fun x H' y => ?_⟩
    obtain ⟨e, y⟩ := y
    subst e
    exact hs i x σ _ (y xs q) p
  · have e : i = xs.length := by omega
    subst e
    exact .inl ⟨⟨xs, q, Nat.le_refl _⟩, hd σ H p⟩
theorem for_range {lo : Int} {n : Nat} {g : TG} {tb : TS} {D : Ends} {σ : St} {H : Hp} (Pv : Nat → St → Hp → Prop) (h0 : Pv 0 σ H)
    (hs : ∀ i σ H, i < n → Pv i σ H → g (.int (lo + i)) σ H fun σ2 H2 => tb { D with nx := Pv (i + 1), ct := Pv (i + 1), bk := D.nx } σ2 H2) (hd : ∀ σ H, Pv n σ H → D.nx σ H) :
    ∃ W : Nat → Nat → St → Hp → Prop, (∃ m, W 0 m σ H) ∧ ∀ i m σ H, W i m σ H →
      ((Itr lo n).stop i H ∧ D.nx σ H) ∨ ((Itr lo n).go i H ∧ ∃ N : St → Hp → Prop, (∀ σ' H', N σ' H' → ∃ m', m' < m ∧ W (i + 1) m' σ' H') ∧ ∀ x H', (Itr lo n).yld i H x H' → g x σ H' fun σ2 H2 => tb { D with nx := N, ct := N, bk := D.nx } σ2 H2) := by
  refine ⟨fun i m σ H => m = n - i ∧ i ≤ n ∧ Pv i σ H, ⟨n, by simp, Nat.zero_le _, h0⟩, ?_⟩
  rintro i m σ H ⟨rfl, hi, p⟩
  by_cases hlt : i < n
  · refine .inr ⟨hlt, Pv (i + 1), fun σ' H' p' => ⟨n - (i + 1), by omega, rfl, hlt, p'⟩, fun x H' y => ?_⟩
    obtain ⟨e, y⟩ := y
    subst e y
    exact hs i σ _ hlt p
  · have e : i = n := by omega
    subst e
    exact .inl ⟨Nat.le_refl _, hd σ H p⟩
end L2

namespace L2
open PySem PySem.Spec PyProof.Rows

abbrev R2 := V → V → Hp → VK → Prop
/-- a two-place operation on values: f is binaryOp op, inplaceOp op or compareOp op -/
def OpR (X : Cx) (f : Value → Value → Sem Value) (r : R2) : Prop :=
  ∀ (pins : List (Addr × Obj)) (s : Shared) (σ : St) (H : Hp) (x y : V) (v u : Value) (Q : VK), Inv X pins σ H s → RelV x v → RelV y u → r x y H Q →
    wpAny (model X.prog X.w) X.A (f v u) (EP X pins σ Q) X.xe s
/-- a one-place operation -/
def UnR (X : Cx) (f : Value → Sem Value) (r : V → Hp → VK → Prop) : Prop :=
  ∀ (pins : List (Addr × Obj)) (s : Shared) (σ : St) (H : Hp) (x : V) (v : Value) (Q : VK), Inv X pins σ H s → RelV x v → r x H Q →
    wpAny (model X.prog X.w) X.A (f v) (EP X pins σ Q) X.xe s
/-- a call of a value that is known (a builtin, a type) with values -/
def CallR (X : Cx) (f : Value) (r : List V → Hp → VK → Prop) : Prop :=
  ∀ (pins : List (Addr × Obj)) (s : Shared) (σ : St) (H : Hp) (xs : List V) (us : List Value) (Q : VK), Inv X pins σ H s → Vals xs us → r xs H Q →
    wpAny (model X.prog X.w) X.A (call f us) (EP X pins σ Q) X.xe s

def tOp (r : R2) (ta tb : TE) : TE := fun σ H Q => ta σ H fun x H1 => tb σ H1 fun y H2 => r x y H2 Q
def tUn (r : V → Hp → VK → Prop) (ta : TE) : TE := fun σ H Q => ta σ H fun x H1 => r x H1 Q
/-- ints in, under C, and a value out -/
def rI (C : Int → Int → Prop) (g : Int → Int → V) : R2 := fun x y H Q => ∃ i j, x = .int i ∧ y = .int j ∧ C i j ∧ Q (g i j) H
def rI0 (g : Int → Int → V) : R2 := fun x y H Q => ∃ i j, x = .int i ∧ y = .int j ∧ Q (g i j) H
def rU (g : Int → V) : V → Hp → VK → Prop := fun x H Q => ∃ i, x = .int i ∧ Q (g i) H

section
variable {X : Cx} {a b c : Expr} {ta tb tc : TE} {pos : Pos}

theorem binT (ha : PE X a ta) (hb : PE X b tb) {pins : List (Addr × Obj)} {s : Shared} {σ : St} {H : Hp} {R : V → V → Hp → Prop} (I : Inv X pins σ H s)
    (h : ta σ H fun x H1 => tb σ H1 fun y H2 => R x y H2) {Q : Value → Shared → Prop} {f : Value → Value → Sem Value}
    (hf : ∀ v u s2 x y H2, Inv X pins σ H2 s2 → RelV x v → RelV y u → R x y H2 → wpAny (model X.prog X.w) X.A (f v u) Q X.xe s2) :
    wpAny (model X.prog X.w) X.A (eval a X.env) (fun v s₁ => wpAny (model X.prog X.w) X.A (eval b X.env) (fun u s₂ => wpAny (model X.prog X.w) X.A (f v u) Q X.xe s₂) X.xe s₁) X.xe s := by
  refine thn (ha pins s σ H _ I h) fun v s1 ⟨x, H1, I1, r1, q1⟩ => ?_
  refine thn (hb pins s1 σ H1 _ I1 q1) fun u s2 ⟨y, H2, I2, r2, q2⟩ => ?_
  exact hf v u s2 x y H2 I2 r1 r2 q2

theorem pe_op {op : Operator} {r : R2} (ho : OpR X (binaryOp op) r) (ha : PE X a ta) (hb : PE X b tb) : PE X (.BinOp a op b pos) (tOp r ta tb) := by
  intro pins s σ H Q I h
  exact wpAny_BinOp (binT ha hb I h fun v u s2 x y H2 I2 rx ry q => ho pins s2 σ H2 x y v u Q I2 rx ry q)
theorem pe_un {op : UnaryOp} {r : V → Hp → VK → Prop} (ho : UnR X (unaryOp op) r) (ha : PE X a ta) : PE X (.UnaryOp op a pos) (tUn r ta) := by
  intro pins s σ H Q I h
  exact UnaryOp_ (thn (ha pins s σ H _ I h) fun v s1 ⟨x, H1, I1, r1, q1⟩ => ho pins s1 σ H1 x v Q I1 r1 q1)

/-! ### ints -/
theorem opI {f : Value → Value → Sem Value} {C : Int → Int → Prop} {g : Int → Int → Int}
    (rule : ∀ (i j : Int) (t u : Tok) (s : Shared) (Q : Value → Shared → Prop) (E : Value → Shared → Prop), C i j → Q (.int (g i j) s.toks) { s with toks := s.toks + 1 } → wpAny (model X.prog X.w) X.A (f (.int i t) (.int j u)) Q E s) :
    OpR X f (rI C fun i j => .int (g i j)) := by
  intro pins s σ H x y v u Q I rx ry h
  obtain ⟨i, j, rfl, rfl, hc, q⟩ := h
  obtain ⟨t, rfl⟩ := rx
  obtain ⟨t', rfl⟩ := ry
  exact rule i j t t' s _ _ hc ⟨.int (g i j), H, I.tok _, ⟨_, rfl⟩, q⟩
theorem opI0 {f : Value → Value → Sem Value} {g : Int → Int → Int}
    (rule : ∀ (i j : Int) (t u : Tok) (s : Shared) (Q : Value → Shared → Prop) (E : Value → Shared → Prop), Q (.int (g i j) s.toks) { s with toks := s.toks + 1 } → wpAny (model X.prog X.w) X.A (f (.int i t) (.int j u)) Q E s) :
    OpR X f (rI0 fun i j => .int (g i j)) := by
  intro pins s σ H x y v u Q I rx ry h
  obtain ⟨i, j, rfl, rfl, q⟩ := h
  obtain ⟨t, rfl⟩ := rx
  obtain ⟨t', rfl⟩ := ry
  exact rule i j t t' s _ _ ⟨.int (g i j), H, I.tok _, ⟨_, rfl⟩, q⟩
theorem opB0 {f : Value → Value → Sem Value} {g : Int → Int → Bool}
    (rule : ∀ (i j : Int) (t u : Tok) (s : Shared) (Q : Value → Shared → Prop) (E : Value → Shared → Prop), Q (.bool (g i j)) s → wpAny (model X.prog X.w) X.A (f (.int i t) (.int j u)) Q E s) :
    OpR X f (rI0 fun i j => .bl (g i j)) := by
  intro pins s σ H x y v u Q I rx ry h
  obtain ⟨i, j, rfl, rfl, q⟩ := h
  obtain ⟨t, rfl⟩ := rx
  obtain ⟨t', rfl⟩ := ry
  exact rule i j t t' s _ _ ⟨.bl (g i j), H, I, rfl, q⟩

def CPow (i j : Int) : Prop := 0 ≤ j ∧ j ≤ 1000000 ∧ i.natAbs < 2 ^ 64

theorem op_add : OpR X (binaryOp .Add) (rI0 fun i j => .int (i + j)) := opI0 fun _ _ _ _ _ _ _ q => add_int q
theorem op_sub : OpR X (binaryOp .Sub) (rI0 fun i j => .int (i - j)) := opI0 fun _ _ _ _ _ _ _ q => sub_int q
theorem op_modN : OpR X (binaryOp .Mod) (rI (fun _ j => j ≠ 0) fun i j => .int (i.fmod j)) := opI fun _ _ _ _ _ _ _ hc q => mod_int' hc q
theorem op_pow : OpR X (binaryOp .Pow) (rI CPow fun i j => .int (i ^ j.toNat)) := opI fun _ _ _ _ _ _ _ hc q => pow_int_small hc.1 hc.2.1 hc.2.2 q


theorem unI {f : Value → Sem Value} {g : Int → Int}
    (rule : ∀ (i : Int) (t : Tok) (s : Shared) (Q : Value → Shared → Prop) (E : Value → Shared → Prop), Q (.int (g i) s.toks) { s with toks := s.toks + 1 } → wpAny (model X.prog X.w) X.A (f (.int i t)) Q E s) :
    UnR X f (rU fun i => .int (g i)) := by
  intro pins s σ H x v Q I rx h
  obtain ⟨i, rfl, q⟩ := h
  obtain ⟨t, rfl⟩ := rx
  exact rule i t s _ _ ⟨.int (g i), H, I.tok _, ⟨_, rfl⟩, q⟩
theorem un_neg : UnR X (unaryOp .USub) (rU fun i => .int (-i)) := unI fun _ _ _ _ _ q => neg_int q

/-! ### bools among ints: n += (a < b) -/
end

/-! ### comparisons -/
/-- the scalars that == tells apart as data does -/
def scal : V → V → Bool
  | .non, .non => true | .non, .int _ => true | .int _, .non => true | .non, .bl _ => true | .bl _, .non => true | .non, .str _ => true | .str _, .non => true
  | .int _, .int _ => true | .bl _, .bl _ => true | .str _, .str _ => true | .byt _, .byt _ => true
  | .int _, .str _ => true | .str _, .int _ => true | .bl _, .str _ => true | .str _, .bl _ => true
  | _, _ => false
def rEq : R2 := fun x y H Q => scal x y = true ∧ Q (.bl (decide (x = y))) H
def rNe : R2 := fun x y H Q => scal x y = true ∧ Q (.bl (!decide (x = y))) H

theorem dec_int {i j : Int} : decide (V.int i = V.int j) = (i == j) := by
  rw [Bool.eq_iff_iff]
  simp
theorem dec_bl {i j : Bool} : decide (V.bl i = V.bl j) = (i == j) := by
  rw [Bool.eq_iff_iff]
  simp
theorem dec_str {i j : Str} : decide (V.str i = V.str j) = (i == j) := by
  rw [Bool.eq_iff_iff]
  simp
theorem dec_byt {i j : Array UInt8} : decide (V.byt i = V.byt j) = (i.toList == j.toList) := by
  rw [Bool.eq_iff_iff]
  cases i
  cases j
  simp

section
variable {X : Cx} {a b c : Expr} {ta tb tc : TE} {pos : Pos}
theorem fin_bl {pins : List (Addr × Obj)} {σ : St} {H : Hp} {s : Shared} {Q : VK} {k k' : Bool} (I : Inv X pins σ H s) (q : Q (.bl k) H) (e : k = k') : EP X pins σ Q (.bool k') s := by
  subst e
  exact ⟨.bl k, H, I, rfl, q⟩
theorem op_eq : OpR X (compareOp .Eq) rEq := by
  intro pins s σ H x y v u Q I rx ry h
  obtain ⟨hs, q⟩ := h
  cases x with
  | non =>
    cases rx
    cases y with
    | non => cases ry; exact PySem.EqNone.eq_none_none (fin_bl I q (by simp))
    | bl j => cases ry; exact PySem.EqNone.eq_none_bool (fin_bl I q (by simp))
    | int j => obtain ⟨t', rfl⟩ := ry; exact PySem.EqNone.eq_none_int (fin_bl I q (by simp))
    | str j => obtain ⟨t', rfl⟩ := ry; exact PySem.EqNone.eq_none_str (fin_bl I q (by simp))
    | _ => exact absurd (show false = true from hs) Bool.false_ne_true
  | bl i =>
    cases rx
    cases y with
    | non => cases ry; exact PySem.EqNone.eq_bool_none (fin_bl I q (by simp))
    | bl j => cases ry; exact eq_bool (fin_bl I q dec_bl)
    | str j => obtain ⟨t', rfl⟩ := ry; exact PySem.EqMixed.eq_bool_str (fin_bl I q (by simp))
    | _ => exact absurd (show false = true from hs) Bool.false_ne_true
  | int i =>
    obtain ⟨t, rfl⟩ := rx
    cases y with
    | non => cases ry; exact PySem.EqNone.eq_int_none (fin_bl I q (by simp))
    | int j => obtain ⟨t', rfl⟩ := ry; exact eq_int (fin_bl I q dec_int)
    | str j => obtain ⟨t', rfl⟩ := ry; exact PySem.EqMixed.eq_int_str (fin_bl I q (by simp))
    | _ => exact absurd (show false = true from hs) Bool.false_ne_true
  | str i =>
    obtain ⟨t, rfl⟩ := rx
    cases y with
    | non => cases ry; exact PySem.EqNone.eq_str_none (fin_bl I q (by simp))
    | bl j => cases ry; exact PySem.EqMixed.eq_str_bool (fin_bl I q (by simp))
    | int j => obtain ⟨t', rfl⟩ := ry; exact PySem.EqMixed.eq_str_int (fin_bl I q (by simp))
    | str j => obtain ⟨t', rfl⟩ := ry; exact eq_str (fin_bl I q dec_str)
    | _ => exact absurd (show false = true from hs) Bool.false_ne_true
  | byt i =>
    obtain ⟨t, rfl⟩ := rx
    cases y with
    | byt j => obtain ⟨t', rfl⟩ := ry; exact PySem.W.eq_bytes (fin_bl I q dec_byt)
    | _ => exact absurd (show false = true from hs) Bool.false_ne_true
  | _ => cases y <;> exact absurd (show false = true from hs) Bool.false_ne_true
theorem op_ne : OpR X (compareOp .NotEq) rNe := by
  intro pins s σ H x y v u Q I rx ry h
  obtain ⟨hs, q⟩ := h
  cases x with
  | non =>
    cases rx
    cases y with
    | non => cases ry; exact PySem.EqNone.ne_none_none (fin_bl I q (by simp))
    | bl j => cases ry; exact PySem.EqNone.ne_none_bool (fin_bl I q (by simp))
    | int j => obtain ⟨t', rfl⟩ := ry; exact PySem.EqNone.ne_none_int (fin_bl I q (by simp))
    | str j => obtain ⟨t', rfl⟩ := ry; exact PySem.EqNone.ne_none_str (fin_bl I q (by simp))
    | _ => exact absurd (show false = true from hs) Bool.false_ne_true
  | bl i =>
    cases rx
    cases y with
    | non => cases ry; exact PySem.EqNone.ne_bool_none (fin_bl I q (by simp))
    | bl j => cases ry; exact ne_bool (fin_bl I q (congrArg not dec_bl))
    | str j => obtain ⟨t', rfl⟩ := ry; exact PySem.EqMixed.ne_bool_str (fin_bl I q (by simp))
    | _ => exact absurd (show false = true from hs) Bool.false_ne_true
  | int i =>
    obtain ⟨t, rfl⟩ := rx
    cases y with
    | non => cases ry; exact PySem.EqNone.ne_int_none (fin_bl I q (by simp))
    | int j => obtain ⟨t', rfl⟩ := ry; exact ne_int (fin_bl I q (congrArg not dec_int))
    | str j => obtain ⟨t', rfl⟩ := ry; exact PySem.EqMixed.ne_int_str (fin_bl I q (by simp))
    | _ => exact absurd (show false = true from hs) Bool.false_ne_true
  | str i =>
    obtain ⟨t, rfl⟩ := rx
    cases y with
    | non => cases ry; exact PySem.EqNone.ne_str_none (fin_bl I q (by simp))
    | bl j => cases ry; exact PySem.EqMixed.ne_str_bool (fin_bl I q (by simp))
    | int j => obtain ⟨t', rfl⟩ := ry; exact PySem.EqMixed.ne_str_int (fin_bl I q (by simp))
    | str j => obtain ⟨t', rfl⟩ := ry; exact ne_str (fin_bl I q (congrArg not dec_str))
    | _ => exact absurd (show false = true from hs) Bool.false_ne_true
  | byt i =>
    obtain ⟨t, rfl⟩ := rx
    cases y with
    | byt j => obtain ⟨t', rfl⟩ := ry; exact PySem.W.ne_bytes (fin_bl I q (congrArg not dec_byt))
    | _ => exact absurd (show false = true from hs) Bool.false_ne_true
  | _ => cases y <;> exact absurd (show false = true from hs) Bool.false_ne_true

theorem op_lt : OpR X (compareOp .Lt) (rI0 fun i j => .bl (decide (i < j))) := opB0 fun _ _ _ _ _ _ _ q => lt_int q
theorem op_le : OpR X (compareOp .LtE) (rI0 fun i j => .bl (decide (i ≤ j))) := opB0 fun _ _ _ _ _ _ _ q => le_int q
theorem op_gt : OpR X (compareOp .Gt) (rI0 fun i j => .bl (decide (j < i))) := opB0 fun _ _ _ _ _ _ _ q => gt_int q
theorem op_ge : OpR X (compareOp .GtE) (rI0 fun i j => .bl (decide (j ≤ i))) := opB0 fun _ _ _ _ _ _ _ q => ge_int q




theorem nomark (b : Expr) {op : CmpOp} (h : op ≠ .In := by decide) (h2 : op ≠ .NotIn := by decide) : behindInMarks op b = false := by
  have e1 : (op == CmpOp.In) = false := by cases op <;> first | rfl | exact absurd rfl h
  have e2 : (op == CmpOp.NotIn) = false := by cases op <;> first | rfl | exact absurd rfl h2
  cases b <;> simp [behindInMarks, e1, e2]
/-- a comparison as a value; hm: nomark b, or (for in, not in) by with_unfolding_all rfl -/
theorem pe_cmpR {op : CmpOp} {r : R2} (ho : OpR X (compareOp op) r) (ha : PE X a ta) (hb : PE X b tb) (hm : behindInMarks op b = false) : PE X (.Compare a [op] [b] pos) (tOp r ta tb) := by
  intro pins s σ H Q I h
  exact wpAny_Compare1 (binT ha hb I h fun v u s2 x y H2 I2 rx ry q => ho pins s2 σ H2 x y v u Q I2 rx ry q) hm
/-- a reading of a value as a test -/
def tTest (t : TE) : TT := fun σ H Q => t σ H fun x H' => ∃ k, x = .bl k ∧ Q k H'
theorem pt_cmpR {op : CmpOp} {r : R2} (ho : OpR X (compareOp op) r) (ha : PE X a ta) (hb : PE X b tb) (hm : behindInMarks op b = false) : PT X (.Compare a [op] [b] pos) (tTest (tOp r ta tb)) := by
  intro pins s σ H Q I h
  refine wpAny_isTrue_Compare1 (thn (ha pins s σ H _ I h) fun v s1 ⟨x, H1, I1, r1, q1⟩ => thn (hb pins s1 σ H1 _ I1 q1) fun u s2 ⟨y, H2, I2, r2, q2⟩ =>
    thn (ho pins s2 σ H2 x y v u _ I2 r1 r2 q2) fun c s3 ⟨z, H3, I3, r3, k, e, q3⟩ => ?_) hm
  subst e
  cases r3
  exact wpAny_truthy_bool ⟨H3, I3, q3⟩

/-! ### truth -/
theorem line63 : (sizeLine : Nat) < 2 ^ 63 := by rw [sizeLine_eq]; decide

/-! ### strs and bytes -/


/-! ### scalar builtins, by CallR -/
theorem vals1 {x : V} {us : List Value} (r : Vals [x] us) : ∃ u, us = [u] ∧ RelV x u := by
  cases r with
  | cons r1 r2 => cases r2; exact ⟨_, rfl, r1⟩
theorem vals2 {x y : V} {us : List Value} (r : Vals [x, y] us) : ∃ u w', us = [u, w'] ∧ RelV x u ∧ RelV y w' := by
  cases r with
  | cons r1 r2 =>
    cases r2 with
    | cons r3 r4 => cases r4; exact ⟨_, _, rfl, r1, r3⟩
theorem call_abs : CallR X (.builtin "abs") (fun xs H Q => ∃ i, xs = [.int i] ∧ Q (.int (if i < 0 then -i else i)) H) := by
  intro pins s σ H xs us Q I r h
  obtain ⟨i, rfl, q⟩ := h
  obtain ⟨u, rfl, t, rfl⟩ := vals1 r
  exact call_abs_int fun u tk => ⟨.int (if i < 0 then -i else i), H, I.tok _, ⟨_, rfl⟩, q⟩
theorem call_int1 : CallR X (.type "int") (fun xs H Q => (∃ i, xs = [.int i] ∧ Q (.int i) H) ∨ ∃ k, xs = [.bl k] ∧ Q (.int (if k then 1 else 0)) H) := by
  intro pins s σ H xs us Q I r h
  rcases h with ⟨i, rfl, q⟩ | ⟨k, rfl, q⟩
  · obtain ⟨u, rfl, t, rfl⟩ := vals1 r
    exact call_int_int ⟨.int i, H, I, ⟨_, rfl⟩, q⟩
  · obtain ⟨u, rfl, r1⟩ := vals1 r
    cases r1
    exact call_int_bool ⟨.int (if k then 1 else 0), H, I.tok _, ⟨_, rfl⟩, q⟩
end
end L2

namespace L2
open PySem PySem.Spec PyProof.Rows

/-! ### an instance, its attributes a map -/
structure ObjM (h : Heap) (x dx C : Addr) (mA : Str → Option Value) : Prop where
  obj : h.get? x = some (PySem.W.instObj C dx)
  ns : h.Ns1 dx mA
  ne : dx ≠ x

theorem lookIn_ns {h : Heap} {dx : Addr} {mA : Str → Option Value} (n : h.Ns1 dx mA) : ∃ od, h.get? dx = some od ∧ ∀ name, PySem.W.lookIn name od = some (mA name) := by
  obtain ⟨o, es, ep, ho, hd, hk, _, hm⟩ := n
  refine ⟨o, ho, fun name => ?_⟩
  have e := hm name
  unfold nsFind findBy at e
  rw [← Array.find?_toList] at e
  unfold PySem.W.lookIn
  rw [hd]
  dsimp only
  split
  · rename_i y q
    rw [q] at e
    exact congrArg some e
  · rename_i q
    rw [q] at e
    have a : es.toList.any (·.refKey) = false := by
      rw [List.any_eq_false]
      intro y hy
      obtain ⟨z, t, hkey⟩ := hk y (Array.mem_toList_iff.mp hy)
      simp [DictEntry.refKey, hkey]
    have a' : ¬ es.toList.any (·.refKey) = true := by rw [a]; exact Bool.false_ne_true
    rw [if_neg a']
    exact congrArg some e

theorem ObjM.look {h : Heap} {x dx C : Addr} {mA : Str → Option Value} (I : ObjM h x dx C mA) : ∃ od, PySem.W.InstAt h x (PySem.W.instObj C dx) C (some od) ∧ ∀ name, PySem.W.lookIn name od = some (mA name) :=
  let ⟨od, ho, hl⟩ := lookIn_ns I.ns
  ⟨od, ⟨I.obj, rfl, rfl, ho⟩, hl⟩

section
variable {prog : Program} {w : World} {A : Around} {E : Value → Shared → Prop} {s : Shared} {K : PySem.W.Frag} {x dx C f : Addr} {mA : Str → Option Value} {name : Str} {v : Value}





end

/-! ### the attributes as a list of pairs -/


section
variable {P : Program} {w : World} {H H' : Hp} {h h' : Heap} {a C dx : Addr} {fs fs' : List (Str × V)}
theorem ins_get (hok : HOk P w H h) (e : H a = some (.ins C dx fs)) : ∃ mA, ObjM h a dx C mA ∧ (∀ f, RelO (fs.lookup f) (mA f)) ∧ PySem.Within mA (fs.map (·.1)) ∧ fs.length ≤ 1000 ∧ H dx = some (.own a) := by
  obtain ⟨d, z, ne, ob, mA, n, r, q⟩ := (show ObjOk P w H h a (.ins C dx fs) from hok a _ e)
  exact ⟨mA, ⟨ob, n, ne⟩, r, q, z, d⟩
end

/-! ### what of the text a class must have -/
structure Cls (K : PySem.W.Frag) (C : Addr) : Prop where
  pg : PySem.W.plainGet K C Str.empty = true
  hd : PySem.W.hasDictIn K C = true
  po : PySem.W.plainOver K C = true
  sa : PySem.W.findIn K (.ref C) "__setattr__" = some (some (.builtin "object.__setattr__"))
theorem Cls.get {K : PySem.W.Frag} {C : Addr} (c : Cls K C) (f : Str) : PySem.W.plainGet K C f = true := c.pg

section
variable {X : Cx} {pins : List (Addr × Obj)} {σ : St} {H : Hp} {s : Shared} {a C dx : Addr} {fs : List (Str × V)} {f : Str} {v : V} {A : Around} {E : Value → Shared → Prop}






end

/-! ### readings and rules -/

section
variable {X : Cx} {o e value : Expr} {f : Str} {pos pos' tpos : Pos} {ta tv : TE}

end

/-! ### isinstance -/
section
variable {X : Cx} {pins : List (Addr × Obj)} {σ : St} {H : Hp} {s : Shared} {A : Around} {E : Value → Shared → Prop} {Q : Value → Shared → Prop} {c : Value} {b : Bool}
/-- the type of a value, as the fragment's deciders take it; for an instance its class -/
inductive TyOf (K : PySem.W.Frag) (H : Hp) : V → Value → Prop where
  | non : TyOf K H .non (.type "NoneType")
  | bl (x : Bool) : TyOf K H (.bl x) (.type "bool")
  | int (i : Int) : TyOf K H (.int i) (.type "int")
  | str (x : Str) : TyOf K H (.str x) (.type "str")
  | flt (x : UInt64) : TyOf K H (.flt x) (.type "float")
  | lst {a : Addr} {xs : List V} (e : H a = some (.lst xs)) : TyOf K H (.ref a) (.type "list")
  | frz {a : Addr} {o : Obj} {xs : List V} (e : H a = some (.frz o (.lst xs))) : TyOf K H (.ref a) (.type "list")
  | tup {a : Addr} {xs : List V} (e : H a = some (.tup xs)) : TyOf K H (.ref a) (.type "tuple")
  | dK {a : Addr} {kvs : List (Key × V)} (e : H a = some (.dK kvs)) : TyOf K H (.ref a) (.type "dict")
  | dT {a : Addr} {kvs : List (List Key × V)} (e : H a = some (.dT kvs)) : TyOf K H (.ref a) (.type "dict")
  | ins {a C dx : Addr} {fs : List (Str × V)} (e : H a = some (.ins C dx fs)) (cl : Cls K C) (ha : PySem.W.findIn K (.ref C) "__class__" = some (some (.builtin "object.__class__")))
      (hn : PySem.W.specialIn K (.builtin "object.__class__") "__get__" = some (some (.builtin "getset_descriptor.__get__"))) (htk : PySem.W.takesIn K (.builtin "object.__class__") = some true)
      (hm : PySem.W.mroIn K C (.type "object") = some true) : TyOf K H (.ref a) (.ref C)
/-- isinstance(x, c) for one class c, a built-in or an own one: kitOne's answer -/
theorem isinst_ok {x : V} {u t : Value} (I : Inv X pins σ H s) (rx : RelV x u) (ty : TyOf X.K H x t) (e : PySem.W.kitOne X.K t c = some b) (h : ∀ tk, Q (.bool b) { s with toks := tk }) :
    wpAny (model X.prog X.w) A (call (.builtin "isinstance") [u, c]) Q E s := by
  cases ty with
  | non => cases (show u = Value.none from rx); exact PySem.W.kia_one PySem.W.kitx_none I.kIn True.intro e (fun z => nomatch z) h
  | bl y => cases (show u = Value.bool y from rx); exact PySem.W.kia_one PySem.W.kitx_bool I.kIn True.intro e (fun z => nomatch z) h
  | int i => obtain ⟨t, q⟩ := (show ∃ t, u = Value.int i t from rx); cases q; exact PySem.W.kia_one PySem.W.kitx_int I.kIn True.intro e (fun z => nomatch z) h
  | str y => obtain ⟨t, q⟩ := (show ∃ t, u = Value.str y t from rx); cases q; exact PySem.W.kia_one PySem.W.kitx_str I.kIn True.intro e (fun z => nomatch z) h
  | flt y => obtain ⟨t, q⟩ := (show ∃ t, u = Value.float y t from rx); cases q; exact PySem.W.kia_one PySem.W.kitx_float I.kIn True.intro e (fun z => nomatch z) h
  | @lst a xs ea =>
    cases (show u = Value.ref a from rx)
    obtain ⟨_, _, n, _, h1⟩ := (show ObjOk X.prog X.w H s.heap a (.lst xs) from I.hok a _ ea)
    exact PySem.W.kia_one PySem.W.kitx_list I.kIn ⟨_, h1, rfl⟩ e (fun z => nomatch z) h
  | @frz a ob xs ea =>
    cases (show u = Value.ref a from rx)
    obtain ⟨_, _, _, n, _, h1⟩ := (show ObjOk X.prog X.w H s.heap a (.frz ob (.lst xs)) from I.hok a _ ea)
    exact PySem.W.kia_one PySem.W.kitx_list I.kIn ⟨_, h1, rfl⟩ e (fun z => nomatch z) h
  | @tup a xs ea =>
    cases (show u = Value.ref a from rx)
    obtain ⟨_, _, _, p⟩ := (show ObjOk X.prog X.w H s.heap a (.tup xs) from I.hok a _ ea)
    obtain ⟨o, h1, h2, _⟩ := p
    exact PySem.W.kia_one PySem.W.kitx_tuple I.kIn ⟨o, h1, h2⟩ e (fun z => nomatch z) h
  | @dK a kvs ea =>
    cases (show u = Value.ref a from rx)
    obtain ⟨_, _, vs, _, p⟩ := (show ObjOk X.prog X.w H s.heap a (.dK kvs) from I.hok a _ ea)
    obtain ⟨o, es, ep, h1, h2, _⟩ := p
    exact PySem.W.kia_one PySem.W.kitx_dict I.kIn ⟨o, h1, h2.1⟩ e (fun z => nomatch z) h
  | @dT a kvs ea =>
    cases (show u = Value.ref a from rx)
    obtain ⟨_, _, xs, _, o, es, ep, h1, h2, _⟩ := (show ObjOk X.prog X.w H s.heap a (.dT kvs) from I.hok a _ ea)
    exact PySem.W.kia_one PySem.W.kitx_dict I.kIn ⟨o, h1, h2.1⟩ e (fun z => nomatch z) h
  | @ins a C dx fs ea cl ha hn htk hm =>
    cases (show u = Value.ref a from rx)
    obtain ⟨mA, O, _⟩ := ins_get I.hok ea
    obtain ⟨od, J, _⟩ := O.look
    exact PySem.W.kia_one (PySem.W.kitx_own (cl.get _) cl.hd ha hn htk hm) I.kIn J e (fun z => nomatch z) h
end
end L2

namespace L2
open PySem PySem.Spec PyProof.Rows

/-! ### room -/
structure Room (k : Nat) (A : Around) : Prop where
  hd : A.handled = none
  dp : A.depth + 3 * k + 5 < recursionLimit
  un : A.units + 16 * k + 200 < cLine
theorem Room.mono {j k : Nat} {A : Around} (r : Room k A) (h : j ≤ k) : Room j A := ⟨r.hd, by have := r.dp; omega, by have := r.un; omega⟩
theorem Room.deeper {k : Nat} {A : Around} (r : Room (k + 1) A) (env : Env) : Room k (A.deeper env) :=
  ⟨r.hd, by have := r.dp; show A.depth + 1 + 3 * k + 5 < _; omega, by have := r.un; show A.units + 3 + 16 * k + 200 < _; omega⟩
theorem Room.depth {k : Nat} {A : Around} (r : Room k A) : A.depth < recursionLimit := by have := r.dp; omega
theorem Room.units {k : Nat} {A : Around} (r : Room k A) : A.units + 64 < cLine := by have := r.un; omega

/-! ### argument lists and displays -/
def tNil : TA := fun _ H Q => Q [] H
def tCons (ta : TE) (tr : TA) : TA := fun σ H Q => ta σ H fun x H1 => tr σ H1 fun xs H2 => Q (x :: xs) H2
section
variable {X : Cx} {e : Expr} {es : List Expr} {te : TE} {t : TA} {pos : Pos}
theorem pa_nil : PA X [] tNil := fun _ _ _ _ H Q I h => Calls.spliced_nil ⟨[], H, I, .nil, h⟩
theorem pa_cons (ha : PE X e te) (hr : PA X es t) (hs : starEach (e :: es) X.env = (false, eval e X.env) :: starEach es X.env := by rfl) : PA X (e :: es) (tCons te t) := by
  intro pos pins s σ H Q I h
  rw [hs]
  show wpAny _ _ (spliced ((false, eval e X.env) :: backTo pos (starEach es X.env))) _ _ s
  refine Calls.spliced_cons (thn (ha pins s σ H _ I h) fun u s1 ⟨x, H1, I1, r1, q1⟩ => ?_)
  exact thn (hr pos pins s1 σ H1 _ I1 q1) fun us s2 ⟨xs, H2, I2, r2, q2⟩ => ⟨x :: xs, H2, I2, .cons r1 r2, q2⟩

/-- a tuple, a list of written items -/
def tTup (t : TA) : TE := fun σ H Q => t σ H fun xs H1 => xs.length ≤ sizeLine ∧ ∀ p, H1 p = none → Q (.ref p) (upd H1 p (.tup xs))
def tLst (t : TA) : TE := fun σ H Q => t σ H fun xs H1 => xs.length ≤ sizeLine ∧ ∀ p, H1 p = none → Q (.ref p) (upd H1 p (.lst xs))
theorem pe_tup {x1} (h : PA X es t) : PE X (.Tuple es x1 pos) (tTup t) := by
  intro pins s σ H Q I hq
  refine wpAny_Tuple_spliced (thn (h pos pins s σ H _ I hq) fun us s1 ⟨xs, H1, I1, r, z, q⟩ => ⟨by rw [← r.length]; exact z, ?_⟩)
  have hf : H1 s1.heap.objs.size = none := I1.hok.fresh (Nat.le_refl _)
  refine ⟨.ref s1.heap.objs.size, upd H1 s1.heap.objs.size (.tup xs), I1.laid (t' := s1.toks) (fun b u e => Heap.get?_push_of_some _ e) (Nat.le_refl _) ?_, rfl, q _ hf⟩
  exact ⟨z, us, r, ⟨_, Heap.get?_push_size _ rfl, rfl, _, rfl⟩⟩
theorem pe_lst (h : PA X es t) : PE X (.List es pos) (tLst t) := by
  intro pins s σ H Q I hq
  refine wpAny_List_spliced (thn (h pos pins s σ H _ I hq) fun us s1 ⟨xs, H1, I1, r, z, q⟩ => ⟨by rw [← r.length]; exact z, ?_⟩)
  have hf : H1 s1.heap.objs.size = none := I1.hok.fresh (Nat.le_refl _)
  refine ⟨.ref s1.heap.objs.size, upd H1 s1.heap.objs.size (.lst xs), I1.laid (t' := s1.toks) (fun b u e => Heap.get?_push_of_some _ e) (Nat.le_refl _) ?_, rfl, q _ hf⟩
  exact ⟨z, us, 0, r, Heap.get?_push_size _ rfl⟩
end

/-! ### what a def promises -/
/-- a def's promise: the bound arguments in the parameters' order, the heap, the wanted end, the wanted exception -/
abbrev Sp := List V → Hp → VK → XK → Prop
/-- how an exception lies behind a call (file 08 gives it): the callers' frames, abstract heap and state ahead of the call, the wish, the exception, the state -/
abbrev CXT := List Env → Hp → Shared → XK → Value → Shared → Prop

/-- the state at a call -/
structure Env0 (P : Program) (w : World) (K : PySem.W.Frag) (mg : Str → Option Value) (base : Heap) (A : Around) (outer : List Env) (s : Shared) (H : Hp) : Prop where
  frames : A.frames = some outer
  mod : Mod K mg base
  bs : ∀ b o, base.get? b = some o → s.heap.get? b = some o ∧ H b = none
  bsz : base.objs.size ≤ s.heap.objs.size
  funs : s.heap.FunFrames base outer
  frf : ∀ b ∈ frs outer, H b = none
  hok : HOk P w H s.heap
  bare : AllBare s.gens
/-- a call's end -/
def CE (outer : List Env) (P : Program) (w : World) (H : Hp) (s : Shared) (Q : VK) (u : Value) (s' : Shared) : Prop :=
  ∃ v H', s'.os = s.os ∧ AllBare s'.gens ∧ Un (frs outer) [] H H' s.heap s'.heap ∧ HOk P w H' s'.heap ∧ RelV v u ∧ Q v H'
def CR (CX : CXT) (outer : List Env) (P : Program) (w : World) (H : Hp) (s : Shared) (Q : VK) (E : XK) (r : Result) (s' : Shared) : Prop :=
  match r with
  | .ok (.ret u) => CE outer P w H s Q u s'
  | .ok _ => False
  | .error e => CX outer H s E e s'
structure FnOk (P : Program) (w : World) (K : PySem.W.Frag) (mg : Str → Option Value) (base : Heap) (CX : CXT) (k : Nat) (f : Addr) (fd : FuncData) (ps : List Str) (sp : Sp) : Prop where
  len : ∀ vs H Q E, sp vs H Q E → vs.length = ps.length
  run : ∀ (A : Around) (outer : List Env) (s : Shared) (H : Hp) (args : Args) (us : List Value) (vs : List V) (Q : VK) (E : XK), Room k A → Env0 P w K mg base A outer s H → BindsTo s fd args (ps.zip us) → Vals vs us → sp vs H Q E →
    codeAny (model P w) A (.call (.ref f) args) (CR CX outer P w H s Q E) s


section
variable {X : Cx} {pins : List (Addr × Obj)} {σ : St} {H : Hp} {s s' : Shared}
/-- from a body: what a callee wants -/
theorem Inv.env0 (I : Inv X pins σ H s) : Env0 X.prog X.w X.K X.mg X.base X.A X.stack s H :=
  ⟨I.ok.frames, I.ok.mod, I.bs, Nat.le_trans I.ok.bsz I.sz, I.stack, I.stkFree, I.hok, I.bare⟩
/-- behind a call -/
theorem Inv.after {Q : VK} {u : Value} (I : Inv X pins σ H s) (h : CE X.stack X.prog X.w H s Q u s') : EP X pins σ Q u s' := by
  obtain ⟨v, H', os, bare, un, hok, r, q⟩ := h
  obtain ⟨hh, g, d, t, os'⟩ := s'
  obtain rfl : os' = s.os := os
  exact ⟨v, H', I.call (h' := hh) (g' := g) (d' := d) (t' := t) (ch := []) un hok bare (fun b z => absurd z (by simp)), r, q⟩
end

/-! ### calls -/
/-- f(..): the written arguments, then the defaults dvs; E: what is wanted of an exception -/
def tCall (sp : Sp) (dvs : List V) (E : XK) (t : TA) : TE := fun σ H Q => t σ H fun vs H1 => sp (vs ++ dvs) H1 Q E

/-- how the parameters are bound: us the positional arguments, kw the keywords' values by name, ds the defaults that fill up -/
def Binds (K : PySem.W.Frag) (fd : FuncData) (ps : List Str) (ds : List Value) : Prop :=
  ∀ (s : Shared) (us : List Value), K.In s.heap → (us ++ ds).length = ps.length → BindsTo s fd ⟨us, []⟩ (ps.zip (us ++ ds))
/-- every parameter is given -/
theorem Binds.all {K : PySem.W.Frag} {fd : FuncData} {ps : List Str} (h : ∀ us : List Value, us.length = ps.length → bindArgs fd ⟨us, []⟩ = pure (ps.zip us)) : Binds K fd ps [] := fun s us _ hl => by
  rw [List.append_nil] at hl ⊢
  exact .of_eq (h us hl)

/-- an exception of a callee reaches what this body wants of exceptions -/
def Passes (CX : CXT) (X : Cx) (E : XK) : Prop := ∀ (pins : List (Addr × Obj)) (σ : St) (H : Hp) (s : Shared) (e : Value) (s' : Shared), Inv X pins σ H s → CX X.stack H s E e s' → X.xe e s'

section
variable {X : Cx} {CX : CXT} {k : Nat} {f C : Addr} {fd : FuncData} {ps : List Str} {sp : Sp} {dvs : List V} {ds : List Value} {E : XK} {x m : Str} {p pos apos : Pos} {e o : Expr} {es : List Expr} {ta : TE} {t : TA}

/-- the callee runs -/
theorem run_fn {pins : List (Addr × Obj)} {σ : St} {H : Hp} {s : Shared} {Q : VK} {us : List Value} {vs : List V} (F : FnOk X.prog X.w X.K X.mg X.base CX k f fd ps sp) (hr : Room k X.A) (hb : Binds X.K fd ps ds) (hd : Vals dvs ds) (hx : Passes CX X E)
    (I : Inv X pins σ H s) (r : Vals vs us) (h : sp (vs ++ dvs) H Q E) : wpAny (model X.prog X.w) X.A (call (.ref f) us) (EP X pins σ Q) X.xe s := by
  have r2 : Vals (vs ++ dvs) (us ++ ds) := r.append hd
  have hl : (us ++ ds).length = ps.length := by rw [← r2.length]; exact F.len _ _ _ _ h
  refine wpAny_call (codeAny_mono (F.run X.A X.stack s H ⟨us, []⟩ (us ++ ds) (vs ++ dvs) Q E hr I.env0 (hb s us I.kIn hl) r2 h) fun r s' hq => ?_)
  cases r with
  | error e => exact hx pins σ H s e s' I hq
  | ok fl =>
    cases fl with
    | ret u => exact I.after hq
    | next => exact False.elim hq
    | brk => exact False.elim hq
    | cont => exact False.elim hq

theorem pe_call (F : FnOk X.prog X.w X.K X.mg X.base CX k f fd ps sp) (hr : Room k X.A) (hg : Gl X x) (hm : X.mg x = some (.ref f)) (hk : PySem.W.keepIn X.K (.ref f) = true) (hb : Binds X.K fd ps ds) (hd : Vals dvs ds) (hx : Passes CX X E)
    (ha : PA X (e :: es) t) (hdb : (x == ("__debug__" : Str)) = false := by decide) (he : starEach (e :: es) X.env = (false, eval e X.env) :: starEach es X.env := by rfl) (hpl : (backTo pos (starEach es X.env)).any (·.1) = false := by rfl) :
    PE X (.Call (.Name x p) (e :: es) [] pos) (tCall sp dvs E t) := by
  intro pins s σ H Q I h
  refine wpAny_Call_Name_kw (ld_glob I hg hm ?_ hdb)
  refine PySem.W.callWith_K (h₀ := X.base) I.ok.mod.kin hk (thn (ha pos pins s σ H _ I h) fun us s1 ⟨vs, H1, I1, r, q⟩ => ⟨I1.kIn, ?_⟩) he hpl
  exact run_fn F hr hb hd hx I1 r q



end

/-! ### keywords -/
section
variable {X : Cx} {CX : CXT} {k : Nat} {f C : Addr} {fd : FuncData} {ps ks : List Str} {sp : Sp} {E : XK} {x m : Str} {p pos apos kpos : Pos} {e o : Expr} {es : List Expr} {kws : List Keyword} {te ta : TE} {t tk : TA} {nm : Option Str}

variable {g : List Value → List Value → List Value} {gV : List V → List V → List V}
end

/-! ### a def's body keeps its promise -/
/-- names: the parameters first -/
structure FnScope (N P : List Str) (sc : Scope) : Prop where
  kind : sc.kind = .function
  co : sc.isCoroutine = false
  gen : sc.isGenerator = false
  nd : N.Nodup
  pre : N.take P.length = P
  par : ∀ x ∈ P, sc.names.lookup x = some .local ∨ sc.names.lookup x = some .cell
  nofree : ∀ y ∈ sc.names, y.2 ≠ .free

theorem bindL_out {kindOf : Str → Option NameKind} {x : Str} : ∀ {binds : List (Str × Value)} {m : Str → Option Value}, (∀ v, (x, v) ∉ binds) → bindL kindOf binds m x = m x
  | [], _, _ => rfl
  | (n, v) :: r, m, h => by
    unfold bindL
    rw [bindL_out fun w hw => h w (List.mem_cons_of_mem _ hw)]
    split
    · have : x ≠ n := by rintro rfl; exact h v List.mem_cons_self
      simp [this]
    · rfl
theorem bindC_out {kindOf : Str → Option NameKind} {x : Str} : ∀ {binds : List (Str × Value)} {m : Str → Option Value}, (∀ v, (x, v) ∉ binds) → bindC kindOf binds m x = m x
  | [], _, _ => rfl
  | (n, v) :: r, m, h => by
    unfold bindC
    rw [bindC_out fun w hw => h w (List.mem_cons_of_mem _ hw)]
    split
    · rfl
    · have : x ≠ n := by rintro rfl; exact h v List.mem_cons_self
      simp [this]
theorem bindL_get {kindOf : Str → Option NameKind} {x : Str} {v : Value} : ∀ {P : List Str} {vs : List Value} {i : Nat} {m : Str → Option Value}, P.Nodup → P[i]? = some x → vs[i]? = some v → kindOf x = some .local →
    bindL kindOf (P.zip vs) m x = some v
  | [], _, _, _, _, h, _, _ => by simp at h
  | _ :: _, [], _, _, _, _, h, _ => by simp at h
  | p :: P, w :: vs, 0, m, nd, h1, h2, hk => by
    simp at h1 h2; subst h1; subst h2
    show bindL kindOf ((p, w) :: P.zip vs) m p = _
    unfold bindL
    rw [bindL_out fun v hv => (List.nodup_cons.mp nd).1 (List.of_mem_zip hv).1, if_pos hk]
    simp
  | p :: P, w :: vs, i + 1, m, nd, h1, h2, hk => by
    show bindL kindOf ((p, w) :: P.zip vs) m x = _
    unfold bindL
    exact bindL_get (i := i) (List.nodup_cons.mp nd).2 (by simpa using h1) (by simpa using h2) hk
theorem bindC_get {kindOf : Str → Option NameKind} {x : Str} {v : Value} : ∀ {P : List Str} {vs : List Value} {i : Nat} {m : Str → Option Value}, P.Nodup → P[i]? = some x → vs[i]? = some v → kindOf x ≠ some .local →
    bindC kindOf (P.zip vs) m x = some v
  | [], _, _, _, _, h, _, _ => by simp at h
  | _ :: _, [], _, _, _, _, h, _ => by simp at h
  | p :: P, w :: vs, 0, m, nd, h1, h2, hk => by
    simp at h1 h2; subst h1; subst h2
    show bindC kindOf ((p, w) :: P.zip vs) m p = _
    unfold bindC
    rw [bindC_out fun v hv => (List.nodup_cons.mp nd).1 (List.of_mem_zip hv).1, if_neg hk]
    simp
  | p :: P, w :: vs, i + 1, m, nd, h1, h2, hk => by
    show bindC kindOf ((p, w) :: P.zip vs) m x = _
    unfold bindC
    exact bindC_get (i := i) (List.nodup_cons.mp nd).2 (by simpa using h1) (by simpa using h2) hk

/-- the names' values at the entry -/
def start (N : List Str) (vs : List V) : St := vs.map some ++ List.replicate (N.length - vs.length) none

/-- the context of a def's body, at its entry; an exception leaves the frame, then lies as CX says -/
def cxOf (CX : CXT) (P : Program) (w : World) (K : PySem.W.Frag) (mg : Str → Option Value) (base : Heap) (N : List Str) (qual : Str) (scope : Scope) (f : Addr) (cd : Value) (A : Around) (outer : List Env) (s : Shared) (H : Hp) (E : XK) : Cx where
  prog := P
  w := w
  K := K
  mg := mg
  base := base
  A := A.deeper (envOfC qual scope s.heap.objs.size f cd)
  N := N
  s₀ := s
  H₀ := H
  env := envOfC qual scope s.heap.objs.size f cd
  outer := outer
  stack := envOfC qual scope s.heap.objs.size f cd :: outer
  ex := []
  calm := true
  fn := fun _ => true
  pn := []
  xe := fun e s' => wpAny (model P w) (A.deeper (envOfC qual scope s.heap.objs.size f cd)) (leaving (envOfC qual scope s.heap.objs.size f cd) e) (fun _ s'' => CX outer H s E e s'') (fun e' s'' => CX outer H s E e' s'') s'

theorem cell_has {sc : Scope} {n : Nat} {x : Str} (h : sc.names.lookup x = some .cell) : ∃ c, (cellsFrom n sc.names []).lookup x = some c := by
  have q := PySem.W.cellsFrom_some sc.names n [] (.inl h)
  exact Option.isSome_iff_exists.mp q

theorem inv_start {CX : CXT} {P : Program} {w : World} {K : PySem.W.Frag} {mg : Str → Option Value} {base : Heap} {N ps : List Str} {qual : Str} {scope : Scope} {f : Addr} {cd : Value} {A : Around} {outer : List Env} {s s1 : Shared} {H : Hp} {E : XK} {us : List Value} {vs : List V}
    (S : FnScope N ps scope) (hd : A.handled = none) (e0 : Env0 P w K mg base A outer s H) (hl : vs.length = ps.length) (r : Vals vs us)
    (x : InCallC s s.heap.objs.size (bindL (envOfC qual scope s.heap.objs.size f cd).kindOf (ps.zip us) fun _ => none) (cellsFrom (s.heap.objs.size + 1) scope.names []) (bindC (envOfC qual scope s.heap.objs.size f cd).kindOf (ps.zip us) fun _ => none) s1) :
    Inv (cxOf CX P w K mg base N qual scope f cd A outer s H E) [] (start N vs) H s1 := by
  have hpl : ps.length ≤ N.length := by have := congrArg List.length S.pre; rw [List.length_take] at this; omega
  obtain ⟨h1, tk, rfl, hk⟩ := x.done
  have noA : ∀ b : Addr, b ∉ (cxOf CX P w K mg base N qual scope f cd A outer s H E).ex := fun b z => absurd (show b ∈ ([] : List Addr) from z) (by simp)
  refine ⟨⟨e0.mod, S.kind, rfl, rfl, Nat.le_refl _, fun y z c h1 h2 => ?_, fun y hy => ?_, fun y c _ h => ?_, fun _ => hd, Around.frames_deeper e0.frames, .inr ⟨rfl, rfl⟩, fun b z => absurd z (noA b), e0.bs, e0.bsz, fun b _ _ => noA b, fun b z => absurd z (noA b), e0.funs, e0.frf⟩,
    rfl, e0.bare, Un.kept hk, ⟨_, x.toInCall.ns, fun i y v h1 h2 h3 => ?_⟩, fun y c h => ⟨_, x.cell y c h⟩, e0.hok.fresh (Nat.le_refl _), fun y c h => ?_, fun p hp => absurd (show p ∈ ([] : List (Addr × Obj)) from hp) (by simp), e0.hok.kept hk, ?_⟩
  · exact name_of_addr x.apart (PySem.mem_of_lookup h1) (PySem.mem_of_lookup h2)
  · have hy : scope.names.lookup y = some .cell ∨ scope.names.lookup y = some .free := hy
    rcases hy with hy | hy
    · exact cell_has hy
    · exact absurd rfl (S.nofree _ (PySem.mem_of_lookup hy))
  · exact Nat.le_of_lt (x.above y c (PySem.mem_of_lookup h))
  · have hi : i < vs.length := by
      unfold start at h2
      by_cases hi : i < vs.length
      · exact hi
      · rw [List.getElem?_append_right (by simpa using hi)] at h2
        rw [List.getElem?_replicate] at h2
        split at h2 <;> cases h2
    have ha : vs[i]? = some v := by
      unfold start at h2
      rw [List.getElem?_append_left (by simpa using hi), List.getElem?_map] at h2
      cases e : vs[i]? with
      | none => rw [e] at h2; cases h2
      | some a => rw [e] at h2; cases h2; rfl
    obtain ⟨u, hu, rv⟩ := r.get ha
    have hp : ps[i]? = some y := by
      rw [← S.pre, List.getElem?_take_of_lt (by omega)]; exact h1
    have ndP : ps.Nodup := by rw [← S.pre]; exact S.nd.sublist (List.take_sublist _ _)
    refine ⟨u, rv, ?_⟩
    rcases S.par y (List.mem_of_getElem? hp) with k | k
    · exact .inl ⟨k, bindL_get ndP hp hu k⟩
    · obtain ⟨c, e⟩ := cell_has (n := s.heap.objs.size + 1) k
      refine .inr ⟨.inl k, c, e, ?_⟩
      have q := x.cell y c e
      rw [bindC_get ndP hp hu (by show scope.names.lookup y ≠ _; rw [k]; decide)] at q
      exact q
  · exact e0.hok.fresh (Nat.le_of_lt (x.above y c (PySem.mem_of_lookup h)))
  · unfold start
    show _ = N.length
    rw [List.length_append, List.length_map, List.length_replicate]
    omega

/-- THE RULE: a def (or a method) of the text, by its body. The body's reading t is chosen for each entry; it is run at the parameters' values -/
theorem fn_of {CX : CXT} {P : Program} {w : World} {K : PySem.W.Frag} {mg : Str → Option Value} {base : Heap} {k : Nat} {f : Addr} {name qual : Str} {params : Arguments} {body : List Stmt} {scope : Scope} {dV kV doc pm cdv ct oc : Value} {an od : Option Addr}
    {osl : Array (Option Value)} {N ps : List Str} {sp : Sp} (lk : K.lookup f = some ⟨oc, od, .func (PySem.W.fnOf name qual params body scope dV kV doc pm an cdv ct), osl⟩) (hcd : PySem.W.codeIn K cdv qual = true) (S : FnScope N ps scope)
    (len : ∀ vs H Q E, sp vs H Q E → vs.length = ps.length)
    (hbody : ∀ (A : Around) (outer : List Env) (s : Shared) (H : Hp) (vs : List V) (Q : VK) (E : XK), Room k (A.deeper (envOfC qual scope s.heap.objs.size f cdv)) → sp vs H Q E →
      ∃ t, PSs (cxOf CX P w K mg base N qual scope f cdv A outer s H E) body t ∧ t { nx := fun _ H' => Q .non H', rt := Q } (start N vs) H) :
    FnOk P w K mg base CX (k + 1) f (PySem.W.fnOf name qual params body scope dV kV doc pm an cdv ct) ps sp := by
  refine ⟨len, fun A outer s H args us vs Q E hr e0 hb r hsp => ?_⟩
  have hl := len _ _ _ _ hsp
  have KX : K.In s.heap := e0.mod.kin.keeps fun b o e => (e0.bs b o e).1
  have lim : s.heap.NoLimit := e0.mod.nolimit.keeps fun b o e => (e0.bs b o e).1
  have hkind : ∀ y ∈ ps.zip us, scope.names.lookup y.1 = some .local ∨ (scope.names.lookup y.1 = some .cell ∧ ((cellsFrom (s.heap.objs.size + 1) scope.names []).lookup y.1).isSome = true) := fun ⟨n, v⟩ hy => by
    rcases S.par n (List.of_mem_zip hy).1 with q | q
    · exact .inl q
    · exact .inr ⟨q, PySem.W.cellsFrom_some _ _ _ (.inl q)⟩
  refine codeAny_call_function hr.depth (KX _ _ lk) rfl S.co S.gen rfl (PySem.W.codeRec_of KX hcd) (hb _ _ _ _ ?_)
  refine wpAny_newFunctionEnv_cells S.kind hkind fun env he s1 x => ?_
  subst he
  refine ⟨lim.keeps x.toInCall.keep, codeAny_func ?_⟩
  obtain ⟨t, ht, hq⟩ := hbody A outer s H vs Q E (hr.deeper _) hsp
  have I : Inv (cxOf CX P w K mg base N qual scope f cdv A outer s H E) [] (start N vs) H s1 := inv_start S hr.hd e0 hl r x
  refine wpAny_mono (ht [] s1 (start N vs) H _ I hq) (fun fl s' hs => ?_) fun e s' hs => hs
  have fin : ∀ {σ' : St} {H' : Hp} {v : V} {u : Value}, Inv (cxOf CX P w K mg base N qual scope f cdv A outer s H E) [] σ' H' s' → RelV v u → Q v H' → CE outer P w H s Q u s' :=
    fun {σ' H' v u} J rv q => ⟨v, H', J.os, J.bare, J.base, J.hok, rv, q⟩
  cases fl with
  | ret u =>
    obtain ⟨v, σ', H', J, rv, q⟩ := hs
    exact fin J rv q
  | next =>
    obtain ⟨σ', H', J, q⟩ := hs
    exact fin (v := V.non) (u := Value.none) J rfl q
  | brk =>
    obtain ⟨_, _, _, q⟩ := hs
    exact False.elim q
  | cont =>
    obtain ⟨_, _, _, q⟩ := hs
    exact False.elim q
end L2

namespace L2
open PySem PySem.Spec PyProof.Rows
section
variable {X : Cx} {x : Str} {p pos : Pos} {e : Expr} {es : List Expr} {t : TA} {id T : String} {r : List V → Hp → VK → Prop}

def tCB (r : List V → Hp → VK → Prop) (t : TA) : TE := fun σ H Q => t σ H fun vs H1 => r vs H1 Q
/-- f(e, ..), f a built-in function -/
theorem pe_callB (hc : CallR X (.builtin id) r) (hg : Gl X x) (hm : X.mg x = none) (hv : bootBuiltins x = some (.builtin id)) (ha : PA X (e :: es) t) (hn : x ≠ "__name__" := by decide) (hdb : (x == ("__debug__" : Str)) = false := by decide)
    (he : starEach (e :: es) X.env = (false, eval e X.env) :: starEach es X.env := by rfl) (hpl : (backTo pos (starEach es X.env)).any (·.1) = false := by rfl) : PE X (.Call (.Name x p) (e :: es) [] pos) (tCB r t) := by
  intro pins s σ H Q I h
  refine wpAny_Call_Name_kw (ld_blt I hg hm hv ?_ hn hdb)
  exact PyProof.Rows.callWith_builtin1 (thn (ha pos pins s σ H _ I h) fun us s1 ⟨vs, H1, I1, r1, q1⟩ => hc pins s1 σ H1 vs us Q I1 r1 q1) he hpl
/-- T(e, ..), T a built-in type -/
theorem pe_callTy (hc : CallR X (.type T) r) (hg : Gl X x) (hm : X.mg x = none) (hv : bootBuiltins x = some (.type T)) (ha : PA X (e :: es) t) (hn : x ≠ "__name__" := by decide) (hdb : (x == ("__debug__" : Str)) = false := by decide)
    (he : starEach (e :: es) X.env = (false, eval e X.env) :: starEach es X.env := by rfl) (hpl : (backTo pos (starEach es X.env)).any (·.1) = false := by rfl) : PE X (.Call (.Name x p) (e :: es) [] pos) (tCB r t) := by
  intro pins s σ H Q I h
  refine wpAny_Call_Name_kw (ld_blt I hg hm hv ?_ hn hdb)
  exact PyProof.Rows.callWith_type1 (thn (ha pos pins s σ H _ I h) fun us s1 ⟨vs, H1, I1, r1, q1⟩ => hc pins s1 σ H1 vs us Q I1 r1 q1) he hpl
end
end L2

namespace HT
open PySem PyProof.Rows



section
open PySem.SeqAt
open PySem.AutoSeq1 (wpAny_loadPart')
open PySem.MeetsSeq PySem.MeetsSeq2 PySem.MeetsSeq3

end

section
variable {prog : Program} {w : World} {A : Around} {E : Value → Shared → Prop} {s : Shared}



/-! ### t[a:b], not the whole -/
/-- a slice's bound as a place among n (d where it is left out) -/
def sIx (n d : Nat) : Option Int → Nat
  | none => d
  | some v => if v < 0 then (v + (n : Int)).toNat else min v.toNat n

end
end HT

namespace L2
open PySem PySem.Spec PyProof.Rows

/-! ### the parts of a slice -/
abbrev TO := St → Hp → (Option Int → Hp → Prop) → Prop
/-- a slice's part (left out, or an int) -/
def PO (X : Cx) (e : Option Expr) (t : TO) : Prop :=
  ∀ (pins : List (Addr × Obj)) (s : Shared) (σ : St) (H : Hp) (Q : Option Int → Hp → Prop), Inv X pins σ H s → t σ H Q →
    wpAny (model X.prog X.w) X.A (evalPart e X.env) (fun u s' => ∃ o H', Inv X pins σ H' s' ∧ IsPart u o ∧ Q o H') X.xe s
def tNoPart : TO := fun _ H Q => Q none H
def tPart (t : TE) : TO := fun σ H Q => t σ H fun x H1 => ∃ i, x = .int i ∧ Q (some i) H1


section
variable {X : Cx} {e : Expr} {te : TE} {lo hi : Option Expr} {tl th : TO} {pos p2 : Pos}

theorem po_none : PO X none tNoPart := by
  intro pins s σ H Q I h
  rw [evalPart_none]
  exact wpAny_pure ⟨none, H, I, .none, h⟩
theorem po_some (h : PE X e te) : PO X (some e) (tPart te) := by
  intro pins s σ H Q I hw
  rw [evalPart_some]
  refine thn (h pins s σ H _ I hw) fun u s1 ⟨x, H1, I1, r1, q1⟩ => ?_
  obtain ⟨i, rfl, q⟩ := q1
  obtain ⟨t, rfl⟩ := r1
  exact ⟨some i, H1, I1, .int i t, q⟩

/-- what a slice of a value is, by values: the slice object stands at sl -/
def SlR (X : Cx) (r : V → Option Int → Option Int → Hp → VK → Prop) : Prop :=
  ∀ (pins : List (Addr × Obj)) (s : Shared) (σ : St) (H : Hp) (x : V) (v vl vu : Value) (lo hi : Option Int) (sl : Addr) (Q : VK), Inv X pins σ H s → RelV x v → s.heap.IsSliceOf sl vl vu .none → IsPart vl lo → IsPart vu hi → r x lo hi H Q →
    ∃ T id, typeLookup (.type T) "__getitem__" = pure (some (.builtin id)) ∧ s.TypeIs v T ∧ wpAny (model X.prog X.w) X.A (getItem v (.ref sl)) (EP X pins σ Q) X.xe s
def tSl (r : V → Option Int → Option Int → Hp → VK → Prop) (te : TE) (tl th : TO) : TE := fun σ H Q => te σ H fun x H1 => tl σ H1 fun l H2 => th σ H2 fun u H3 => r x l u H3 Q
/-- a[lo:hi], any a -/
theorem pe_slice {r : V → Option Int → Option Int → Hp → VK → Prop} (hr : SlR X r) (he : PE X e te) (hl : PO X lo tl) (hu : PO X hi th) : PE X (.Subscript e (.Slice lo hi none p2) pos) (tSl r te tl th) := by
  intro pins s σ H Q I h
  refine Subscript_ (thn (he pins s σ H _ I h) fun v s1 ⟨x, H1, I1, r1, q1⟩ => ?_)
  refine wpAny_Slice (thn (hl pins s1 σ H1 _ I1 q1) fun vl s2 ⟨l, H2, I2, pl, q2⟩ => thn (hu pins s2 σ H2 _ I2 q2) fun vu s3 ⟨u, H3, I3, pu, q3⟩ => ?_)
  rw [evalPart_none]
  refine wpAny_pure ?_
  have I4 : Inv X pins σ H3 { s3 with heap := s3.heap.push { cls := .type "slice", data := .fields #[vl, vu, .none] } } := I3.kept (t' := s3.toks) fun b ob q => Heap.get?_push_of_some _ q
  obtain ⟨T, id, hT, ht, hg⟩ := hr pins { s3 with heap := s3.heap.push { cls := .type "slice", data := .fields #[vl, vu, .none] } } σ H3 x v vl vu l u s3.heap.objs.size Q I4 r1 (Heap.IsSliceOf.new ..) pl pu q3
  show wpAny (model X.prog X.w) X.A (subscriptTail e (.Slice lo hi none p2) v (.ref s3.heap.objs.size)) (EP X pins σ Q) X.xe { s3 with heap := s3.heap.push { cls := .type "slice", data := .fields #[vl, vu, .none] } }
  exact tail_any (ops := [.ref s3.heap.objs.size, v]) ht hT hg (by with_unfolding_all rfl)

/-- the items of xs[lo:hi] -/
def cutV (xs : List V) (lo hi : Option Int) : List V := (xs.drop (HT.sIx xs.length 0 lo)).take (HT.sIx xs.length xs.length hi - HT.sIx xs.length 0 lo)
theorem cutV_length (xs : List V) (lo hi : Option Int) : (cutV xs lo hi).length ≤ xs.length := by
  unfold cutV
  rw [List.length_take, List.length_drop]
  omega

/-! ### t < u, t + u -/
end
end L2

namespace L2
open PySem PySem.Spec PyProof.Rows

/-! ### places -/
/-- the place that an index of any sign means -/
def ixN (n : Nat) (i : Int) : Option Nat := if 0 ≤ i then (if i < n then some i.toNat else none) else if -(n : Int) ≤ i then some (i + n).toNat else none
def atI {α : Type} (xs : List α) (i : Int) : Option α := (ixN xs.length i).bind fun j => xs[j]?
theorem ixN_seq {n : Nat} {i : Int} {j : Nat} (h : ixN n i = some j) : seqIndex? i n = some j ∧ j < n ∧ -(n : Int) ≤ i ∧ i < n := by
  unfold ixN at h
  by_cases h0 : 0 ≤ i
  · rw [if_pos h0] at h
    by_cases h1 : i < n
    · rw [if_pos h1] at h
      have e : i.toNat = j := Option.some.inj h
      exact ⟨by rw [seqIndex_of h0 h1, e], by omega, by omega, h1⟩
    · rw [if_neg h1] at h; cases h
  · rw [if_neg h0] at h
    by_cases h1 : -(n : Int) ≤ i
    · rw [if_pos h1] at h
      have e : (i + n).toNat = j := Option.some.inj h
      exact ⟨by rw [seqIndex_neg (by omega) h1, e], by omega, h1, by omega⟩
    · rw [if_neg h1] at h; cases h
theorem atI_get {α : Type} {xs : List α} {i : Int} {v : α} (h : atI xs i = some v) : ∃ j, seqIndex? i xs.length = some j ∧ xs[j]? = some v ∧ j < xs.length ∧ -(xs.length : Int) ≤ i ∧ i < xs.length := by
  unfold atI at h
  cases e : ixN xs.length i with
  | none => rw [e] at h; cases h
  | some j =>
    rw [e] at h
    obtain ⟨h1, h2, h3, h4⟩ := ixN_seq e
    exact ⟨j, h1, h, h2, h3, h4⟩
theorem atI_nat {α : Type} {xs : List α} {j : Nat} {v : α} (h : xs[j]? = some v) : atI xs (j : Int) = some v := by
  have hj : j < xs.length := (List.getElem?_eq_some_iff.mp h).1
  have e : ixN xs.length (j : Int) = some j := by
    unfold ixN
    rw [if_pos (by omega), if_pos (by omega)]; simp
  unfold atI; rw [e]; exact h

/-! ### what may be subscripted -/
/-- what stands as an index of a plain subscript -/
def PlainIx (b : Expr) : Prop := ∀ o i, subscripted b false o i = operate [o, i] (getItem o i)
/-- a subscript by values -/
def IxR (X : Cx) (r : R2) : Prop :=
  ∀ (value slice : Expr) (pins : List (Addr × Obj)) (s : Shared) (σ : St) (H : Hp) (x y : V) (v u : Value) (Q : VK), Inv X pins σ H s → RelV x v → RelV y u → r x y H Q →
    subscripted slice false v u = operate [v, u] (getItem v u) → wpAny (model X.prog X.w) X.A (subscriptTail value slice v u) (EP X pins σ Q) X.xe s
/-- a call of a builtin's method by values: the receiver, the arguments -/
def MtR (X : Cx) (id : String) (r : V → List V → Hp → VK → Prop) : Prop :=
  ∀ (pins : List (Addr × Obj)) (s : Shared) (σ : St) (H : Hp) (x : V) (xs : List V) (v : Value) (us : List Value) (Q : VK), Inv X pins σ H s → RelV x v → Vals xs us → r x xs H Q →
    wpAny (model X.prog X.w) X.A (call (.builtin id) (v :: us)) (EP X pins σ Q) X.xe s
section
variable {X : Cx} {a b : Expr} {ta tb : TE} {pos : Pos}
/-- a[b] -/
theorem pe_ix {r : R2} (hr : IxR X r) (ha : PE X a ta) (hb : PE X b tb) (hs : PlainIx b) : PE X (.Subscript a b pos) (tOp r ta tb) := by
  intro pins s σ H Q I h
  exact Subscript_ (binT ha hb I h fun v u s2 x y H2 I2 rx ry q => hr a b pins s2 σ H2 x y v u Q I2 rx ry q (hs _ _))

def rIxL (K : PySem.W.Frag) : R2 := fun x y H Q => ∃ p xs i v, x = .ref p ∧ y = .int i ∧ SqL K H p xs ∧ atI xs i = some v ∧ Q v H
def rIxT (K : PySem.W.Frag) : R2 := fun x y H Q => ∃ p xs i v, x = .ref p ∧ y = .int i ∧ SqT K H p xs ∧ atI xs i = some v ∧ Q v H
theorem ix_list : IxR X (rIxL X.K) := by
  intro value slice pins s σ H x y v u Q I rx ry h hs
  obtain ⟨p, xs, i, z, rfl, rfl, hq, he, q⟩ := h
  cases rx
  obtain ⟨t, rfl⟩ := ry
  obtain ⟨its, r, pl, hz⟩ := I.list hq
  obtain ⟨j, h1, h2, h3, h4, h5⟩ := atI_get he
  obtain ⟨w, ew, rw'⟩ := r.get h2
  have hl := r.length
  have hn := line63
  have fin : EP X pins σ Q w s := ⟨z, H, I, rw', q⟩
  by_cases h0 : 0 ≤ i
  · have hj : i.toNat = j := by
      rw [seqIndex_of h0 h5] at h1
      exact Option.some.inj h1
    exact item_listR pl.isList h0 (by omega) (by rw [hj]; simpa using ew) fin hs
  · have hj : (i + (its.toArray.size : Int)).toNat = j := by
      rw [seqIndex_neg (by omega) h4] at h1
      rw [List.size_toArray, ← hl]
      exact Option.some.inj h1
    exact subscriptTail_builtinR (x := w) pl.isList.typeIs slot_list_getitem.lookup
      (wpAny_getItem_list_neg (Q := fun r s' => r = w ∧ EP X pins σ Q r s') pl.isList (by omega) (by rw [List.size_toArray] <;> omega) (by omega) (by rw [hj]; simpa using ew) ⟨rfl, fin⟩) hs
theorem ix_tup : IxR X (rIxT X.K) := by
  intro value slice pins s σ H x y v u Q I rx ry h hs
  obtain ⟨p, xs, i, z, rfl, rfl, hq, he, q⟩ := h
  cases rx
  obtain ⟨t, rfl⟩ := ry
  obtain ⟨its, r, pl, hz⟩ := I.tuple hq
  obtain ⟨j, h1, h2, h3, h4, h5⟩ := atI_get he
  obtain ⟨w, ew, rw'⟩ := r.get h2
  have hl := r.length
  have hn := line63
  have fin : EP X pins σ Q w s := ⟨z, H, I, rw', q⟩
  exact subscriptTail_builtinR (x := w) pl.typeIs slot_tuple_getitem.lookup
    (getItem_tuple (j := j) (Q := fun r s' => r = w ∧ EP X pins σ Q r s') pl (by omega) (by omega) (by rw [List.size_toArray, ← hl]; exact h1) (by simpa using ew) ⟨rfl, fin⟩) hs

/-! ### xs[i] = v, any sign -/
/-- the list's object behind a store -/
theorem mapSeq_set (its : List Value) (n j : Nat) (u : Value) : Obj.mapSeq (·.setIfInBounds j u) { cls := .type "list", data := .seq its.toArray n } = { cls := .type "list", data := .seq (its.set j u).toArray n } := by
  simp [Obj.mapSeq]
theorem Inv.lst {pins : List (Addr × Obj)} {σ : St} {H : Hp} {s : Shared} {p : Addr} {xs : List V} (I : Inv X pins σ H s) (h : H p = some (.lst xs)) :
    ∃ (its : List Value) (n : Nat), Vals xs its ∧ s.heap.get? p = some { cls := .type "list", data := .seq its.toArray n } ∧ xs.length ≤ sizeLine := by
  obtain ⟨z, its, n, r, e⟩ := I.hok p _ h
  exact ⟨its, n, r, e, z⟩
/-- the list at p is written by an update of its object -/
theorem Inv.lstUpd {pins : List (Addr × Obj)} {σ : St} {H : Hp} {s : Shared} {p : Addr} {xs ys : List V} {its its' : List Value} {n n' : Nat} {f : Obj → Obj} (I : Inv X pins σ H s) (h : H p = some (.lst xs))
    (ho : s.heap.get? p = some { cls := .type "list", data := .seq its.toArray n }) (hf : f { cls := .type "list", data := .seq its.toArray n } = { cls := .type "list", data := .seq its'.toArray n' }) (r : Vals ys its') (hz : ys.length ≤ sizeLine) (t : Nat) :
    Inv X pins σ (upd H p (.lst ys)) { s with heap := s.heap.update p f, toks := t } := by
  have e : (s.heap.update p f).get? p = some { cls := .type "list", data := .seq its'.toArray n' } := by
    rw [Heap.get?_update_self f ho (by rw [hf] <;> rfl), hf]
  refine I.write (x := p) (e := p) (by rw [h]; trivial) (.inl rfl) (fun b u hb q => (Heap.get?_update_other _ _ (Ne.symm hb)).trans q) ⟨_, e⟩ ?_
  exact ⟨hz, its', n', r, e⟩
def rSetL : V → V → V → Hp → (Hp → Prop) → Prop := fun o i v H Q => ∃ p xs k j, o = .ref p ∧ i = .int k ∧ H p = some (.lst xs) ∧ ixN xs.length k = some j ∧ Q (upd H p (.lst (xs.set j v)))
theorem set_list : PSet X rSetL := by
  intro pins s σ H o i v ov iv u Q I ro ri rv h
  obtain ⟨p, xs, k, j, rfl, rfl, hp, hj, q⟩ := h
  cases ro
  obtain ⟨t, rfl⟩ := ri
  obtain ⟨its, n, r, ho, hz⟩ := I.lst hp
  obtain ⟨h1, h2, h3, h4⟩ := ixN_seq hj
  have hl := r.length
  have hn := line63
  have I' : Inv X pins σ (upd H p (.lst (xs.set j v))) { s with heap := s.heap.update p (Obj.mapSeq (·.setIfInBounds j u)) } :=
    I.lstUpd hp ho (mapSeq_set its n j u) (r.set rv j) (by rw [List.length_set]; exact hz) s.toks
  by_cases h0 : 0 ≤ k
  · have hk : k.toNat = j := by
      rw [seqIndex_of h0 h4] at h1
      exact Option.some.inj h1
    exact PySem.W.ki_setAt ho h0 (by omega) (by rw [List.size_toArray, ← hl]; exact h4) (by rw [hk]; exact ⟨_, I', q⟩)
  · have hk : (k + (its.toArray.size : Int)).toNat = j := by
      rw [seqIndex_neg (by omega) h3] at h1
      rw [List.size_toArray, ← hl]
      exact Option.some.inj h1
    exact PySem.W.ki_setBack ho (by omega) (by rw [List.size_toArray, ← hl]; exact h3) (by omega) (by rw [hk]; exact ⟨_, I', q⟩)

/-! ### slices -/
theorem slice_bounds (lo hi : Option Int) (n : Nat) : (sliceBounds lo hi none n).1 = ((HT.sIx n 0 lo : Nat) : Int) ∧ (sliceBounds lo hi none n).2.1 = ((HT.sIx n n hi : Nat) : Int) ∧ (sliceBounds lo hi none n).2.2 = 1 := by
  refine ⟨?_, ?_, rfl⟩
  · cases lo with
    | none => simp [sliceBounds, HT.sIx]
    | some i =>
      simp only [sliceBounds, HT.sIx, Option.getD_none, show (1 : Int) > 0 by decide, if_true]
      by_cases h : i < 0
      · simp only [h, if_true] <;> omega
      · simp only [h, if_false] <;> omega
  · cases hi with
    | none => simp [sliceBounds, HT.sIx]
    | some i =>
      simp only [sliceBounds, HT.sIx, Option.getD_none, show (1 : Int) > 0 by decide, if_true]
      by_cases h : i < 0
      · simp only [h, if_true] <;> omega
      · simp only [h, if_false] <;> omega
theorem slicePick_cut (its : List Value) (lo hi : Option Int) : slicePick its.toArray lo hi none = ((its.drop (HT.sIx its.length 0 lo)).take (HT.sIx its.length its.length hi - HT.sIx its.length 0 lo)).toArray := by
  obtain ⟨h1, h2, h3⟩ := slice_bounds lo hi its.toArray.size
  unfold slicePick
  rw [h1, h2, h3]
  simp only [sliceRange_one, pick_run, List.size_toArray] <;> rfl
/-- xs[lo:hi] of a list: a new list -/
def rSlL (K : PySem.W.Frag) : V → Option Int → Option Int → Hp → VK → Prop := fun x lo hi H Q => ∃ a xs, x = .ref a ∧ SqL K H a xs ∧ ∀ p, H p = none → Q (.ref p) (upd H p (.lst (cutV xs lo hi)))
theorem sl_list : SlR X (rSlL X.K) := by
  intro pins s σ H x v vl vu lo hi sl Q I rx hs pl pu h
  obtain ⟨a, xs, rfl, hx, q⟩ := h
  cases rx
  obtain ⟨its, r, ht, hz⟩ := I.list hx
  have hlen := r.length
  refine ⟨"list", _, slot_list_getitem.lookup, ht.isList.typeIs, ?_⟩
  refine wpAny_getItem_list_slice ht.isList hs pl pu .none (by simp) ?_ (by rw [List.size_toArray] <;> omega)
  rw [slicePick_cut, ← hlen]
  refine ⟨.ref s.heap.objs.size, _, I.laid (t' := s.toks) (o := .lst (cutV xs lo hi)) (fun b ob q => Heap.get?_push_of_some _ q) (Nat.le_refl _) ?_, rfl, q _ (I.hok.fresh (Nat.le_refl _))⟩
  exact ⟨Nat.le_trans (cutV_length xs lo hi) hz, _, 0, (r.drop (HT.sIx xs.length 0 lo)).take (HT.sIx xs.length xs.length hi - HT.sIx xs.length 0 lo), Heap.get?_push_size _ rfl⟩

/-! ### in, not in: flat items -/

/-! ### len, list(x), tuple(x) of any list or tuple that is read -/
theorem call_len_seq : CallR X (.builtin "len") (fun xs H Q => ∃ p ys, xs = [.ref p] ∧ (SqL X.K H p ys ∨ SqT X.K H p ys) ∧ Q (.int ys.length) H) := by
  intro pins s σ H xs us Q I r h
  obtain ⟨p, ys, rfl, hq, q⟩ := h
  obtain ⟨u, rfl, rx⟩ := vals1 r
  cases rx
  have hn := line63
  rcases hq with hq | hq
  · obtain ⟨its, r', pl, hz⟩ := I.list hq
    have hlen := r'.length
    exact Calls.call_len_list pl.isList (by simp only [List.size_toArray] <;> omega) ⟨.int ys.length, H, I.tok _, ⟨s.toks + 1, by rw [List.size_toArray, hlen]⟩, q⟩
  · obtain ⟨its, r', pl, hz⟩ := I.tuple hq
    have hlen := r'.length
    exact len_tuple pl (by simp only [List.size_toArray] <;> omega) ⟨.int ys.length, H, I.tok _, ⟨s.toks + 1, by rw [List.size_toArray, hlen]⟩, q⟩
theorem call_list_of : CallR X (.type "list") (fun xs H Q => ∃ p ys, xs = [.ref p] ∧ (SqL X.K H p ys ∨ SqT X.K H p ys) ∧ ∀ l, H l = none → Q (.ref l) (upd H l (.lst ys))) := by
  intro pins s σ H xs us Q I r h
  obtain ⟨p, ys, rfl, hq, q⟩ := h
  obtain ⟨u, rfl, rx⟩ := vals1 r
  cases rx
  have fin : ∀ (its : List Value), Vals ys its → ys.length ≤ sizeLine → ∀ (h' : Heap) (c' : Nat), (∀ b o', s.heap.get? b = some o' → h'.get? b = some o') →
      h'.get? s.heap.objs.size = some { cls := .type "list", dict := none, data := .seq its.toArray c', slots := #[] } → EP X pins σ Q (.ref s.heap.objs.size) { s with heap := h' } := fun its r' hz h' c' kp e =>
    ⟨.ref s.heap.objs.size, _, I.laid (t' := s.toks) kp (Nat.le_refl _) (show ObjOk X.prog X.w _ h' _ (.lst ys) from ⟨hz, its, c', r', e⟩), rfl, q _ (I.hok.fresh (Nat.le_refl _))⟩
  rcases hq with hq | hq
  · obtain ⟨its, r', pl, hz⟩ := I.list hq
    have hlen := r'.length
    obtain ⟨o, ho, hc, n, hd⟩ := pl.isList
    exact call_list_seq p (.inl rfl) ho hc hd (fun h' c' kp e => fin its r' hz h' c' kp e) (by simp only [List.size_toArray] <;> omega)
  · obtain ⟨its, r', pl, hz⟩ := I.tuple hq
    have hlen := r'.length
    obtain ⟨o, ho, hc, n, hd⟩ := pl
    exact call_list_seq p (.inr rfl) ho hc hd (fun h' c' kp e => fin its r' hz h' c' kp e) (by simp only [List.size_toArray] <;> omega)

/-! ### the call of a builtin's method: o.m(..) -/
/-- the value is of that builtin type -/
def tyV (K : PySem.W.Frag) (T : String) (x : V) (H : Hp) : Prop := match x with
  | .str _ => T = "str"
  | .int _ => T = "int"
  | .ref p => (T = "list" ∧ ∃ xs, SqL K H p xs) ∨ (T = "tuple" ∧ ∃ o, K.lookup p = some o ∧ o.cls = .type "tuple" ∧ o.dict = none) ∨
      (T = "dict" ∧ ((∃ kvs, H p = some (.dK kvs)) ∨ ∃ kvs, H p = some (.dT kvs))) ∨ (T = "set" ∧ ∃ S n, H p = some (.set S n))
  | _ => False
theorem tyV_is {pins : List (Addr × Obj)} {σ : St} {H : Hp} {s : Shared} {T : String} {x : V} {v : Value} (I : Inv X pins σ H s) (r : RelV x v) (ty : tyV X.K T x H) :
    s.TypeIs v T ∧ ∀ a, v = .ref a → ∃ ob, s.heap.get? a = some ob ∧ ob.dict = none := by
  cases x with
  | str z =>
    obtain ⟨t, rfl⟩ := r
    cases (show T = "str" from ty)
    exact ⟨typeIs_str s z t, fun _ e => nomatch e⟩
  | int i =>
    obtain ⟨t, rfl⟩ := r
    cases (show T = "int" from ty)
    exact ⟨typeIs_int s i t, fun _ e => nomatch e⟩
  | ref p =>
    cases r
    rcases ty with ⟨rfl, xs, hq⟩ | ⟨rfl, o, hk, hc, hd⟩ | ⟨rfl, hk⟩ | ⟨rfl, S, n, hk⟩
    · obtain ⟨its, _, pl, _⟩ := I.list hq
      refine ⟨pl.isList.typeIs, fun a e => ?_⟩
      cases e
      obtain ⟨o, n, e, c, hd, _⟩ := pl
      exact ⟨o, e, hd⟩
    · refine ⟨⟨o, I.kIn p o hk, hc⟩, fun a e => ?_⟩
      cases e
      exact ⟨o, I.kIn _ o hk, hd⟩
    · have z : ∃ o, s.heap.get? p = some o ∧ o.ExactDict := by
        rcases hk with ⟨kvs, hk⟩ | ⟨kvs, hk⟩
        · obtain ⟨_, _, _, _, o, _, _, e, ex, _⟩ := I.hok p _ hk
          exact ⟨o, e, ex⟩
        · obtain ⟨_, _, _, _, o, _, _, e, ex, _⟩ := I.hok p _ hk
          exact ⟨o, e, ex⟩
      obtain ⟨o, e, ex⟩ := z
      refine ⟨⟨o, e, ex.1⟩, fun a e2 => ?_⟩
      cases e2
      exact ⟨o, e, ex.2.1⟩
    · obtain ⟨o, _, _, _, e, ex, _⟩ := I.hok p _ hk
      refine ⟨⟨o, e, ex.1⟩, fun a e2 => ?_⟩
      cases e2
      exact ⟨o, e, ex.2.1⟩
  | _ => exact False.elim ty
def tBM0 (K : PySem.W.Frag) (T : String) (r : V → List V → Hp → VK → Prop) (to : TE) : TE := fun σ H Q => to σ H fun x H1 => tyV K T x H1 ∧ r x [] H1 Q
def tBM (K : PySem.W.Frag) (T : String) (r : V → List V → Hp → VK → Prop) (to : TE) (t : TA) : TE := fun σ H Q => to σ H fun x H1 => tyV K T x H1 ∧ t σ H1 fun xs H2 => r x xs H2 Q
variable {o e : Expr} {es : List Expr} {to : TE} {t : TA} {name : Str} {apos cpos : Pos} {T id : String} {r : V → List V → Hp → VK → Prop}
theorem pe_bm0 (pa : PlainAttrs T) (slot : Slot T name id) (hty : typeOf (.builtin id) = pure (.type "method_descriptor")) (hm : MtR X id r) (ho : PE X o to)
    (hbase : attributeBase o name X.env (eval o X.env) = eval o X.env := by rfl) (hline : (apos.endLine == cpos.line) = true := by rfl) : PE X (.Call (.Attribute o name apos) [] [] cpos) (tBM0 X.K T r to) := by
  intro pins s σ H Q I h
  refine wpAny_Call_method0_late hbase hline (thn (ho pins s σ H _ I h) fun v s1 ⟨x, H1, I1, r1, ty, q1⟩ => ?_)
  obtain ⟨h1, h2⟩ := tyV_is I1 r1 ty
  exact ⟨T, id, pa, slot, hty, h1, h2, Calls.callWith_builtin rfl (PySem.evalArgs_none (hm pins s1 σ H1 x [] v [] Q I1 r1 .nil q1))⟩
theorem pe_bm (pa : PlainAttrs T) (slot : Slot T name id) (hty : typeOf (.builtin id) = pure (.type "method_descriptor")) (hm : MtR X id r) (ho : PE X o to) (ha : PA X (e :: es) t)
    (hbase : attributeBase o name X.env (eval o X.env) = eval o X.env := by rfl)
    (hfew : ((backTo cpos (starEach (e :: es) X.env)).all (fun x => !x.1) && (backToKw cpos (keywordEach [] X.env)).all (fun x => x.1.isSome)
      && decide ((e :: es).length + ([] : List Keyword).length + (if ([] : List Keyword).isEmpty then 0 else 1) < 30)) = true := by rfl)
    (hline : (apos.endLine == cpos.line) = true := by rfl) (hs : starEach (e :: es) X.env = (false, eval e X.env) :: starEach es X.env := by rfl) (hplain : (backTo cpos (starEach es X.env)).any (·.1) = false := by rfl) :
    PE X (.Call (.Attribute o name apos) (e :: es) [] cpos) (tBM X.K T r to t) := by
  intro pins s σ H Q I h
  refine wpAny_Call_method_late hbase hfew hline rfl (thn (ho pins s σ H _ I h) fun v s1 ⟨x, H1, I1, r1, ty, q1⟩ => ?_)
  obtain ⟨h1, h2⟩ := tyV_is I1 r1 ty
  refine ⟨T, id, pa, slot, hty, h1, h2, ?_⟩
  have hA := ha cpos pins s1 σ H1 _ I1 q1
  rw [hs] at hA ⊢
  refine Calls.callWith_builtin (by show (false || (backTo cpos (starEach es X.env)).any (·.1)) = false; rw [hplain] <;> rfl) (Calls.evalArgs_plain ?_)
  exact thn hA fun us s2 ⟨vs, H2, I2, r2, q2⟩ => hm pins s2 σ H2 x vs v us Q I2 r1 r2 q2
/- xs.append(e), list.index on a module's tuple .. are MtR facts of 06m -/
end
end L2

namespace L2
open PySem PySem.Spec PyProof.Rows

def MtM (X : Cx) (id : String) (r : V → List V → Hp → VK → Prop) : Prop :=
  ∀ (pins : List (Addr × Obj)) (s : Shared) (σ : St) (H : Hp) (x : V) (xs : List V) (v : Value) (us : List Value) (Q : VK), Inv X pins σ H s → RelV x v → Vals xs us → r x xs H Q →
    wpAny (model X.prog X.w) X.A (call (.builtin id) (v :: us)) (EP X pins σ Q) X.xe s

/-! ### lists of values -/
theorem Vals.one : ∀ {x : V} {us : List Value}, Vals [x] us → ∃ u, us = [u] ∧ RelV x u
  | _, _, .cons r .nil => ⟨_, rfl, r⟩
theorem Vals.zero : ∀ {us : List Value}, Vals [] us → us = []
  | _, .nil => rfl
theorem Vals.reverse {xs : List V} {us : List Value} (h : Vals xs us) : Vals xs.reverse us.reverse := by
  induction h with
  | nil => exact .nil
  | cons r t ih => rw [List.reverse_cons, List.reverse_cons]; exact Vals.append ih (.cons r .nil)

section
variable {X : Cx} {pins : List (Addr × Obj)} {σ : St} {H : Hp} {s : Shared} {l b : Addr} {xs ys zs : List V}

/-! ### the two steps: a tracked list is rewritten, a new list is laid -/
theorem Inv.lset {its its' : List Value} {n : Nat} {f : Array Value → Array Value} {t' : Nat} (I : Inv X pins σ H s) (hH : H l = some (.lst xs))
    (e : s.heap.get? l = some { cls := .type "list", data := .seq its.toArray n }) (hf : f its.toArray = its'.toArray) (hv : Vals ys its') (hz : ys.length ≤ sizeLine) :
    Inv X pins σ (upd H l (.lst ys)) { s with heap := s.heap.update l (Obj.mapSeq f), toks := t' } := by
  have q := PySem.IsL.update e f
  rw [hf] at q
  refine I.write (x := l) (e := l) (by rw [hH]; exact trivial) (.inl rfl) (fun b' u hb hu => (Heap.get?_update_other s.heap (Obj.mapSeq f) (Ne.symm hb)).trans hu) ⟨_, q⟩ ?_
  exact ⟨hz, its', _, hv, q⟩
theorem Inv.lnew {its : List Value} {t' : Nat} (I : Inv X pins σ H s) (hv : Vals ys its) (hz : ys.length ≤ sizeLine) :
    Inv X pins σ (upd H s.heap.objs.size (.lst ys)) { s with heap := s.heap.push { cls := .type "list", data := .seq its.toArray }, toks := t' } :=
  I.laid (fun _ _ q => Heap.get?_push_of_some _ q) (Nat.le_refl _) ⟨hz, its, 0, hv, Heap.get?_push_size _ rfl⟩
theorem Inv.fresh (I : Inv X pins σ H s) : H s.heap.objs.size = none := I.hok.fresh (Nat.le_refl _)
theorem Inv.lstM (I : Inv X pins σ H s) (hH : H l = some (.lst xs)) : xs.length ≤ sizeLine ∧ ∃ (its : List Value) (n : Nat), Vals xs its ∧ xs.length = its.length ∧ s.heap.get? l = some { cls := .type "list", data := .seq its.toArray n } := by
  obtain ⟨z, its, n, r, e⟩ := I.hok l _ hH
  exact ⟨z, its, n, r, r.length, e⟩

theorem notLongL {n : Nat} (h : n ≤ sizeLine) : Builtin.List.listTooLong n = false := by
  unfold Builtin.List.listTooLong
  exact decide_eq_false (by omega)
end

section
variable {X : Cx}

/-! ### methods -/
def rAppend : V → List V → Hp → VK → Prop := fun x vs H Q => ∃ l xs y, x = .ref l ∧ vs = [y] ∧ H l = some (.lst xs) ∧ xs.length < sizeLine ∧ Q .non (upd H l (.lst (xs ++ [y])))
theorem mt_append : MtM X "list.append" rAppend := by
  intro pins s σ H x vs v us Q I rx rv h
  obtain ⟨l, xs, y, rfl, rfl, hH, hz, q⟩ := h
  cases rx
  obtain ⟨u, rfl, ru⟩ := rv.one
  obtain ⟨z, its, n, r, hl, e⟩ := I.lstM hH
  refine call_meets F.slot_list_append ⟨_, e, rfl⟩ F.entry_list_append (F.args_list_append_2 _ _) (PySem.list_append l its.toArray n u (by rw [List.size_toArray]; omega)) ⟨e, ?_⟩
  refine ⟨.non, _, I.lset (its' := its ++ [u]) hH e (by simp) (r.append (.cons ru .nil)) ?_, rfl, q⟩
  rw [List.length_append, List.length_singleton]
  omega

def rExtend : V → List V → Hp → VK → Prop := fun x vs H Q => ∃ l b xs zs, x = .ref l ∧ vs = [.ref b] ∧ H l = some (.lst xs) ∧ H b = some (.lst zs) ∧ xs.length + zs.length ≤ sizeLine ∧ Q .non (upd H l (.lst (xs ++ zs)))
theorem mt_extend : MtM X "list.extend" rExtend := by
  intro pins s σ H x vs v us Q I rx rv h
  obtain ⟨l, b, xs, zs, rfl, rfl, hH, hB, hz, q⟩ := h
  cases rx
  obtain ⟨u, rfl, ru⟩ := rv.one
  cases ru
  obtain ⟨z, its, n, r, hl, e⟩ := I.lstM hH
  obtain ⟨z2, its2, n2, r2, hl2, e2⟩ := I.lstM hB
  have hsz : its.toArray.size + its2.toArray.size ≤ sizeLine := by rw [List.size_toArray, List.size_toArray]; omega
  have hlong : ¬ (!its.toArray.isEmpty && Builtin.List.listTooLong (its.toArray.size + its2.toArray.size)) = true := by
    rw [notLongL hsz, Bool.and_false]
    exact Bool.false_ne_true
  refine call_meets F.slot_list_extend ⟨_, e, rfl⟩ F.entry_list_extend (F.args_list_extend_2 _ _)
    (AutoSeq1.list_extend_list_list_0 l its.toArray n b its2.toArray n2 hlong (by rw [List.size_toArray]; omega) (by omega)) ⟨e, e2, ?_⟩
  refine ⟨.non, _, I.lset (its' := its ++ its2) hH e (by simp) (r.append r2) ?_, rfl, q⟩
  rw [List.length_append]
  omega




def rClear : V → List V → Hp → VK → Prop := fun x vs H Q => ∃ l xs, x = .ref l ∧ vs = [] ∧ H l = some (.lst xs) ∧ Q .non (upd H l (.lst []))
theorem mt_clear : MtM X "list.clear" rClear := by
  intro pins s σ H x vs v us Q I rx rv h
  obtain ⟨l, xs, rfl, rfl, hH, q⟩ := h
  cases rx
  have hus := rv.zero
  subst hus
  obtain ⟨z, its, n, r, hl, e⟩ := I.lstM hH
  refine call_meets F.slot_list_clear ⟨_, e, rfl⟩ F.entry_list_clear (F.args_list_clear_1 _) (AutoSeq1.list_clear_list_0 l its.toArray n (by rw [List.size_toArray]; omega)) ⟨e, ?_⟩
  exact ⟨.non, _, I.lset (its' := []) (ys := []) hH e rfl .nil (Nat.zero_le _), rfl, q⟩

/-! ### list + list, list += list, list * int -/
def rCat : R2 := fun x y H Q => ∃ l b xs zs, x = .ref l ∧ y = .ref b ∧ H l = some (.lst xs) ∧ H b = some (.lst zs) ∧ xs.length + zs.length ≤ sizeLine ∧ ∀ p, H p = none → Q (.ref p) (upd H p (.lst (xs ++ zs)))
theorem op_cat : OpR X (binaryOp .Add) rCat := by
  intro pins s σ H x y v u Q I rx ry h
  obtain ⟨l, b, xs, zs, rfl, rfl, hH, hB, hz, q⟩ := h
  cases rx
  cases ry
  obtain ⟨z, its, n, r, hl, e⟩ := I.lstM hH
  obtain ⟨z2, its2, n2, r2, hl2, e2⟩ := I.lstM hB
  refine PySem.P.add_list e e2 ?_ (by rw [List.size_toArray, List.size_toArray]; omega)
  have ea : its.toArray ++ its2.toArray = (its ++ its2).toArray := by simp
  rw [ea]
  exact ⟨.ref _, _, I.lnew (t' := s.toks) (r.append r2) (by rw [List.length_append]; omega), rfl, q _ I.fresh⟩

/-! ### del xs[i] -/
end

/-! ### xs[a:b] = ys -/
section
variable {prog : Program} {w : World} {A : Around} {E : Value → Shared → Prop} {s : Shared}
set_option maxRecDepth 100000 in
end

end L2

namespace Att
open PySem PySem.W PySem.Calls PyProof.Rows

/-! ### the script -/
theorem ints_of_wellAll {P : Params} {h : Heap} : ∀ (ns : List Int) (vs : List Value), WellAll P h vs (ns.map WData.int) → IntsAre vs ns := by
  intro ns
  induction ns with
  | nil =>
    intro vs w
    rw [List.map_nil] at w
    cases w
    exact .nil
  | cons n ns ih =>
    intro vs w
    rw [List.map_cons] at w
    cases w with
    | cons a b =>
      cases a
      exact .cons _ _ (ih _ b)

theorem script_of {l : OpenLaw} {n : Nat} (hn : l.most = some n) {P : Params} {h : Heap} {args : List WData} {vals : List Value}
    (hpre : l.row.toRowW.claim.pre args = true) (hwl : WellAll P h vals args) :
    ∃ a vs ns, vals = [Value.ref a] ∧ args = [WData.list (ns.map WData.int)] ∧ h.get? a = some { cls := .type "list", data := .seq vs.toArray } ∧ IntsAre vs ns ∧ ns.length ≤ n := by
  have hsh : WShape.hasAll [] args [.list .int] = true := (pre_splitW hpre).1
  have hc : l.pre.holds [] { args := args } = true := (pre_splitW hpre).2
  obtain ⟨d, r, rfl, h1, h2⟩ := hasAllW_cons hsh
  obtain rfl := hasAllW_nil h2
  obtain ⟨xs, rfl, h3⟩ := hasW_list h1
  obtain ⟨ns, rfl⟩ := items_int h3
  have hlen : ns.length ≤ n := by
    unfold OpenLaw.pre at hc
    have h4 : (WTm.not (.lt (.lit (.int (n : Int))) (.len (.arg 0)))).holds [] { args := [.list (ns.map .int)] } = true := by
      have h4 := (holds_andW hc).1
      rw [hn] at h4
      exact h4
    have h5 := condW_of h4 (w_not (w_lt w_lit (w_len_list (w_arg rfl))))
    rw [List.length_map] at h5
    refine Nat.le_of_not_lt fun q => ?_
    have q' : (n : Int) < ((ns.length : Nat) : Int) := by omega
    first
      | (rw [decide_eq_true q'] at h5; exact absurd h5 (by decide))
      | (simp at h5; omega)
  cases hwl with
  | cons w1 w2 =>
    cases w2
    cases w1 with
    | list ho hall => exact ⟨_, _, ns, rfl, rfl, ho, ints_of_wellAll ns _ hall, hlen⟩

theorem post_true (l : OpenLaw) (args : List WData) : l.row.toRowW.claim.post args (.bool true) args = true :=
  postW_of (r := l.row.toRowW) (X := (true == true))
    (show WShape.has [] (.bool true) .bool = true by first | rfl | decide | simp [WShape.has, WShape.arms, WShape.armsAll])
    (show (WTm.eq .res (.lit (.bool true))).value [] { args := args, res := some (.bool true), after := args } = some (.bool (true == true)) from w_eq_bool (w_res rfl) w_lit) rfl

/-! ### the attachment: holds_open's last premise (the goal 'hc' behind k_head) from a wpAny of the law's body -/

/-- the same from a codeAny of the CALL (for a layer whose function contracts speak of calls) -/
theorem attach_call {l : OpenLaw} {n : Nat} {q : Program} {loose : List Str} {XP : (Str → Option Value) → Heap → Prop} {YP : World → Heap → Prop} {d : DefRec}
    (hn : l.most = some n) (hdf : d.params.defaults = [])
    (call : ∀ (w : World) (s₀ s₁ : Shared) (mg mb : Str → Option Value) (fa : Addr) (o : Obj) (pm cd doc : Value) (a : Addr) (vs : List Value) (ns : List Int),
      Ground q loose [] XP w s₀ mg mb s₁.heap → YP w s₁.heap →
      s₁.heap.get? fa = some o → o.data = .func (docDef d.name d.params d.body d.scope pm cd doc) → s₁.heap.CodeRec cd d.name → mg d.name = some (.ref fa) →
      s₁.heap.get? a = some { cls := .type "list", data := .seq vs.toArray } → IntsAre vs ns → ns.length ≤ n → s₁.gens = #[] →
      codeAny (model l.prog w) callerA (.call (.ref fa) ⟨[.ref a], []⟩) (fun r s' => r = .ok (.ret (.bool true)) ∧ OldK s₁.heap s'.heap ∧ s'.os = s₁.os ∧ AllBare s'.gens) s₁) :
    WalkO q loose XP YP l.row.toRowW d [] (fun f vs => PySem.call f vs) := by
  intro w s₀ s₁ mg mb G Y fa o pm cd doc dV kV ho hd hcd hD hmg hg args vals as hpre hlay hrd hwl hlo
  obtain rfl : dV = .none := Dflts.none hD hdf
  obtain rfl : kV = .none := Dflts.noKw hD
  obtain ⟨a, vs, ns, rfl, rfl, hobj, hints, hlen⟩ := script_of hn hpre hwl
  refine enter_call (codeAny_mono (call w s₀ s₁ mg mb fa o pm cd doc a vs ns G Y ho (fd_plain hd) hcd hmg hobj hints hlen hg) fun r s' hq => ?_)
  obtain ⟨rfl, h2, h3, h4⟩ := hq
  exact ⟨.inl ⟨.bool true, .bool true, [], rfl, fun _ => rfl, .bool true, post_true l _, fun _ => ⟨List.Pairwise.nil, fun _ hm => (nomatch hm)⟩⟩, h2, h3, h4⟩


/-! ### rules over ANY heap (no ledger) from facts about the written part K: the library's own take a ledger (News) for what they write -/
section
variable {prog : Program} {w : World} {A : Around} {E : Value → Shared → Prop} {s : Shared} {K : Frag}





/-! the whole heap as the ledger: makes every rule that writes through a ledger a rule over any heap -/

end
end Att

namespace L2
open PySem PySem.Spec PyProof.Rows

theorem vals_ints : ∀ {vs : List Value} {ns : List Int}, IntsAre vs ns → Vals (ns.map V.int) vs
  | _, _, .nil => .nil
  | _, _, .cons n t h => .cons ⟨t, rfl⟩ (vals_ints h)

/-- nothing is tracked but the script, known to the object (or it is an object of the module) -/
def Only (H : Hp) : Prop := ∀ b, H b = none ∨ ∃ o xs, H b = some (.frz o (.lst xs))

/-- THE HEAD: the law's promise, at the heap behind the top. F, the promise of the law's def, may use that base is part of the heap (so K.In base, base.Ns mainGlobals mg stand in Mod) -/
theorem law_call {P : Program} {w : World} {K : PySem.W.Frag} {mg mb : Str → Option Value} {CX : CXT} {k : Nat} {fa a : Addr} {fd : FuncData} {x : Str} {sp : Sp} {s₁ : Shared} {vs : List Value} {ns : List Int}
    (KX : K.In s₁.heap) (hns : s₁.heap.Ns mainGlobals mg) (hb : s₁.heap.Ns builtinsNs mb) (hbb : ∀ x : Str, x ≠ "__name__" → mb x = bootBuiltins x) (hlim : s₁.heap.NoLimit) (hg : s₁.gens = #[])
    (ha : s₁.heap.get? a = some { cls := .type "list", data := .seq vs.toArray }) (hi : IntsAre vs ns) (hl : ns.length ≤ sizeLine) (hr : Room k callerA)
    (F : ∀ base : Heap, K.In base → base.Ns mainGlobals mg → FnOk P w K mg base CX k fa fd [x] sp) (hbind : ∀ (s : Shared) (u : Value), BindsTo s fd ⟨[u], []⟩ [(x, u)])
    (hsp : ∀ H : Hp, Only H → SqL K H a (ns.map V.int) → sp [.ref a] H (fun v _ => v = .bl true) fun _ _ _ => False)
    (hCX : ∀ H e s', CX [] H s₁ (fun _ _ _ => False) e s' → False) :
    codeAny (model P w) callerA (.call (.ref fa) ⟨[.ref a], []⟩) (fun r s' => r = .ok (.ret (.bool true)) ∧ OldK s₁.heap s'.heap ∧ s'.os = s₁.os ∧ AllBare s'.gens) s₁ := by
  have rv := vals_ints hi
  have lenV := hi.length
  -- from an abstract heap in which nothing but the script may be tracked
  have core : ∀ H : Hp, Only H → SqL K H a (ns.map V.int) → HOk P w H s₁.heap → (∀ b, H b ≠ none → b = a) → (H a ≠ none → K.lookup a = none) →
      codeAny (model P w) callerA (.call (.ref fa) ⟨[.ref a], []⟩) (fun r s' => r = .ok (.ret (.bool true)) ∧ OldK s₁.heap s'.heap ∧ s'.os = s₁.os ∧ AllBare s'.gens) s₁ := by
    intro H hO hS hok hA hK
    have base_of : ∀ {b : Addr} {o : Obj}, s₁.heap.get? b = some o → H b = none → (hidT s₁.heap H).get? b = some o := fun e n => hidT_get e n
    have noA : ∀ {b : Addr} {o : Obj} {es : Array DictEntry} {ep : Nat}, s₁.heap.get? b = some o → o.data = .dict es ep → H b = none := fun {b o es ep} e d => by
      cases q : H b with
      | none => rfl
      | some u =>
        have e' : b = a := hA b (by rw [q]; simp)
        subst e'
        rw [ha] at e; cases e
        have d' : Data.seq vs.toArray _ = Data.dict es ep := d
        cases d'
    have nsK : ∀ {b : Addr} {m : Str → Option Value}, s₁.heap.Ns b m → (hidT s₁.heap H).Ns b m := fun {b m} ⟨o, es, ep, e, d, r⟩ => ⟨o, es, ep, base_of e (noA e d), d, r⟩
    have hKb : K.In (hidT s₁.heap H) := fun b o e => base_of (KX b o e) (by
      cases q : H b with
      | none => rfl
      | some u =>
        have e' : b = a := hA b (by rw [q]; simp)
        subst e'
        rw [hK (by rw [q]; simp)] at e; cases e)
    have hM : Mod K mg (hidT s₁.heap H) := ⟨hKb, nsK hns, ⟨mb, nsK hb, hbb⟩, let ⟨mc, h1, h2⟩ := hlim; ⟨mc, nsK h1, h2⟩⟩
    have e0 : Env0 P w K mg (hidT s₁.heap H) callerA [] s₁ H := ⟨rfl, hM, fun b o e => of_hidT e, Nat.le_of_eq (hidT_size _ _), trivial, fun b hb => absurd (show b ∈ ([] : List Addr) from hb) (by simp), hok, .of_eq hg⟩
    refine codeAny_mono ((F _ hKb (nsK hns)).run callerA [] s₁ H ⟨[.ref a], []⟩ [.ref a] [.ref a] _ _ hr e0 (hbind s₁ (.ref a)) (.cons rfl .nil) (hsp H hO hS)) fun r s' h => ?_
    cases r with
    | error e => exact (hCX H e s' h).elim
    | ok fl =>
      cases fl with
      | next => exact False.elim h
      | brk => exact False.elim h
      | cont => exact False.elim h
      | ret u =>
        obtain ⟨v, H', os, bare, un, hok', r', q⟩ := h
        have q' : v = .bl true := q
        subst q'
        obtain rfl : u = Value.bool true := r'
        refine ⟨rfl, OldK.of_keep fun b o e => ?_, os, bare⟩
        cases q : H b with
        | none => exact un.keep b o e q (by intro z; exact absurd (show b ∈ ([] : List Addr) from z) (by simp)) (by simp)
        | some u =>
          rcases hO b with z | ⟨ob, xs, z⟩
          · rw [q] at z; cases z
          · have z2 := un.frzs b ob _ z
            obtain ⟨e1, _⟩ := hok b _ z
            obtain ⟨e2, _⟩ := hok' b _ z2
            rw [e] at e1; cases e1
            exact e2
  cases hk : K.lookup a with
  | some o =>
    -- the script is one of the module's own objects
    have e := KX a o hk
    rw [ha] at e
    cases e
    refine core (fun _ => none) (fun _ => .inl rfl) (.inr ⟨_, vs.toArray, _, hk, rfl, rfl, rfl, by rw [List.size_toArray, lenV]; exact hl, by simpa using rv⟩) (fun b u z => by have z' : (none : Option HO) = some u := z; cases z') (fun b z => absurd rfl z) fun z => absurd rfl z
  | none =>
    refine core (fun b => if b = a then some (.frz { cls := .type "list", data := .seq vs.toArray } (.lst (ns.map V.int))) else none) (fun b => ?_) (.inl (.inr ⟨{ cls := .type "list", data := .seq vs.toArray }, if_pos rfl⟩)) (fun b u z => ?_) (fun b z => ?_) fun _ => hk
    · by_cases hb : b = a
      · exact .inr ⟨_, _, if_pos hb⟩
      · exact .inl (if_neg hb)
    · by_cases hb : b = a
      · have z' := (if_pos hb).symm.trans z
        cases z'
        subst hb
        exact ⟨ha, by rw [List.length_map]; exact hl, vs, _, rv, ha⟩
      · have z' := (if_neg hb).symm.trans z
        cases z'
    · by_cases hb : b = a
      · exact hb
      · exact absurd (if_neg hb) z
end L2

namespace L2
open PySem PySem.Spec PyProof.Rows


/-- the goal that k_head leaves (case hc), from the law's promise. F gives the function object fd (K's own) once, then the promise over every base -/
theorem walk_of {l : PySem.W.OpenLaw} {n k : Nat} {q : Program} {loose : List Str} {XP : (Str → Option Value) → Heap → Prop} {YP : World → Heap → Prop} {d : DefRec} {K : Params → PySem.W.Frag} {CX : World → CXT} {sp : World → Sp} {x : Str}
    (hn : l.most = some n) (hn2 : n ≤ sizeLine) (hdf : d.params.defaults = []) (hr : Room k callerA)
    (hY : ∀ (w : World) (h : Heap), YP w h → (K w.params).In h)
    (F : ∀ (w : World) (mg : Str → Option Value) (fa : Addr) (h : Heap), (K w.params).In h → h.Ns mainGlobals mg → mg d.name = some (.ref fa) →
      ∃ fd : FuncData, (∀ (s : Shared) (u : Value), BindsTo s fd ⟨[u], []⟩ [(x, u)]) ∧
        ∀ base : Heap, (K w.params).In base → base.Ns mainGlobals mg → FnOk l.prog w (K w.params) mg base (CX w) k fa fd [x] (sp w))
    (hsp : ∀ (w : World) (H : Hp) (a : Addr) (ns : List Int), ns.length ≤ n → Only H → SqL (K w.params) H a (ns.map V.int) → sp w [.ref a] H (fun v _ => v = .bl true) fun _ _ _ => False)
    (hCX : ∀ (w : World) (H : Hp) (s : Shared) (e : Value) (s' : Shared), CX w [] H s (fun _ _ _ => False) e s' → False) :
    PySem.W.WalkO q loose XP YP l.row.toRowW d [] (fun f vs => PySem.call f vs) := by
  refine Att.attach_call hn hdf fun w s₀ s₁ mg mb fa o pm cd doc a vs ns G Y ho hd hcd hmg hobj hints hlen hg => ?_
  have KX := hY w _ Y
  obtain ⟨fd, hb, hF⟩ := F w mg fa _ KX G.T.g hmg
  exact law_call KX G.T.g G.T.b G.T.builtins G.T.nolimit hg hobj hints (Nat.le_trans hlen hn2) hr hF hb (fun H hO hS => hsp w H a ns hlen hO hS) fun H e s' => hCX w H s₁ e s'
end L2



/-! SHORT WORDS over the layer: a def of the text, its body, what a loop and a test want. -/
namespace L2
open PySem PySem.Spec PyProof.Rows

/-! ### the text by places -/
def defArgs (s : Stmt) : Arguments := match s with
  | .FunctionDef _ a _ _ _ _ _ _ _ _ => a
  | _ => { posonlyargs := [], args := [], vararg := none, kwonlyargs := [], kw_defaults := [], kwarg := none, defaults := [] }
def defBody (s : Stmt) : List Stmt := match s with
  | .FunctionDef _ _ b _ _ _ _ _ _ _ => b
  | _ => []
def defScope (s : Stmt) : Scope := match s with
  | .FunctionDef _ _ _ _ _ _ sc _ _ _ => sc
  | _ => { kind := .function, names := [], isGenerator := false, isCoroutine := false }

/-! ### no exception leaves a def -/
abbrev CX0 : CXT := fun _ _ _ _ _ _ => False
abbrev E0 : XK := fun _ _ _ => False
theorem pass0 {X : Cx} : Passes CX0 X E0 := fun _ _ _ _ _ _ _ h => h.elim

/-! ### a def (or method) of the text as it stands behind the top -/
structure Fun (K : PySem.W.Frag) (x qual : Str) (st : Stmt) (f : Addr) (fd : FuncData) : Prop where
  ex : ∃ (oc : Value) (od : Option Addr) (kV doc pm : Value) (an : Option Addr) (cdv ct : Value) (osl : Array (Option Value)),
    fd = PySem.W.fnOf x qual (defArgs st) (defBody st) (defScope st) .none kV doc pm an cdv ct ∧ K.lookup f = some ⟨oc, od, .func fd, osl⟩ ∧ PySem.W.codeIn K cdv qual = true
  kp : PySem.W.keepIn K (.ref f) = true
section
variable {P : Program} {w : World} {K : PySem.W.Frag} {mg : Str → Option Value} {base : Heap}
/-- THE RULE for a def: its body as a term of rules, and the reading of that term -/
theorem Fun.ok {x qual : Str} {st : Stmt} {f : Addr} {fd : FuncData} {N ps : List Str} {k : Nat} {sp : Sp} (F : Fun K x qual st f fd) (S : FnScope N ps (defScope st)) (len : ∀ vs H Q E, sp vs H Q E → vs.length = ps.length)
    (hbody : ∀ (cdv : Value) (A : Around) (outer : List Env) (s : Shared) (H : Hp) (vs : List V) (Q : VK) (E : XK), Room k (A.deeper (envOfC qual (defScope st) s.heap.objs.size f cdv)) → sp vs H Q E →
      ∃ t, PSs (cxOf CX0 P w K mg base N qual (defScope st) f cdv A outer s H E).nox (defBody st) t ∧ t { nx := fun _ H' => Q .non H', rt := Q } (start N vs) H) : FnOk P w K mg base CX0 (k + 1) f fd ps sp := by
  obtain ⟨oc, od, kV, doc, pm, an, cdv, ct, osl, rfl, lk, hcd⟩ := F.ex
  refine fn_of lk hcd S len fun A outer s H vs Q E hr hsp => ?_
  obtain ⟨t, h, q⟩ := hbody cdv A outer s H vs Q E hr hsp
  exact ⟨t, h.nox, q⟩
/-- how its arguments bind (no defaults): h is «fun _ _ _ _ _ _ us hl => match us, hl with | [_, _], _ => rfl», one _ a parameter -/
theorem Fun.binds {x qual : Str} {st : Stmt} {f : Addr} {fd : FuncData} {ps : List Str} (F : Fun K x qual st f fd)
    (h : ∀ (kV doc pm : Value) (an : Option Addr) (cdv ct : Value) (us : List Value), us.length = ps.length → bindArgs (PySem.W.fnOf x qual (defArgs st) (defBody st) (defScope st) .none kV doc pm an cdv ct) ⟨us, []⟩ = pure (ps.zip us)) : Binds K fd ps [] := by
  obtain ⟨oc, od, kV, doc, pm, an, cdv, ct, osl, rfl, lk, hcd⟩ := F.ex
  exact .all (h kV doc pm an cdv ct)
theorem fun_mk {x qual : Str} {st : Stmt} {f : Addr} {oc : Value} {od an : Option Addr} {osl : Array (Option Value)} {kV doc pm cdv ct : Value} (l : K.lookup f = some ⟨oc, od, .func (PySem.W.fnOf x qual (defArgs st) (defBody st) (defScope st) .none kV doc pm an cdv ct), osl⟩)
    (c : PySem.W.codeIn K cdv qual = true) (k : PySem.W.keepIn K (.ref f) = true) : Fun K x qual st f (PySem.W.fnOf x qual (defArgs st) (defBody st) (defScope st) .none kV doc pm an cdv ct) := ⟨⟨oc, od, kV, doc, pm, an, cdv, ct, osl, rfl, l, c⟩, k⟩
end
theorem small1000 {n : Nat} (h : n ≤ 1000) : n < sizeLine := Nat.lt_of_le_of_lt h (by decide)

/-! ### expressions in short: the name that stands in the i-th slot -/
section
variable {X : Cx}
theorem pv (i : Nat) {x : Str} {pos : Pos} (hN : X.N[i]? = some x := by rfl) (hv : Vis X.env.scope x := by first | exact Or.inl rfl | exact Or.inr (Or.inl rfl) | exact Or.inr (Or.inr rfl)) (hd : (x == ("__debug__" : Str)) = false := by decide)
    (hcd : (x == ("__classdict__" : Str)) = false := by decide) : PE X (.Name x pos) (tVar i) := pe_var hN hv hd hcd
end

/-! ### tests -/

/-! ### heaps -/
/-- all that was tracked is as it was -/
def Same (H H' : Hp) : Prop := ∀ b o, H b = some o → H' b = some o
theorem Same.trans {H H1 H2 : Hp} (a : Same H H1) (b : Same H1 H2) : Same H H2 := fun c o h => b c o (a c o h)
theorem Same.free {H H' : Hp} (e : Same H H') {l : Addr} (h : H' l = Option.none) : H l = Option.none := by
  cases q : H l with
  | none => rfl
  | some o =>
    rw [e l o q] at h
    cases h

end L2

set_option linter.all false
set_option maxRecDepth 100000
set_option maxHeartbeats 4000000
namespace L2
open PySem PySem.Spec PyProof.Rows
/-! wider rules of one's own over the layer -/
/-- so many bits at the most -/
def Bd (n : Nat) (i : Int) : Prop := i.natAbs < 2 ^ n
theorem Bd.mono {m n : Nat} {i : Int} (h : Bd m i) (e : m ≤ n) : Bd n i := Nat.lt_of_lt_of_le h (Nat.pow_le_pow_right (by decide) e)
theorem Bd.mul {m n : Nat} {i j : Int} (h : Bd m i) (g : Bd n j) : Bd (m + n) (i * j) := by
  unfold Bd at *
  rw [Int.natAbs_mul, Nat.pow_add]
  by_cases e : i.natAbs = 0
  · rw [e, Nat.zero_mul]; exact Nat.mul_pos (Nat.pow_pos (by decide)) (Nat.pow_pos (by decide))
  · exact Nat.mul_lt_mul_of_lt_of_le h (Nat.le_of_lt g) (Nat.pow_pos (by decide))
theorem Bd.add {m : Nat} {i j : Int} (h : Bd m i) (g : Bd m j) : Bd (m + 1) (i + j) := by
  unfold Bd at *
  have := Int.natAbs_add_le i j
  rw [Nat.pow_succ]; omega
theorem Bd.neg {m : Nat} {i : Int} (h : Bd m i) : Bd m (-i) := by
  unfold Bd at *; rw [Int.natAbs_neg]; exact h
theorem Bd.sub {m : Nat} {i j : Int} (h : Bd m i) (g : Bd m j) : Bd (m + 1) (i - j) := by
  rw [Int.sub_eq_add_neg]; exact h.add g.neg
theorem Bd.bits {m : Nat} {i : Int} (h : Bd m i) : Builtin.Int.intBits i ≤ m := by
  unfold Bd at h
  unfold Builtin.Int.intBits
  split
  · exact Nat.zero_le _
  · rename_i hz
    have hn : i.natAbs ≠ 0 := by
      intro e; apply hz; have : i = 0 := Int.natAbs_eq_zero.mp e
      subst this; rfl
    have := (Nat.log2_lt hn).mpr h
    omega
theorem Bd.log {m : Nat} {i : Int} (h : Bd m i) (hm : 0 < m) : i.natAbs.log2 < m := by
  unfold Bd at h
  by_cases e : i.natAbs = 0
  · rw [e]; simpa using hm
  · exact (Nat.log2_lt e).mpr h
theorem Bd.le {m : Nat} {i j : Int} (h : Bd m j) (e : i.natAbs ≤ j.natAbs) : Bd m i := Nat.lt_of_le_of_lt e h
theorem mulOk_of {m n : Nat} {i j : Int} (h : Bd m i) (g : Bd n j) (e : m + n ≤ 134217728) : IntMulOk i j := by
  unfold IntMulOk
  intro z
  rw [Bool.and_eq_true, Bool.and_eq_true] at z
  obtain ⟨_, z⟩ := z
  unfold Builtin.Int.intTooBig at z
  have hz := of_decide_eq_true z
  have h1 := h.bits
  have h2 := g.bits
  have h3 : (bitsLine : Int) = 134217728 := by decide +kernel
  rw [h3] at hz
  omega
/-- a division that goes by no other module -/
def CDivB (_ j : Int) : Prop := j ≠ 0 ∧ Bd 9000 j
section
variable {X : Cx}
theorem op_mulB : OpR X (binaryOp .Mult) (rI IntMulOk fun i j => .int (i * j)) := opI fun _ _ _ _ _ _ _ hc q => mul_int q hc
theorem op_fdivB : OpR X (binaryOp .FloorDiv) (rI CDivB fun i j => .int (i.fdiv j)) := opI fun _ _ _ _ _ _ _ hc q => floordiv_int hc.1 q (.inl (PyProof.noPylong_of_log2 (hc.2.log (by decide))))
/-- isinstance(x, T), T a type of the language -/
theorem call_isinst : CallR X (.builtin "isinstance") (fun xs H Q => ∃ x n t b, xs = [x, .ty n] ∧ TyOf X.K H x t ∧ PySem.W.kitOne X.K t (.type n) = some b ∧ Q (.bl b) H) := by
  intro pins s σ H xs us Q I r h
  obtain ⟨x, n, t, b, rfl, ty, e, q⟩ := h
  obtain ⟨u, v, rfl, ru, rv⟩ := vals2 r
  cases (show v = Value.type n from rv)
  exact isinst_ok I ru ty e fun tk => ⟨.bl b, H, I.tok _, rfl, q⟩
theorem kit_same {K : PySem.W.Frag} {n : String} : PySem.W.kitOne K (.type n) (.type n) = some true := by
  unfold PySem.W.kitOne; rw [if_pos (beq_self_eq_true _)]
end
/-! ### == of tuples and lists of data -/
def TupI (K : PySem.W.Frag) (H : Hp) (v : V) (ns : List Int) : Prop := ∃ a, v = .ref a ∧ SqT K H a (ns.map V.int)
section
open PySem.SeqAt PyProof.V
variable {X : Cx} {pins : List (Addr × Obj)} {σ : St} {H : Hp} {s : Shared}
theorem readsAll_ints {h : Heap} : ∀ {ns : List Int} {us : List Value}, Vals (ns.map V.int) us → ReadsAll h us (ns.map PyData.int) [] := by
  intro ns
  induction ns with
  | nil => intro us h; cases h; exact .nil
  | cons n ns ih =>
    intro us hv
    cases hv with
    | cons r t =>
      obtain ⟨k, rfl⟩ := (show ∃ t, _ = Value.int n t from r)
      have := ReadsAll.cons (Reads.int (h := h) n k) (ih t)
      simpa using this
theorem Inv.tupI {v : V} {u : Value} {ns : List Int} (I : Inv X pins σ H s) (r : RelV v u) (t : TupI X.K H v ns) : Reads s.heap u (.tuple (ns.map PyData.int)) [] := by
  obtain ⟨a, rfl, h⟩ := t
  cases r
  obtain ⟨its, rv, p, _⟩ := I.tuple h
  obtain ⟨o, ho, hc, n, hd⟩ := p
  exact Reads.tuple ho hc hd (by simpa using readsAll_ints rv)
theorem shaped_ti (ns : List Int) : shaped (.tuple (ns.map PyData.int)) = true := by
  have h1 := PySem.W.depthAll_ints ns
  have h2 : PyData.depth (.tuple (ns.map PyData.int)) ≤ 64 := by simp only [PyData.depth]; omega
  show (PyData.canLay0 (.tuple (ns.map PyData.int)) && decide (PyData.depth (.tuple (ns.map PyData.int)) ≤ 64)) = true
  rw [Bool.and_eq_true]
  exact ⟨by simp only [PyData.canLay0]; exact PySem.W.canLayAll0_ints ns, decide_eq_true h2⟩
end
section
open PySem.SeqAt PyProof.V
variable {X : Cx}
/-- tuples of ints -/
def rEqTI (K : PySem.W.Frag) (neg : Bool) : R2 := fun x y H Q => ∃ ns ms, TupI K H x ns ∧ TupI K H y ms ∧ Q (.bl (if neg then !decide (ns = ms) else decide (ns = ms))) H
theorem op_eqTI (hu : X.A.units + 64 < cLine) : OpR X (compareOp .Eq) (rEqTI X.K false) := by
  intro pins s σ H x y v u Q I rx ry h
  obtain ⟨ns, ms, h1, h2, q⟩ := h
  refine eq_dataH_same (I.tupI rx h1) (I.tupI ry h2) (shaped_ti ns) (shaped_ti ms) hu (by simp only [noMix]; exact PySem.W.noMix_ints ns ms) (fin_bl I q ?_)
  simp only [PySem.Spec.same]; rw [PySem.W.same_ints]; rfl
end
end L2

set_option linter.all false
set_option maxRecDepth 100000
set_option maxHeartbeats 4000000
namespace L2
open PySem PySem.Spec PyProof.Rows
/-! ### a comprehension -/
/-- the context of its block -/
def blk (X : Cx) (N' : List Str) (scope : Scope) (cl : List (Str × Addr)) (C : Addr) (fp : List Addr) (s0 : Shared) (H0 : Hp) : Cx :=
  { X with N := N', s₀ := s0, H₀ := H0, env := compEnvC scope cl C X.env, outer := X.stack, stack := X.stack, ex := fp, fn := fun _ => false, pn := [], xe := fun _ _ => False }
/-- what was known of the slots is known -/
def KeepS (a b : St) : Prop := b.length = a.length ∧ ∀ (i : Nat) v, a[i]? = some (some v) → b[i]? = some (some v)
theorem KeepS.none1 {v : Option V} : KeepS [none] [v] := ⟨rfl, fun i w h => by
  cases i with
  | zero => cases h
  | succ i => simp at h⟩
def tComp (wi : TI) (fr : St → St) (g : TG) (te : TE) : TE := fun σ H Q => wi σ H fun J H1 => ∀ D, H1 D = none → ∃ W : Nat → Nat → List V → Hp → Prop, (∃ m, W 0 m [] (upd H1 D (.lst []))) ∧
  ∀ i m ys H2, W i m ys H2 → (J.stop i H2 ∧ Q (.ref D) H2) ∨ (J.go i H2 ∧ ys.length < sizeLine ∧ ∀ x H3, J.yld i H2 x H3 → g x (fr σ) H3 fun σ2 H3' => KeepS (fr σ) σ2 ∧ te σ2 H3' fun y H4 =>
    H4 D = some (.lst ys) ∧ ∃ m', m' < m ∧ W (i + 1) m' (ys ++ [y]) (upd H4 D (.lst (ys ++ [y]))))
section
variable {X : Cx}
theorem blk_ok {pins : List (Addr × Obj)} {σ : St} {H : Hp} {s : Shared} {N' : List Str} {scope : Scope} {cl : List (Str × Addr)} {fp : List Addr} (I : Inv X pins σ H s) (hkind : scope.kind = .function)
    (hcl : ∀ y c, cl.lookup y = some c → X.env.cells.lookup y = some c) (hhas : ∀ y, ((relabel scope X.env).names.lookup y = some .cell ∨ (relabel scope X.env).names.lookup y = some .free) → ∃ c, cl.lookup y = some c)
    (hf : ∀ b ∈ fp, FpOk X pins H b) (hlt : ∀ b ∈ fp, b < s.heap.objs.size) : (blk X N' scope cl s.heap.objs.size fp s H).Ok where
  mod := I.ok.mod
  kind := by simp [blk, compEnvC, relabel, hkind]
  glob := I.ok.glob
  blt := I.ok.blt
  above := Nat.le_refl _
  inj := fun x y c h1 h2 => I.ok.inj x y c (hcl x c h1) (hcl y c h2)
  has := fun x h => hhas x h
  cab := fun x c h => nomatch h
  hd := I.ok.hd
  frames := I.ok.frames
  stk := .inl rfl
  exf := fun b hb => ⟨Nat.ne_of_lt (hlt b hb), fun x c e => (hf b hb).2.2.2.2.1 x c (hcl x c e)⟩
  bs := I.bs
  bsz := Nat.le_trans I.ok.bsz I.sz
  noex := fun b o e hb => by
    rcases (hf b hb).2.2.2.1 with z | z
    · exact I.ok.noex b o e z
    · exact absurd (Nat.lt_of_lt_of_le (Heap.lt_size e) (Nat.le_trans I.ok.bsz z)) (Nat.lt_irrefl _)
  exfs := fun b hb z => by
    rcases List.mem_cons.mp (I.stkSub b z) with e | e
    · exact (hf b hb).2.1 e
    · exact (hf b hb).2.2.1 e
  funs := I.stack
  frf := I.stkFree
theorem pe_lcomp {tg elt iter : Expr} {scope : Scope} {cl : List (Str × Addr)} {pos : Pos} {N' : List Str} {wi : TI} {fr : St → St} {g : TG} {te : TE}
    (hc : X.calm = true) (hi : PI X tg iter wi)
    (hg : ∀ C fp s0 H0, PG (blk X N' scope cl C fp s0 H0) tg g) (he : ∀ C fp s0 H0, PE (blk X N' scope cl C fp s0 H0) elt te)
    (hclos : closureFor scope X.env = pure cl) (hkind : scope.kind = .function) (hnames : ∀ x ∈ scope.names, x.2 = .local → scope.names.lookup x.1 = some .local) (hcell : ∀ y ∈ scope.names, y.2 ≠ .cell)
    (hcl : ∀ y c, cl.lookup y = some c → X.env.cells.lookup y = some c) (hhas : ∀ y, ((relabel scope X.env).names.lookup y = some .cell ∨ (relabel scope X.env).names.lookup y = some .free) → ∃ c, cl.lookup y = some c)
    (hfl : ∀ σ : St, σ.length = X.N.length → (fr σ).length = N'.length)
    (hfr : ∀ (σ : St) (i : Nat) (y : Str) (v : V), N'[i]? = some y → (fr σ)[i]? = some (some v) → ∃ j : Nat, X.N[j]? = some y ∧ σ[j]? = some (some v) ∧ X.env.kindOf y = some .cell ∧ (relabel scope X.env).names.lookup y = some .cell)
    (hs : ∀ x, foldedSetIterable iter X.env x = pure x := by intro _; rfl) :
    PE X (.ListComp elt [⟨tg, iter, [], 0⟩] scope pos) (tComp wi fr g te) := by
  intro pins s σ H Q I h
  rw [eval_ListComp]
  refine wpAny_comprehension_free (use := none) rfl hs hclos hkind hnames ?_
  refine thn (hi pins s σ H _ I h) fun v s1 h1 => thn h1 fun itv s2 h2 => ?_
  obtain ⟨it, fp, tn, J, H2, rfl, I2, T, st2, f2, q2⟩ := h2
  have D0 : H2 s2.heap.objs.size = none := I2.hok.fresh (Nat.le_refl _)
  obtain ⟨W, ⟨m0, w0⟩, turn⟩ := q2 _ D0
  refine wpAny_newObj_type (wpAny_newFunctionEnv hcell (by intro y hy; simp at hy) (fun h₁ hns₁ hsb₁ => ?_) hkind)
  dsimp only at hns₁ hsb₁ ⊢
  have I3 : Inv X pins σ (upd H2 s2.heap.objs.size (.lst [])) { s2 with heap := s2.heap.push { cls := .type "list", dict := none, data := .seq ([] : List Value).toArray } } :=
    I2.laid (t' := s2.toks) (fun b u e => Heap.get?_push_of_some _ e) (Nat.le_refl _) ⟨Nat.zero_le _, [], _, .nil, Heap.get?_push_size _ rfl⟩
  generalize hH3 : upd H2 s2.heap.objs.size (.lst []) = H3 at I3 w0
  generalize hs3 : ({ s2 with heap := s2.heap.push { cls := .type "list", dict := none, data := .seq ([] : List Value).toArray } } : Shared) = s3 at I3
  have eh : s3.heap = s2.heap.push { cls := .type "list", dict := none, data := .seq ([] : List Value).toArray } := by rw [← hs3]
  have fl : ∀ b ∈ fp, b < s2.heap.objs.size := fun b hb => by
    obtain ⟨o, e, _⟩ := T.obj 0 _ st2 b hb
    exact Heap.lt_size e
  have fn : ∀ b ∈ fp, H3 b = none := fun b hb => by
    rw [← hH3, upd_ne (Nat.ne_of_lt (fl b hb))]; exact (f2 b hb).1
  have f3 : ∀ b ∈ fp, FpOk X pins H3 b := fun b hb => ⟨fn b hb, (f2 b hb).2⟩
  have old : ∀ b u, s3.heap.get? b = some u → h₁.get? b = some u := fun b u e => by
    refine hsb₁.extBut b u ?_ (Heap.get?_push_of_some _ (by rw [← eh]; exact e))
    have := Heap.lt_size e
    rw [eh] at this
    exact Nat.ne_of_lt this
  have up : ∀ b u, s2.heap.get? b = some u → s3.heap.get? b = some u := fun b u e => by rw [eh]; exact Heap.get?_push_of_some _ e
  have ok := blk_ok (N' := N') (scope := scope) (cl := cl) (fp := fp) I3 hkind hcl hhas f3 fun b hb => by rw [eh, Heap.size_push]; exact Nat.lt_succ_of_lt (fl b hb)
  rw [← eh] at hns₁ ⊢
  have IB : Inv (blk X N' scope cl s3.heap.objs.size fp s3 H3) [] (fr σ) H3 { s3 with heap := h₁, toks := s2.toks + ([] : List (Str × Value)).length } := by
    refine ⟨ok, rfl, I3.bare, Un.kept old, ⟨_, hns₁, fun i y v e1 e2 e3 => ?_⟩, fun x c e => ?_, I3.hok.fresh (Nat.le_refl _), fun x c e => I3.freeC x c (hcl x c e), fun p hp => by simp [blk] at hp, I3.hok.kept old, hfl σ I3.len⟩
    · obtain ⟨j, n1, n2, n3, n4⟩ := hfr σ i y v e1 e2
      obtain ⟨m, _, hl⟩ := I3.loc
      obtain ⟨u, r, l⟩ := hl j y v n1 n2 (.inr (.inl n3))
      refine ⟨u, r, .inr ⟨.inl n4, ?_⟩⟩
      rcases l with ⟨k, _⟩ | ⟨_, c, e, ic⟩
      · rw [n3] at k; cases k
      · obtain ⟨c', e'⟩ := hhas y (.inl n4)
        have e'' := hcl y c' e'
        rw [e] at e''; cases e''
        obtain ⟨o, ho, hd⟩ := ic
        exact ⟨c, e', o, old c o ho, hd⟩
    · obtain ⟨v, o, ho, hd⟩ := I3.cell x c (hcl x c e)
      exact ⟨v, o, old c o ho, hd⟩
  have stB : tn 0 h₁ := T.keep _ _ _ st2 fun b hb o e => old b o (up b o e)
  have D2 : s2.heap.objs.size < s3.heap.objs.size := by rw [eh, Heap.size_push]; exact Nat.lt_succ_self _
  have stat : ∀ {H' : Hp}, (∀ b ∈ fp, H' b = none) → ∀ b ∈ fp, FpOk (blk X N' scope cl s3.heap.objs.size fp s3 H3) [] H' b := fun hn b hb =>
    ⟨hn b hb, Nat.ne_of_lt (Nat.lt_trans (fl b hb) D2), ok.exfs b hb, .inl hb, fun x c e => (ok.exf b hb).2 x c e, fun p hp => by simp [blk] at hp⟩
  have loop : codeAny (model X.prog X.w) X.A (.compLoop (.ListComp elt [⟨tg, iter, [], 0⟩] scope pos) 0 (.ref it) (.ref s2.heap.objs.size) (compEnvC scope cl s3.heap.objs.size X.env))
      (compPost (model X.prog X.w) X.A X.xe none (EP X pins σ Q) (.ref s2.heap.objs.size) s3.heap.objs.size) { s3 with heap := h₁, toks := s2.toks + ([] : List (Str × Value)).length } := by
    refine codeAny_loop rfl (fun n s' => ∃ i ys H', Inv (blk X N' scope cl s3.heap.objs.size fp s3 H3) [] (fr σ) H' s' ∧ tn i s'.heap ∧ (∀ b ∈ fp, H' b = none) ∧ W i n ys H') ?_ m0 ⟨0, [], H3, IB, stB, fn, w0⟩
    rintro n s4 ⟨i, ys, H4, I4, st4, fr4, w4⟩
    show wpAny _ _ ((compTurn (.ListComp elt [⟨tg, iter, [], 0⟩] scope pos) 0 (.ref it) (.ref s2.heap.objs.size) (compEnvC scope cl s3.heap.objs.size X.env)).onRaise (fun x => do noteFrame x (compEnvC scope cl s3.heap.objs.size X.env); theTreesLotGoes x)) _ _ s4
    refine wpAny_noted ?_
    rw [compTurn_list1]
    refine wpAny_bind (wpAny_standAt (wpAny_bind ?_))
    rcases turn i n ys H4 w4 with ⟨stop, qn⟩ | ⟨go, hz, step⟩
    · refine thn (T.done (blk X N' scope cl s3.heap.objs.size fp s3 H3) rfl rfl rfl hc i [] s4 (fr σ) H4 _ I4 (stat fr4) st4 stop) fun r s5 ⟨hr, I5⟩ => ?_
      subst hr
      refine wpAny_pure ?_
      obtain ⟨m, hn, _⟩ := I5.loc
      refine ⟨m, hn, fun h' sb => ⟨.ref s2.heap.objs.size, H4, ?_, rfl, qn⟩⟩
      have hb : ∀ b u, b ≠ s3.heap.objs.size → s5.heap.get? b = some u → h'.get? b = some u := fun b u n e => sb.extBut b u n e
      have hlt : ∀ b u, s3.heap.get? b = some u → b ≠ s3.heap.objs.size := fun b u e => Nat.ne_of_lt (Heap.lt_size e)
      have B := I5.base
      refine I3.call' (s' := { s5 with heap := h' }) (ch := fp) I5.os ⟨fun b o e n1 n2 n3 => hb b o (hlt b o e) (B.keep b o e n1 n2 n3), fun b o e n1 n2 n3 => ?_, B.free, fun b o e n1 => ?_, B.tups, B.frzs, B.tbls⟩ (fun a o e => ?_) I5.bare (fun b hb' => ?_)
      · obtain ⟨sl, z⟩ := B.slot b o e n1 n2 n3
        exact ⟨sl, hb b _ (hlt b o e) z⟩
      · obtain ⟨o', z⟩ := B.there b o e n1
        exact ⟨o', hb b _ (hlt b o e) z⟩
      · have nC : ∀ c u, H4 c = some u → c ≠ s3.heap.objs.size := fun c u z w => by
          have := I5.free
          rw [show (blk X N' scope cl s3.heap.objs.size fp s3 H3).env.locals = s3.heap.objs.size from rfl, ← w, z] at this
          cases this
        refine (I5.hok a o e).stay (fun c u hcu q => hb c u ?_ q) (fun _ q => q) fun _ _ q => q
        rcases hcu with z | z
        · rw [z]; exact nC a o e
        · exact nC c _ z
      · exact ⟨(f2 b hb').2.2.2.1, (f2 b hb').2.1, (f2 b hb').2.2.2.2.1, (f2 b hb').2.2.2.2.2⟩
    · refine thn (T.item (blk X N' scope cl s3.heap.objs.size fp s3 H3) rfl rfl rfl hc i [] s4 (fr σ) H4 _ I4 (stat fr4) st4 go) fun r s5 ⟨u, hr, h5⟩ => ?_
      subst hr
      refine wpAny_bind (thn h5 fun _ s6 ⟨x, H6, I6, r6, y6, st6, fr6⟩ => ?_)
      have I6' := I6.pinned (stat fr6) (T.obj _ _ st6)
      refine wpAny_bind (wpAny_mono (hg s3.heap.objs.size fp s3 H3 _ s6 (fr σ) H6 x u _ I6' r6 (step x H6 y6)) (fun _ s7 ⟨σ7, H7, I7, kp, q7⟩ => ?_) fun _ _ z => z.elim)
      refine wpAny_bind (wpAny_bind (wpAny_mono (he s3.heap.objs.size fp s3 H3 _ s7 σ7 H7 _ I7 q7) (fun v8 s8 ⟨y8, H8, I8, r8, hD, m', hm, w8⟩ => ?_) fun _ _ z => z.elim))
      have ap := mt_append (X := blk X N' scope cl s3.heap.objs.size fp s3 H3) _ s8 σ7 H8 (.ref s2.heap.objs.size) [y8] (.ref s2.heap.objs.size) [v8] (fun _ H9 => W (i + 1) m' (ys ++ [y8]) H9) I8 rfl (.cons r8 .nil) ⟨_, ys, y8, rfl, rfl, hD, hz, w8⟩
      refine wpAny_bind (wpAny_mono ap (fun _ s9 ⟨_, H9, I9, _, w9⟩ => wpAny_pure (wpAny_pure ⟨rfl, m', hm, i + 1, ys ++ [y8], H9, ?_, ?_, ?_, w9⟩)) fun _ _ z => z.elim)
      · exact I9.unpinned.weak (by rw [kp.1]) kp.2
      · exact T.keep _ _ _ st6 fun b hb o e => (I9.pin (b, o) (List.mem_append_right _ (List.mem_append_right _ (mem_pinsAt hb e)))).1
      · intro b hb
        obtain ⟨o, e, d⟩ := T.obj _ _ st6 b hb
        exact (I9.pin (b, o) (List.mem_append_right _ (List.mem_append_right _ (mem_pinsAt hb e)))).2.1
  subst hs3
  exact codeAny_compStart_list loop (T.self X.A 0 _ _ _ stB loop)
end
end L2

set_option linter.all false
set_option maxRecDepth 100000
set_option maxHeartbeats 4000000
namespace L2
open PySem PySem.Spec PyProof.Rows
/-! ### readings by what they give -/
def Gv (t : TE) (σ : St) (H : Hp) (R : V → Hp → Prop) : Prop := ∀ Q : VK, (∀ v H', R v H' → Q v H') → t σ H Q
def GvT (t : TT) (σ : St) (H : Hp) (R : Bool → Hp → Prop) : Prop := ∀ Q : Bool → Hp → Prop, (∀ v H', R v H' → Q v H') → t σ H Q
def GvA (t : TA) (σ : St) (H : Hp) (R : List V → Hp → Prop) : Prop := ∀ Q : List V → Hp → Prop, (∀ v H', R v H' → Q v H') → t σ H Q
/-- one value, the heap as it is -/
def Pu (t : TE) (σ : St) (H : Hp) (v : V) : Prop := ∀ Q : VK, Q v H → t σ H Q
def PuT (t : TT) (σ : St) (H : Hp) (b : Bool) : Prop := ∀ Q : Bool → Hp → Prop, Q b H → t σ H Q
def PuA (t : TA) (σ : St) (H : Hp) (vs : List V) : Prop := ∀ Q : List V → Hp → Prop, Q vs H → t σ H Q
def Is1 (v : V) (H : Hp) : V → Hp → Prop := fun w H' => w = v ∧ H' = H
section
variable {σ : St} {H : Hp} {t ta tb tc : TE} {x y z v : V} {i j : Int} {b c : Bool}
theorem Pu.gv (h : Pu t σ H v) : Gv t σ H (Is1 v H) := fun Q q => h Q (q v H ⟨rfl, rfl⟩)
theorem Pu.gv' {R : V → Hp → Prop} (h : Pu t σ H v) (r : R v H) : Gv t σ H R := fun Q q => h Q (q v H r)
theorem Gv.imp {R R' : V → Hp → Prop} (h : Gv t σ H R) (f : ∀ v H', R v H' → R' v H') : Gv t σ H R' := fun Q q => h Q fun v H' r => q v H' (f v H' r)
theorem pu_v {k : Nat} (h : σ[k]? = some (some v)) : Pu (tVar k) σ H v := fun _ q => ⟨v, h, q⟩
theorem pu_c : Pu (tC v) σ H v := fun _ q => q
theorem pu_add (ha : Pu ta σ H (.int i)) (hb : Pu tb σ H (.int j)) : Pu (tOp (rI0 fun i j => .int (i + j)) ta tb) σ H (.int (i + j)) := fun _ q => ha _ (hb _ ⟨i, j, rfl, rfl, q⟩)
theorem pu_sub (ha : Pu ta σ H (.int i)) (hb : Pu tb σ H (.int j)) : Pu (tOp (rI0 fun i j => .int (i - j)) ta tb) σ H (.int (i - j)) := fun _ q => ha _ (hb _ ⟨i, j, rfl, rfl, q⟩)
theorem pu_mul (ha : Pu ta σ H (.int i)) (hb : Pu tb σ H (.int j)) (hm : IntMulOk i j) : Pu (tOp (rI IntMulOk fun i j => .int (i * j)) ta tb) σ H (.int (i * j)) := fun _ q => ha _ (hb _ ⟨i, j, rfl, rfl, hm, q⟩)
theorem pu_fdiv (ha : Pu ta σ H (.int i)) (hb : Pu tb σ H (.int j)) (hm : CDivB i j) : Pu (tOp (rI CDivB fun i j => .int (i.fdiv j)) ta tb) σ H (.int (i.fdiv j)) := fun _ q => ha _ (hb _ ⟨i, j, rfl, rfl, hm, q⟩)
theorem pu_mod (ha : Pu ta σ H (.int i)) (hb : Pu tb σ H (.int j)) (hm : j ≠ 0) : Pu (tOp (rI (fun _ j => j ≠ 0) fun i j => .int (i.fmod j)) ta tb) σ H (.int (i.fmod j)) := fun _ q => ha _ (hb _ ⟨i, j, rfl, rfl, hm, q⟩)
theorem pu_pow (ha : Pu ta σ H (.int i)) (hb : Pu tb σ H (.int j)) (hm : CPow i j) : Pu (tOp (rI CPow fun i j => .int (i ^ j.toNat)) ta tb) σ H (.int (i ^ j.toNat)) := fun _ q => ha _ (hb _ ⟨i, j, rfl, rfl, hm, q⟩)
theorem pu_neg (ha : Pu ta σ H (.int i)) : Pu (tUn (rU fun i => .int (-i)) ta) σ H (.int (-i)) := fun _ q => ha _ ⟨i, rfl, q⟩
theorem pu_lt (ha : Pu ta σ H (.int i)) (hb : Pu tb σ H (.int j)) : Pu (tOp (rI0 fun i j => .bl (decide (i < j))) ta tb) σ H (.bl (decide (i < j))) := fun _ q => ha _ (hb _ ⟨i, j, rfl, rfl, q⟩)
theorem pu_le (ha : Pu ta σ H (.int i)) (hb : Pu tb σ H (.int j)) : Pu (tOp (rI0 fun i j => .bl (decide (i ≤ j))) ta tb) σ H (.bl (decide (i ≤ j))) := fun _ q => ha _ (hb _ ⟨i, j, rfl, rfl, q⟩)
theorem pu_gt (ha : Pu ta σ H (.int i)) (hb : Pu tb σ H (.int j)) : Pu (tOp (rI0 fun i j => .bl (decide (j < i))) ta tb) σ H (.bl (decide (j < i))) := fun _ q => ha _ (hb _ ⟨i, j, rfl, rfl, q⟩)
theorem pu_ge (ha : Pu ta σ H (.int i)) (hb : Pu tb σ H (.int j)) : Pu (tOp (rI0 fun i j => .bl (decide (j ≤ i))) ta tb) σ H (.bl (decide (j ≤ i))) := fun _ q => ha _ (hb _ ⟨i, j, rfl, rfl, q⟩)
theorem pu_eqI (ha : Pu ta σ H (.int i)) (hb : Pu tb σ H (.int j)) : Pu (tOp rEq ta tb) σ H (.bl (decide (i = j))) := fun _ q => ha _ (hb _ ⟨rfl, by rw [dec_int, Bool.beq_eq_decide_eq]; exact q⟩)
theorem pu_neI (ha : Pu ta σ H (.int i)) (hb : Pu tb σ H (.int j)) : Pu (tOp rNe ta tb) σ H (.bl (!decide (i = j))) := fun _ q => ha _ (hb _ ⟨rfl, by rw [dec_int, Bool.beq_eq_decide_eq]; exact q⟩)
theorem pu_ixT {K : PySem.W.Frag} {p : Addr} {xs : List V} (ha : Pu ta σ H (.ref p)) (hb : Pu tb σ H (.int i)) (h : SqT K H p xs) (e : atI xs i = some v) : Pu (tOp (rIxT K) ta tb) σ H v := fun _ q => ha _ (hb _ ⟨p, xs, i, v, rfl, rfl, h, e, q⟩)
theorem pu_ixL {K : PySem.W.Frag} {p : Addr} {xs : List V} (ha : Pu ta σ H (.ref p)) (hb : Pu tb σ H (.int i)) (h : SqL K H p xs) (e : atI xs i = some v) : Pu (tOp (rIxL K) ta tb) σ H v := fun _ q => ha _ (hb _ ⟨p, xs, i, v, rfl, rfl, h, e, q⟩)
theorem pa_n : PuA tNil σ H [] := fun _ q => q
theorem pa_c {tr : TA} {vs : List V} (ha : Pu ta σ H x) (hr : PuA tr σ H vs) : PuA (tCons ta tr) σ H (x :: vs) := fun _ q => ha _ (hr _ q)
theorem pu_lenL {K : PySem.W.Frag} {p : Addr} {ys : List V} {t : TA} (ha : PuA t σ H [.ref p]) (h : SqL K H p ys) : Pu (tCB (fun xs H Q => ∃ p ys, xs = [.ref p] ∧ (SqL K H p ys ∨ SqT K H p ys) ∧ Q (.int ys.length) H) t) σ H (.int ys.length) := fun _ q => ha _ ⟨p, ys, rfl, .inl h, q⟩
theorem pu_abs {t : TA} (ha : PuA t σ H [.int i]) : Pu (tCB (fun xs H Q => ∃ i, xs = [.int i] ∧ Q (.int (if i < 0 then -i else i)) H) t) σ H (.int (i.natAbs : Int)) := fun _ q => ha _ ⟨i, rfl, by
  rw [show (if i < 0 then -i else i) = (i.natAbs : Int) by split <;> omega]; exact q⟩
theorem pu_isi {K : PySem.W.Frag} {n : String} {u : Value} {t : TA} (ha : PuA t σ H [x, .ty n]) (ty : TyOf K H x u) (e : PySem.W.kitOne K u (.type n) = some b) :
    Pu (tCB (fun xs H Q => ∃ x n t b, xs = [x, .ty n] ∧ TyOf K H x t ∧ PySem.W.kitOne K t (.type n) = some b ∧ Q (.bl b) H) t) σ H (.bl b) := fun _ q => ha _ ⟨x, n, u, b, rfl, ty, e, q⟩
theorem pu_eqT {K : PySem.W.Frag} {ns ms : List Int} (ha : Pu ta σ H x) (hb : Pu tb σ H y) (h1 : TupI K H x ns) (h2 : TupI K H y ms) : Pu (tOp (rEqTI K false) ta tb) σ H (.bl (decide (ns = ms))) := fun _ q => ha _ (hb _ ⟨ns, ms, h1, h2, q⟩)
/-! tests -/
theorem pt_t (h : Pu t σ H (.bl b)) : PuT (tTest t) σ H b := fun _ q => h _ ⟨b, rfl, q⟩
theorem pt_b (h : Pu t σ H (.bl b)) : PuT (tB t) σ H b := fun _ q => h _ ⟨b, rfl, q⟩
theorem pt_n {t : TT} (h : PuT t σ H b) : PuT (tNot t) σ H (!b) := fun _ q => h _ q
theorem pt_and {t u : TT} (h : PuT t σ H b) (g : b = true → PuT u σ H c) : PuT (tAnd t u) σ H (b && c) := fun Q q => h _ (by
  cases b with
  | true => rw [if_pos rfl]; exact g rfl Q (by simpa using q)
  | false => rw [if_neg Bool.false_ne_true]; simpa using q)
theorem pt_or {t u : TT} (h : PuT t σ H b) (g : b = false → PuT u σ H c) : PuT (tOr t u) σ H (b || c) := fun Q q => h _ (by
  cases b with
  | false => rw [if_neg Bool.false_ne_true]; exact g rfl Q (by simpa using q)
  | true => rw [if_pos rfl]; simpa using q)
theorem pu_and (h : Pu ta σ H (.bl b)) (g : b = true → Pu tb σ H (.bl c)) : Pu (tAndV ta tb) σ H (.bl (b && c)) := fun Q q => h _ ⟨b, rfl, by
  cases b with
  | true => rw [if_pos rfl]; exact g rfl Q (by simpa using q)
  | false => rw [if_neg Bool.false_ne_true]; simpa using q⟩
theorem pu_not (h : Pu ta σ H (.bl b)) : Pu (tNotV ta) σ H (.bl (!b)) := fun _ q => h _ ⟨b, rfl, q⟩
/-! tests with calls that lay things -/
theorem gt_or {t u : TT} {R R' : Bool → Hp → Prop} (h : GvT t σ H R) (g : ∀ H', R false H' → GvT u σ H' R') (e : ∀ H', R true H' → R' true H') : GvT (tOr t u) σ H R' := fun Q q => h _ fun v H' r => by
  cases v with
  | false => rw [if_neg Bool.false_ne_true]; exact g H' r Q q
  | true => rw [if_pos rfl]; exact q _ _ (e H' r)
theorem PuT.gt {t : TT} {R : Bool → Hp → Prop} (h : PuT t σ H b) (r : R b H) : GvT t σ H R := fun Q q => h Q (q _ _ r)
/-! statements -/
variable {te : TE} {D : Ends} {rest u : TS} {k : Nat}
theorem st_set (h : Pu te σ H v) (q : rest D (σ.set k (some v)) H) : tSeq (tAsg te (gName k)) rest D σ H := h _ q
theorem st_setG {R : V → Hp → Prop} (h : Gv te σ H R) (q : ∀ v H', R v H' → rest D (σ.set k (some v)) H') : tSeq (tAsg te (gName k)) rest D σ H := h _ q
theorem st_set1 (h : Pu te σ H v) (q : D.nx (σ.set k (some v)) H) : tAsg te (gName k) D σ H := h _ q
theorem st_setG1 {R : V → Hp → Prop} (h : Gv te σ H R) (q : ∀ v H', R v H' → D.nx (σ.set k (some v)) H') : tAsg te (gName k) D σ H := h _ q
theorem st_ret (h : Pu te σ H v) (q : D.rt v H) : tRet te D σ H := h _ q
theorem st_retG {R : V → Hp → Prop} (h : Gv te σ H R) (q : ∀ v H', R v H' → D.rt v H') : tRet te D σ H := h _ q
theorem st_exprG {R : V → Hp → Prop} (h : Gv te σ H R) (q : ∀ v H', R v H' → rest D σ H') : tSeq (tDrop te) rest D σ H := h _ q
theorem st_exprG1 {R : V → Hp → Prop} (h : Gv te σ H R) (q : ∀ v H', R v H' → D.nx σ H') : tDrop te D σ H := h _ q
theorem st_if {tc : TT} {t u : TS} (h : PuT tc σ H b) (q1 : b = true → t { D with nx := rest D } σ H) (q2 : b = false → u { D with nx := rest D } σ H) : tSeq (tIfS tc t u) rest D σ H := h _ (by
  cases b with
  | true => rw [if_pos rfl]; exact q1 rfl
  | false => rw [if_neg Bool.false_ne_true]; exact q2 rfl)
theorem st_if1 {tc : TT} {t u : TS} (h : PuT tc σ H b) (q1 : b = true → t D σ H) (q2 : b = false → u D σ H) : tIfS tc t u D σ H := h _ (by
  cases b with
  | true => rw [if_pos rfl]; exact q1 rfl
  | false => rw [if_neg Bool.false_ne_true]; exact q2 rfl)
theorem st_ifG {tc : TT} {t u : TS} {R : Bool → Hp → Prop} (h : GvT tc σ H R) (q1 : ∀ H', R true H' → t { D with nx := rest D } σ H') (q2 : ∀ H', R false H' → u { D with nx := rest D } σ H') : tSeq (tIfS tc t u) rest D σ H := h _ fun b H' r => by
  cases b with
  | true => rw [if_pos rfl]; exact q1 H' r
  | false => rw [if_neg Bool.false_ne_true]; exact q2 H' r
theorem st_ifG1 {tc : TT} {t u : TS} {R : Bool → Hp → Prop} (h : GvT tc σ H R) (q1 : ∀ H', R true H' → t D σ H') (q2 : ∀ H', R false H' → u D σ H') : tIfS tc t u D σ H := h _ fun b H' r => by
  cases b with
  | true => rw [if_pos rfl]; exact q1 H' r
  | false => rw [if_neg Bool.false_ne_true]; exact q2 H' r
/-! calls -/
variable {sp : Sp} {E : XK}
theorem pu_call {t : TA} {vs : List V} (h : PuA t σ H vs) (hs : ∀ Q, Q v H → sp (vs ++ []) H Q E) : Pu (tCall sp [] E t) σ H v := fun Q q => h _ (hs Q q)
theorem gv_call {t : TA} {vs : List V} {R : V → Hp → Prop} (h : PuA t σ H vs) (hs : ∀ Q : VK, (∀ v H', R v H' → Q v H') → sp (vs ++ []) H Q E) : Gv (tCall sp [] E t) σ H R := fun Q q => h _ (hs Q q)
theorem gv_callA {t : TA} {R : V → Hp → Prop} {RA : List V → Hp → Prop} (h : GvA t σ H RA) (hs : ∀ vs H1, RA vs H1 → ∀ Q : VK, (∀ v H', R v H' → Q v H') → sp (vs ++ []) H1 Q E) : Gv (tCall sp [] E t) σ H R := fun Q q => h _ fun vs H1 r => hs vs H1 r Q q
theorem ga_nil : GvA tNil σ H (fun vs H' => vs = [] ∧ H' = H) := fun Q q => q _ _ ⟨rfl, rfl⟩
theorem ga_cons {tr : TA} {R1 : V → Hp → Prop} {R2 : V → Hp → List V → Hp → Prop} (h : Gv ta σ H R1) (g : ∀ x H1, R1 x H1 → GvA tr σ H1 (R2 x H1)) :
    GvA (tCons ta tr) σ H (fun vs H' => ∃ x H1 r, vs = x :: r ∧ R1 x H1 ∧ R2 x H1 r H') := fun Q q => h _ fun x H1 r1 => g x H1 r1 _ fun r H' r2 => q _ _ ⟨x, H1, r, rfl, r1, r2⟩
/-! new tuples and lists -/
theorem gv_tup {t : TA} {vs : List V} (h : PuA t σ H vs) (hz : vs.length ≤ sizeLine) : Gv (tTup t) σ H (fun v H' => ∃ p, H p = none ∧ v = .ref p ∧ H' = upd H p (.tup vs)) := fun Q q => h _ ⟨hz, fun p hp => q _ _ ⟨p, hp, rfl, rfl⟩⟩
theorem gv_lst {t : TA} {vs : List V} (h : PuA t σ H vs) (hz : vs.length ≤ sizeLine) : Gv (tLst t) σ H (fun v H' => ∃ p, H p = none ∧ v = .ref p ∧ H' = upd H p (.lst vs)) := fun Q q => h _ ⟨hz, fun p hp => q _ _ ⟨p, hp, rfl, rfl⟩⟩
end
/-! ### frames of the heap -/
theorem Same.upd {H : Hp} {p : Addr} {o : HO} (h : H p = none) : Same H (upd H p o) := fun b u e => by rw [upd_ne (ne_of_none e h)]; exact e
/-- all is as it was but at one place -/
def SameB (l : Addr) (H H' : Hp) : Prop := ∀ b o, H b = some o → b ≠ l → H' b = some o
theorem Same.b {H H' : Hp} {l : Addr} (e : Same H H') : SameB l H H' := fun b o h _ => e b o h
theorem SameB.refl (l : Addr) (H : Hp) : SameB l H H := fun _ _ h _ => h
theorem SameB.trans {l : Addr} {H H1 H2 : Hp} (a : SameB l H H1) (b : SameB l H1 H2) : SameB l H H2 := fun c o h n => b c o (a c o h n) n
theorem SameB.upd {l : Addr} {H : Hp} {o : HO} : SameB l H (upd H l o) := fun b u e n => by rw [upd_ne n]; exact e
/-! ### defs -/
structure Fn (K : PySem.W.Frag) (mg : Str → Option Value) (x : Str) (st : Stmt) (f : Addr) (fd : FuncData) (ps : List Str) : Prop where
  F : Fun K x x st f fd
  b : Binds K fd ps []
  m : mg x = some (.ref f)
section
variable {X : Cx} {x : Str} {st : Stmt} {f : Addr} {fd : FuncData} {ps : List Str} {sp : Sp} {k j : Nat} {e : Expr} {es : List Expr} {t : TA} {p pos : Pos}
theorem pe_fn (T : Fn X.K X.mg x st f fd ps) (G : FnOk X.prog X.w X.K X.mg X.base CX0 k f fd ps sp) (hr : Room j X.A) (hj : k ≤ j) (ha : PA X (e :: es) t) (hg : Gl X x := by rfl) (hdb : (x == ("__debug__" : Str)) = false := by decide)
    (he : starEach (e :: es) X.env = (false, eval e X.env) :: starEach es X.env := by rfl) (hpl : (backTo pos (starEach es X.env)).any (·.1) = false := by rfl) : PE X (.Call (.Name x p) (e :: es) [] pos) (tCall sp [] E0 t) :=
  pe_call G (hr.mono hj) hg T.m T.F.kp T.b .nil pass0 ha hdb he hpl
/-- a type's name -/
theorem pe_ty {n : Str} {T : String} {pos : Pos} (hm : X.mg n = none) (hv : bootBuiltins n = some (.type T)) (hg : Gl X n := by rfl) (hn : n ≠ "__name__" := by decide) (hd : (n == ("__debug__" : Str)) = false := by decide) : PE X (.Name n pos) (tC (.ty T)) :=
  pe_bltn hg hm hv rfl hn hd
end
/-! ### the forms one uses -/
end L2

set_option linter.all false
namespace L2
/-! ### lowest terms -/
theorem fdiv_mul_self {k x : Int} (h : k ≠ 0) : (k * x).fdiv k = x := Int.mul_fdiv_cancel_left x h
end L2

set_option linter.all false
namespace L2
/-! ### points of the plane by three numbers -/
structure Pt3 where
  x : Int
  y : Int
  z : Int
def lex (w u : Int) : Bool := if w = 0 then decide (0 < u) else decide (0 < w)
def ahd (p q : Pt3) : Bool := if p.x * q.z = q.x * p.z then decide (p.y * q.z < q.y * p.z) else decide (p.x * q.z < q.x * p.z)
def sgn (x : Int) : Int := if 0 < x then 1 else if x < 0 then -1 else 0
def det (p q r : Pt3) : Int := (p.y * q.z - p.z * q.y) * r.x + (p.z * q.x - p.x * q.z) * r.y + (p.x * q.y - p.y * q.x) * r.z
def onB (p a b : Pt3) : Bool := if det a b p = 0 then (if ahd a b = true then !ahd p a && !ahd b p else !ahd p b && !ahd a p) else false
/-- in lowest terms at these homogeneous numbers -/
structure Is3 (A B C : Int) (r : Pt3) : Prop where
  pos : 0 < r.z
  cop : Int.gcd (Int.gcd r.z r.x) r.y = 1
  ex : ∃ d, 0 < d ∧ A = d * r.x ∧ B = d * r.y ∧ C = d * r.z
theorem ahd_lex (p q : Pt3) : ahd p q = lex (q.x * p.z - p.x * q.z) (q.y * p.z - p.y * q.z) := by
  unfold ahd lex
  by_cases h : p.x * q.z = q.x * p.z
  · rw [if_pos h, if_pos (by omega)]
    congr 1
    exact propext ⟨fun h => by omega, fun h => by omega⟩
  · rw [if_neg h, if_neg (by omega)]
    congr 1
    exact propext ⟨fun h => by omega, fun h => by omega⟩
theorem sgn_scale {k x : Int} (h : 0 < k) : sgn (k * x) = sgn x := by
  unfold sgn
  by_cases h1 : 0 < x
  · rw [if_pos (Int.mul_pos h h1), if_pos h1]
  · have n1 : ¬ 0 < k * x := by
      have := Int.mul_nonpos_of_nonneg_of_nonpos (a := k) (b := x) (by omega) (by omega)
      omega
    rw [if_neg n1, if_neg h1]
    by_cases h2 : x < 0
    · rw [if_pos (Int.mul_neg_of_pos_of_neg h h2), if_pos h2]
    · have : x = 0 := by omega
      subst this
      simp
theorem sgn_eq0 {x : Int} : sgn x = 0 ↔ x = 0 := by
  unfold sgn
  by_cases h1 : 0 < x
  · rw [if_pos h1]; omega
  · rw [if_neg h1]
    by_cases h2 : x < 0
    · rw [if_pos h2]; omega
    · rw [if_neg h2]; omega
theorem det_turn (p q r : Pt3) : (q.x * p.z - p.x * q.z) * (r.y * p.z - p.y * r.z) - (q.y * p.z - p.y * q.z) * (r.x * p.z - p.x * r.z) = p.z * det p q r := by
  unfold det; grind
theorem pt_has {a b c : Int} (hc : 0 < c) : let d : Int := Int.gcd (Int.gcd c a) b; Is3 a b c ⟨a.fdiv d, b.fdiv d, c.fdiv d⟩ ∧ 0 < d := by
  intro d
  have p1 : 0 < Int.gcd c a := Int.gcd_pos_of_ne_zero_left a (by omega)
  have p2 : 0 < Int.gcd ((Int.gcd c a : Nat) : Int) b := Int.gcd_pos_of_ne_zero_left b (by omega)
  have hd : 0 < d := by show 0 < ((Int.gcd ((Int.gcd c a : Nat) : Int) b : Nat) : Int); omega
  have dg : d ∣ ((Int.gcd c a : Nat) : Int) := Int.gcd_dvd_left _ _
  obtain ⟨z, hz⟩ : d ∣ c := Int.dvd_trans dg (Int.gcd_dvd_left c a)
  obtain ⟨x, hx⟩ : d ∣ a := Int.dvd_trans dg (Int.gcd_dvd_right c a)
  obtain ⟨y, hy⟩ : d ∣ b := Int.gcd_dvd_right _ _
  have ex : a.fdiv d = x := by
    conv => lhs; arg 1; rw [hx]
    exact fdiv_mul_self (by omega)
  have ey : b.fdiv d = y := by
    conv => lhs; arg 1; rw [hy]
    exact fdiv_mul_self (by omega)
  have ez : c.fdiv d = z := by
    conv => lhs; arg 1; rw [hz]
    exact fdiv_mul_self (by omega)
  rw [ex, ey, ez]
  refine ⟨⟨?_, ?_, d, hd, hx, hy, hz⟩, hd⟩
  · show 0 < z
    by_cases h : 0 < z
    · exact h
    · have := Int.mul_nonpos_of_nonneg_of_nonpos (a := d) (b := z) (by omega) (by omega)
      omega
  · show Int.gcd ((Int.gcd z x : Nat) : Int) y = 1
    have h1 : Int.gcd c a = d.natAbs * Int.gcd z x := by
      conv => lhs; rw [hz, hx]
      exact Int.gcd_mul_left d z x
    have h2 : d.natAbs = d.natAbs * Int.gcd ((Int.gcd z x : Nat) : Int) y := by
      have h3 : ((Int.gcd c a : Nat) : Int) = d * ((Int.gcd z x : Nat) : Int) := by
        rw [h1]
        have : ((d.natAbs : Nat) : Int) = d := by omega
        rw [Int.natCast_mul, this]
      have h4 : Int.gcd ((Int.gcd c a : Nat) : Int) b = d.natAbs * Int.gcd ((Int.gcd z x : Nat) : Int) y := by
        conv => lhs; rw [h3, hy]
        exact Int.gcd_mul_left d _ y
      exact h4
    have h5 : d.natAbs * 1 = d.natAbs * Int.gcd ((Int.gcd z x : Nat) : Int) y := by rw [Nat.mul_one]; exact h2
    exact (Nat.eq_of_mul_eq_mul_left (by omega) h5).symm
theorem Is3.le {A B C : Int} {r : Pt3} (h : Is3 A B C r) : r.x.natAbs ≤ A.natAbs ∧ r.y.natAbs ≤ B.natAbs ∧ r.z.natAbs ≤ C.natAbs := by
  obtain ⟨d, hd, e1, e2, e3⟩ := h.ex
  have key : ∀ z, z.natAbs ≤ (d * z).natAbs := fun z => by
    rw [Int.natAbs_mul]
    calc z.natAbs = 1 * z.natAbs := (Nat.one_mul _).symm
      _ ≤ d.natAbs * z.natAbs := Nat.mul_le_mul_right _ (by omega)
  exact ⟨by rw [e1]; exact key _, by rw [e2]; exact key _, by rw [e3]; exact key _⟩
end L2

set_option linter.all false
set_option maxRecDepth 100000
set_option maxHeartbeats 4000000
namespace L2
open PySem PySem.Spec PyProof.Rows
section
variable {X : Cx}
def rGetL (K : PySem.W.Frag) : V → V → Hp → VK → Prop := fun x y H Q => ∃ p xs i v, x = .ref p ∧ y = .int i ∧ 0 ≤ i ∧ SqL K H p xs ∧ atI xs i = some v ∧ Q v H
theorem get_list : PGet X (rGetL X.K) := by
  intro pins s σ H x y v u Q I rx ry h
  obtain ⟨p, xs, i, z, rfl, rfl, h0, hq, he, q⟩ := h
  cases rx
  obtain ⟨t, rfl⟩ := ry
  obtain ⟨its, r, pl, hz⟩ := I.list hq
  obtain ⟨j, h1, h2, h3, h4, h5⟩ := atI_get he
  obtain ⟨w, ew, rw'⟩ := r.get h2
  have hn := line63
  have hj : i.toNat = j := by
    rw [seqIndex_of h0 h5] at h1
    exact Option.some.inj h1
  exact wpAny_getItem_list pl.isList h0 (by omega) (by rw [hj]; simpa using ew) ⟨z, H, I, rw', q⟩
end
section
variable {σ : St} {H : Hp} {D : Ends} {rest : TS} {te to ti : TE} {v : V} {p : Addr} {xs : List V} {k i : Int} {j : Nat}
theorem st_put (h : Pu te σ H v) (ho : Pu to σ H (.ref p)) (hi : Pu ti σ H (.int k)) (hp : H p = some (.lst xs)) (hj : ixN xs.length k = some j) (q : rest D σ (upd H p (.lst (xs.set j v)))) : tSeq (tAsg te (gSub to ti rSetL)) rest D σ H :=
  h _ (ho _ (hi _ ⟨p, xs, k, j, rfl, rfl, hp, hj, q⟩))
theorem st_put1 (h : Pu te σ H v) (ho : Pu to σ H (.ref p)) (hi : Pu ti σ H (.int k)) (hp : H p = some (.lst xs)) (hj : ixN xs.length k = some j) (q : D.nx σ (upd H p (.lst (xs.set j v)))) : tAsg te (gSub to ti rSetL) D σ H :=
  h _ (ho _ (hi _ ⟨p, xs, k, j, rfl, rfl, hp, hj, q⟩))
theorem st_augI {K : PySem.W.Frag} {f : Int → Int → Int} {a b : Int} (ho : Pu to σ H (.ref p)) (hi : Pu ti σ H (.int k)) (h0 : 0 ≤ k) (hp : H p = some (.lst xs)) (ha : atI xs k = some (.int a)) (h : Pu te σ H (.int b)) (hj : ixN xs.length k = some j)
    (q : rest D σ (upd H p (.lst (xs.set j (.int (f a b)))))) : tSeq (tAugS to ti te (rGetL K) (ipI f) rSetL) rest D σ H :=
  ho _ (hi _ ⟨p, xs, k, .int a, rfl, rfl, h0, SqL.of hp, ha, h _ ⟨a, b, rfl, rfl, p, xs, k, j, rfl, rfl, hp, hj, q⟩⟩)
theorem st_while {c : TT} {tb : TS} (Pv : St → Hp → Prop) (μ : St → Hp → Nat) (h0 : Pv σ H)
    (hs : ∀ σ H, Pv σ H → ∃ b, PuT c σ H b ∧ (b = true → tb { D with nx := fun σ' H' => Pv σ' H' ∧ μ σ' H' < μ σ H, ct := fun σ' H' => Pv σ' H' ∧ μ σ' H' < μ σ H, bk := rest D } σ H) ∧ (b = false → rest D σ H)) :
    tSeq (tWhile c tb) rest D σ H := by
  refine ⟨fun m σ H => m = μ σ H ∧ Pv σ H, ⟨_, rfl, h0⟩, ?_⟩
  rintro m σ H ⟨rfl, p⟩
  obtain ⟨b, hb, h1, h2⟩ := hs σ H p
  refine hb _ ?_
  cases b with
  | true => rw [if_pos rfl]; exact ⟨_, fun σ' H' ⟨p', l⟩ => ⟨_, l, rfl, p'⟩, h1 rfl⟩
  | false => rw [if_neg Bool.false_ne_true]; exact h2 rfl
/-- for k in range(n) -/
theorem st_range {g : TG} {tb : TS} {ta : TA} {n : Int} (ha : PuA ta σ H [.int n]) (h1 : -(2 ^ 62) ≤ n) (h2 : n < 2 ^ 62) (Pv : Nat → St → Hp → Prop) (h0 : Pv 0 σ H)
    (hs : ∀ (i : Nat) σ H, i < n.toNat → Pv i σ H → g (.int (0 + i)) σ H fun σ2 H2 => tb { D with nx := Pv (i + 1), ct := Pv (i + 1), bk := rest D } σ2 H2) (hd : ∀ σ H, Pv n.toNat σ H → rest D σ H) :
    tSeq (tFor (iRng1 ta) g tb) rest D σ H :=
  ha _ ⟨n, rfl, h1, h2, for_range (D := { D with nx := rest D }) Pv h0 hs hd⟩
theorem st_rangeG {g : TG} {tb : TS} {ta : TA} {R : List V → Hp → Prop} (ha : GvA ta σ H R)
    (hr : ∀ vs H1, R vs H1 → ∃ n : Int, vs = [.int n] ∧ -(2 ^ 62) ≤ n ∧ n < 2 ^ 62 ∧ ∃ Pv : Nat → St → Hp → Prop, Pv 0 σ H1 ∧
    (∀ (i : Nat) σ H, i < n.toNat → Pv i σ H → g (.int (0 + i)) σ H fun σ2 H2 => tb { D with nx := Pv (i + 1), ct := Pv (i + 1), bk := rest D } σ2 H2) ∧ (∀ σ H, Pv n.toNat σ H → rest D σ H)) :
    tSeq (tFor (iRng1 ta) g tb) rest D σ H :=
  ha _ fun vs H1 r => by
    obtain ⟨n, rfl, h1, h2, Pv, h0, hs, hd⟩ := hr vs H1 r
    exact ⟨n, rfl, h1, h2, for_range (D := { D with nx := rest D }) Pv h0 hs hd⟩
/-- for x in xs -/
theorem st_list {K : PySem.W.Frag} {g : TG} {tb : TS} {a : Addr} (ha : Pu te σ H (.ref a)) (Pv : Nat → St → Hp → Prop) (h0 : Pv 0 σ H) (hl : ∀ i σ H, i ≤ xs.length → Pv i σ H → SqL K H a xs)
    (hs : ∀ (i : Nat) x σ H, xs[i]? = some x → Pv i σ H → g x σ H fun σ2 H2 => tb { D with nx := Pv (i + 1), ct := Pv (i + 1), bk := rest D } σ2 H2) (hd : ∀ σ H, Pv xs.length σ H → rest D σ H) :
    tSeq (tFor (iList K te) g tb) rest D σ H :=
  ha _ ⟨a, rfl, ⟨xs, hl 0 σ H (Nat.zero_le _) h0⟩, for_list (D := { D with nx := rest D }) Pv h0 hl hs hd⟩
end
theorem kit_int_bool {K : PySem.W.Frag} : PySem.W.kitOne K (.type "int") (.type "bool") = some false := by
  unfold PySem.W.kitOne
  rw [if_neg (by decide)]
  show (if PySem.W.kitMeta "bool" = true then (PySem.fastBuiltinMro "int").map (·.contains (Value.type "bool")) else none) = some false
  decide +kernel
/-- a tuple of ints that is tracked -/
def TupT (H : Hp) (v : V) (ns : List Int) : Prop := ∃ a, v = .ref a ∧ H a = some (.tup (ns.map V.int))
theorem TupT.i {K : PySem.W.Frag} {H : Hp} {v : V} {ns : List Int} (h : TupT H v ns) : TupI K H v ns := by
  obtain ⟨a, rfl, h⟩ := h
  exact ⟨a, rfl, SqT.of h⟩
theorem TupT.same {H H' : Hp} {v : V} {ns : List Int} (h : TupT H v ns) (e : Same H H') : TupT H' v ns := by
  obtain ⟨a, rfl, h⟩ := h
  exact ⟨a, rfl, e _ _ h⟩
theorem TupT.sameB {H H' : Hp} {l : Addr} {ys : List V} {v : V} {ns : List Int} (h : TupT H v ns) (e : SameB l H H') (hl : H l = some (.lst ys)) : TupT H' v ns := by
  obtain ⟨a, rfl, h⟩ := h
  exact ⟨a, rfl, e _ _ h (ne_of h hl (by intro z; cases z))⟩
theorem TupT.of {H : Hp} {a : Addr} {ns : List Int} (h : H a = some (.tup (ns.map V.int))) : TupT H (.ref a) ns := ⟨a, rfl, h⟩
theorem Bd.small {i : Int} {n : Nat} (h : i.natAbs < 2 ^ 64 := by decide) (e : 64 ≤ n := by decide) : Bd n i := Bd.mono (m := 64) h e
/-! ### no cell in a block -/
theorem noCells {names : List (Str × NameKind)} {cl : List (Str × Addr)} (h : (names.all fun p => p.2 != .cell && p.2 != .free) = true) : ∀ y, (names.lookup y = some .cell ∨ names.lookup y = some .free) → ∃ c, cl.lookup y = some c := by
  intro y hy
  exfalso
  have key : ∀ (l : List (Str × NameKind)) (k : NameKind), l.lookup y = some k → ∃ p ∈ l, p.2 = k := by
    intro l k
    induction l with
    | nil => intro e; cases e
    | cons p r ih =>
      intro e
      rw [List.lookup_cons] at e
      split at e
      · exact ⟨p, List.mem_cons_self, Option.some.inj e⟩
      · obtain ⟨q, hq, eq⟩ := ih e
        exact ⟨q, List.mem_cons_of_mem _ hq, eq⟩
  rw [List.all_eq_true] at h
  rcases hy with e | e
  · obtain ⟨p, hp, eq⟩ := key _ _ e
    have := h p hp
    rw [eq] at this
    exact absurd this (by decide)
  · obtain ⟨p, hp, eq⟩ := key _ _ e
    have := h p hp
    rw [eq] at this
    exact absurd this (by decide)
/-! ### the greatest common divisor -/
theorem gcd_step {x y : Int} (h1 : 0 ≤ x) (h2 : 0 ≤ y) : Int.gcd y (x.fmod y) = Int.gcd x y := by
  rw [Int.fmod_eq_emod_of_nonneg _ h2]
  obtain ⟨m, rfl⟩ := Int.eq_ofNat_of_zero_le h1
  obtain ⟨n, rfl⟩ := Int.eq_ofNat_of_zero_le h2
  rw [← Int.natCast_emod]
  show Nat.gcd n (m % n) = Nat.gcd m n
  rw [Nat.gcd_comm, ← Nat.gcd_rec, Nat.gcd_comm]
theorem fmod_lt {x y : Int} (h2 : 0 < y) : 0 ≤ x.fmod y ∧ x.fmod y < y := by
  rw [Int.fmod_eq_emod_of_nonneg _ (Int.le_of_lt h2)]
  exact ⟨Int.emod_nonneg _ (by omega), Int.emod_lt_of_pos _ h2⟩
theorem gcd_zero (x : Int) (h : 0 ≤ x) : ((Int.gcd x 0 : Nat) : Int) = x := by
  rw [Int.gcd_zero_right]; omega
/-! ### more statements -/
section
variable {σ : St} {H : Hp} {D : Ends} {rest : TS} {te : TE} {b : Bool} {k : Nat} {v0 : V}
theorem st_ifN {tc : TT} {t : TS} (h : PuT tc σ H b) (q1 : b = true → t { D with nx := rest D } σ H) (q2 : b = false → rest D σ H) : tSeq (tIfS tc t tNext) rest D σ H := st_if h q1 q2
theorem st_ifNG {tc : TT} {t : TS} {R : Bool → Hp → Prop} (h : GvT tc σ H R) (q1 : ∀ H', R true H' → t { D with nx := rest D } σ H') (q2 : ∀ H', R false H' → rest D σ H') : tSeq (tIfS tc t tNext) rest D σ H := st_ifG h q1 q2
theorem st_ifN1 {tc : TT} {t : TS} (h : PuT tc σ H b) (q1 : b = true → t D σ H) (q2 : b = false → D.nx σ H) : tIfS tc t tNext D σ H := st_if1 h q1 q2
theorem st_ifNG1 {tc : TT} {t : TS} {R : Bool → Hp → Prop} (h : GvT tc σ H R) (q1 : ∀ H', R true H' → t D σ H') (q2 : ∀ H', R false H' → D.nx σ H') : tIfS tc t tNext D σ H := st_ifG1 h q1 q2
theorem st_ifSet {tc : TT} {R : V → Hp → Prop} (hc : PuT tc σ H b) (he : b = true → Gv te σ H R) (h0 : σ.set k (some v0) = σ) (r0 : b = false → R v0 H) (q : ∀ v H', R v H' → rest D (σ.set k (some v)) H') :
    tSeq (tIfS tc (tAsg te (gName k)) tNext) rest D σ H := by
  refine st_if hc (fun e => st_setG1 (he e) q) fun e => ?_
  have := q v0 H (r0 e)
  rw [h0] at this
  exact this
end
section
variable {σ : St} {H : Hp} {D : Ends} {rest : TS} {te to : TE} {l : Addr} {xs : List V} {K : PySem.W.Frag}
theorem st_app1 {R : V → Hp → Prop} (ho : Pu to σ H (.ref l)) (hl : H l = some (.lst xs)) (he : Gv te σ H R) (q : ∀ v H', R v H' → ∃ ys, H' l = some (.lst ys) ∧ ys.length < sizeLine ∧ D.nx σ (upd H' l (.lst (ys ++ [v])))) :
    tDrop (tBM K "list" rAppend to (tCons te tNil)) D σ H :=
  ho _ ⟨.inl ⟨rfl, _, SqL.of hl⟩, he _ fun v H' r => by
    obtain ⟨ys, h1, h2, h3⟩ := q v H' r
    exact ⟨l, ys, v, rfl, rfl, h1, h2, h3⟩⟩
end
/-! ### comprehensions by what they give -/
section
variable {σ : St} {H : Hp} {te tl : TE} {fr : St → St} {k : Nat} {K : PySem.W.Frag}
/-- over a range, by what holds between two turns -/
theorem gv_compR {ta : TA} {n : Int} (Pv : Addr → Nat → List V → Hp → Prop) (ha : PuA ta σ H [.int n]) (h1 : -(2 ^ 62) ≤ n) (h2 : n < 2 ^ 62) (hk : ∀ x, KeepS (fr σ) ((fr σ).set k (some x)))
    (h0 : ∀ D, H D = none → Pv D 0 [] (upd H D (.lst [])))
    (hs : ∀ D (i : Nat) ys H', H D = none → i < n.toNat → Pv D i ys H' → ys.length < sizeLine ∧ Gv te ((fr σ).set k (some (.int (0 + i)))) H' (fun y H4 => H4 D = some (.lst ys) ∧ Pv D (i + 1) (ys ++ [y]) (upd H4 D (.lst (ys ++ [y]))))) :
    Gv (tComp (iRng1 ta) fr (gName k) te) σ H (fun v H' => ∃ D ys, H D = none ∧ v = .ref D ∧ Pv D n.toNat ys H') := by
  intro Q g
  refine ha _ ⟨n, rfl, h1, h2, fun D hD => ?_⟩
  refine ⟨fun i m ys H' => m = n.toNat - i ∧ i ≤ n.toNat ∧ Pv D i ys H', ⟨_, rfl, Nat.zero_le _, h0 D hD⟩, ?_⟩
  rintro i m ys H' ⟨rfl, hi, p⟩
  by_cases hlt : i < n.toNat
  · obtain ⟨z1, z2⟩ := hs D i ys H' hD hlt p
    refine .inr ⟨hlt, z1, fun x H3 y => ?_⟩
    obtain ⟨e, y⟩ := y
    subst e y
    exact ⟨hk _, z2 _ fun v H4 r => ⟨r.1, n.toNat - (i + 1), by omega, rfl, hlt, r.2⟩⟩
  · have e : i = n.toNat := by omega
    subst e
    exact .inl ⟨Nat.le_refl _, g _ _ ⟨D, ys, hD, rfl, p⟩⟩
theorem gv_andG {ta tb : TE} {R R' : V → Hp → Prop} (h : Gv ta σ H R) (f : ∀ v H', R v H' → ∃ c, v = .bl c ∧ (c = true → Gv tb σ H' R') ∧ (c = false → R' (.bl false) H')) : Gv (tAndV ta tb) σ H R' := by
  intro Q g
  refine h _ fun v H' r => ?_
  obtain ⟨c, rfl, h1, h2⟩ := f v H' r
  refine ⟨c, rfl, ?_⟩
  cases c with
  | true => rw [if_pos rfl]; exact h1 rfl Q g
  | false => rw [if_neg Bool.false_ne_true]; exact g _ _ (h2 rfl)
end
/-! ### tuples in lists -/
def TupsT (H : Hp) (vs : List V) (nss : List (List Int)) : Prop := Paired (TupT H) vs nss
theorem TupsT.mono {H H' : Hp} {vs : List V} {nss : List (List Int)} (h : TupsT H vs nss) (f : ∀ v ns, TupT H v ns → TupT H' v ns) : TupsT H' vs nss := Paired.mapP h f
theorem TupsT.get {H : Hp} : ∀ {vs : List V} {nss : List (List Int)} {i : Nat} {ns : List Int}, TupsT H vs nss → nss[i]? = some ns → ∃ v, vs[i]? = some v ∧ TupT H v ns
  | _, _, _, _, .nil, e => by simp at e
  | _, _, 0, _, .cons r _, e => by simp at e; subst e; exact ⟨_, rfl, r⟩
  | _, _, i + 1, ns, .cons _ t, e => by
    obtain ⟨u, h1, h2⟩ := TupsT.get (i := i) (ns := ns) t (by simpa using e)
    exact ⟨u, by simpa using h1, h2⟩
theorem TupsT.get' {H : Hp} {vs : List V} {nss : List (List Int)} {i : Nat} {v : V} (h : TupsT H vs nss) (e : vs[i]? = some v) : ∃ ns, nss[i]? = some ns ∧ TupT H v ns := by
  have hl := Paired.length h
  have hi : i < nss.length := by rw [← hl]; exact (List.getElem?_eq_some_iff.mp e).1
  obtain ⟨w, h1, h2⟩ := h.get (List.getElem?_eq_getElem hi)
  rw [h1] at e; cases e
  exact ⟨_, List.getElem?_eq_getElem hi, h2⟩
theorem TupsT.snoc {H : Hp} {vs : List V} {nss : List (List Int)} {v : V} {ns : List Int} (h : TupsT H vs nss) (x : TupT H v ns) : TupsT H (vs ++ [v]) (nss ++ [ns]) := Paired.snoc h x
theorem TupsT.len {H : Hp} {vs : List V} {nss : List (List Int)} (h : TupsT H vs nss) : vs.length = nss.length := Paired.length h
theorem TupT.upd {H : Hp} {l : Addr} {ys zs : List V} {v : V} {ns : List Int} (h : TupT H v ns) (hl : H l = some (.lst ys)) : TupT (upd H l (.lst zs)) v ns := h.sameB SameB.upd hl
/-! ### the hand of a law -/
def HandAt (H : Hp) (hd sc : Addr) : Prop := ∃ (ns : List Int) (i b c p q : Int), H hd = some (.lst [.ref sc, .int i, .int b, .int c, .int p, .int q]) ∧ H sc = some (.lst (ns.map V.int)) ∧ 0 ≤ i
theorem HandAt.ne {H : Hp} {hd sc : Addr} {ns : List Int} {i b c p q : Int} (h1 : H hd = some (.lst [.ref sc, .int i, .int b, .int c, .int p, .int q])) (h2 : H sc = some (.lst (ns.map V.int))) : sc ≠ hd := by
  intro e
  subst e
  rw [h1] at h2
  cases ns with
  | nil => simp at h2
  | cons n r => simp at h2
theorem HandAt.same {H H' : Hp} {hd sc : Addr} (h : HandAt H hd sc) (e : Same H H') : HandAt H' hd sc := by
  obtain ⟨ns, i, b, c, p, q, h1, h2, h0⟩ := h
  exact ⟨ns, i, b, c, p, q, e _ _ h1, e _ _ h2, h0⟩
theorem HandAt.ls {H : Hp} {hd sc : Addr} (h : HandAt H hd sc) : ∃ ys, H hd = some (.lst ys) := by
  obtain ⟨ns, i, b, c, p, q, h1, _⟩ := h
  exact ⟨_, h1⟩
theorem HandAt.fresh {H : Hp} {hd sc l : Addr} (h : HandAt H hd sc) (hl : H l = none) : l ≠ hd ∧ l ≠ sc := by
  obtain ⟨ns, i, b, c, p, q, h1, h2, _⟩ := h
  exact ⟨Ne.symm (ne_of_none h1 hl), Ne.symm (ne_of_none h2 hl)⟩
theorem HandAt.upd {H : Hp} {hd sc l : Addr} {o : HO} (h : HandAt H hd sc) (n : l ≠ hd ∧ l ≠ sc) : HandAt (upd H l o) hd sc := by
  obtain ⟨ns, i, b, c, p, q, h1, h2, h0⟩ := h
  exact ⟨ns, i, b, c, p, q, by rw [upd_ne (Ne.symm n.1)]; exact h1, by rw [upd_ne (Ne.symm n.2)]; exact h2, h0⟩
end L2

set_option linter.all false
set_option maxRecDepth 100000
set_option maxHeartbeats 4000000
namespace L2
open PySem PySem.Spec PyProof.Rows
/-- a point laid as a tuple; how long its numbers are -/
def AtP (H : Hp) (v : V) (p : Pt3) : Prop := TupT H v [p.x, p.y, p.z]
structure Sz (n : Nat) (p : Pt3) : Prop where
  x : Bd n p.x
  y : Bd n p.y
  z : Bd n p.z
theorem Sz.mono {m n : Nat} {p : Pt3} (h : Sz m p) (e : m ≤ n) : Sz n p := ⟨h.x.mono e, h.y.mono e, h.z.mono e⟩
theorem Sz.is3 {n : Nat} {A B C : Int} {r : Pt3} (h : Is3 A B C r) (a : Bd n A) (b : Bd n B) (c : Bd n C) : Sz n r := ⟨a.le h.le.1, b.le h.le.2.1, c.le h.le.2.2⟩
theorem hAtP {H H' : Hp} {hd sc : Addr} {v : V} {p : Pt3} (h : AtP H v p) (hh : HandAt H hd sc) (s : SameB hd H H') : AtP H' v p := by
  obtain ⟨ys, hy⟩ := hh.ls
  exact TupT.sameB h s hy
/-! ### sums of fractions -/
def L3 (p : Pt3) : List Int := [p.x, p.y, p.z]
/-! ### a comprehension that catches one name -/
theorem lookup_one {y y' : Str} {c c' : Addr} (h : List.lookup y' [(y, c)] = some c') : y' = y ∧ c' = c := by
  rw [List.lookup_cons] at h
  split at h
  · rename_i e
    exact ⟨eq_of_beq e, (Option.some.inj h).symm⟩
  · cases h
theorem lookup_mem {names : List (Str × NameKind)} {y : Str} {k : NameKind} (e : names.lookup y = some k) : (y, k) ∈ names := by
  induction names with
  | nil => cases e
  | cons p r ih =>
    rw [List.lookup_cons] at e
    split at e
    · rename_i h
      have h' : y = p.1 := eq_of_beq h
      have e' : p.2 = k := Option.some.inj e
      rw [h', ← e']
      exact List.mem_cons_self
    · exact List.mem_cons_of_mem _ (ih e)
section
variable {X : Cx}
theorem pe_lcompC {x y : Str} {px : Pos} {elt iter : Expr} {scope : Scope} {c : Addr} {pos : Pos} {wi : TI} {te : TE} (j : Nat)
    (hc : X.calm = true) (hi : PI X (.Name x px) iter wi)
    (hg : ∀ C fp s0 H0, PG (blk X [x, y] scope [(y, c)] C fp s0 H0) (.Name x px) (gName 0)) (he : ∀ C fp s0 H0, PE (blk X [x, y] scope [(y, c)] C fp s0 H0) elt te)
    (hclos : closureFor scope X.env = pure [(y, c)]) (hkind : scope.kind = .function) (hnames : ∀ x ∈ scope.names, x.2 = .local → scope.names.lookup x.1 = some .local) (hcell : ∀ y ∈ scope.names, y.2 ≠ .cell)
    (hcy : X.env.cells.lookup y = some c) (hNj : X.N[j]? = some y) (hk : X.env.kindOf y = some .cell) (hrel : (relabel scope X.env).names.lookup y = some .cell)
    (hall : ((relabel scope X.env).names.all fun p => (p.2 != .cell && p.2 != .free) || p.1 == y) = true)
    (hs : ∀ x, foldedSetIterable iter X.env x = pure x := by intro _; rfl) :
    PE X (.ListComp elt [⟨.Name x px, iter, [], 0⟩] scope pos) (tComp wi (fun σ => [none, (σ[j]?).join]) (gName 0) te) := by
  refine pe_lcomp (N' := [x, y]) (cl := [(y, c)]) hc hi hg he hclos hkind hnames hcell (fun y' c' h => ?_) (fun y' h => ?_) (fun _ _ => rfl) (fun σ i y' v e1 e2 => ?_) hs
  · obtain ⟨rfl, rfl⟩ := lookup_one h
    exact hcy
  · rw [List.all_eq_true] at hall
    have key : ∀ k, (k = .cell ∨ k = .free) → (relabel scope X.env).names.lookup y' = some k → y' = y := fun k hk e => by
      have := hall _ (lookup_mem e)
      rcases hk with rfl | rfl
      · simpa using this
      · simpa using this
    have e : y' = y := by
      rcases h with h | h
      · exact key _ (.inl rfl) h
      · exact key _ (.inr rfl) h
    subst e
    exact ⟨c, by rw [List.lookup_cons, beq_self_eq_true]⟩
  · match i, e1, e2 with
    | 0, _, e2 => cases e2
    | 1, e1, e2 =>
      have e1' : y = y' := by simpa using e1
      subst e1'
      have e2' : (σ[j]?).join = some v := by simpa using e2
      refine ⟨j, hNj, ?_, hk, hrel⟩
      cases h : σ[j]? with
      | none => rw [h] at e2'; cases e2'
      | some o => rw [h] at e2'; have : o = some v := e2'; rw [this]
    | i + 2, e1, _ => simp at e1
end
/-! ### lists of points -/
def pt0 : Pt3 := ⟨0, 0, 1⟩
def prv (n k : Nat) : Nat := if k = 0 then n - 1 else k - 1
theorem atI_prv {α : Type} {xs : List α} {k : Nat} (h : k < xs.length) : atI xs ((k : Int) - 1) = xs[prv xs.length k]? ∧ prv xs.length k < xs.length := by
  unfold prv
  by_cases hk : k = 0
  · subst hk
    rw [if_pos rfl]
    refine ⟨?_, by omega⟩
    unfold atI ixN
    rw [if_neg (by omega), if_pos (by omega)]
    show xs[(((0 : Nat) : Int) - 1 + (xs.length : Int)).toNat]? = _
    congr 1
    omega
  · rw [if_neg hk]
    have hk' : k - 1 < xs.length := by omega
    refine ⟨?_, hk'⟩
    rw [show ((k : Int) - 1) = ((k - 1 : Nat) : Int) by omega, List.getElem?_eq_getElem hk']
    exact atI_nat (List.getElem?_eq_getElem hk')
theorem getD_mem {ps : List Pt3} {k : Nat} (h : k < ps.length) : ps.getD k pt0 ∈ ps ∧ ps[k]? = some (ps.getD k pt0) := by
  rw [List.getD_eq_getElem?_getD, List.getElem?_eq_getElem h]
  exact ⟨List.getElem_mem h, rfl⟩
/-- the list at l holds these points -/
def LP (H : Hp) (l : Addr) (ps : List Pt3) : Prop := ∃ ys, H l = some (.lst ys) ∧ TupsT H ys (ps.map L3)
theorem LP.same {H H' : Hp} {l : Addr} {ps : List Pt3} (h : LP H l ps) (s : Same H H') : LP H' l ps := by
  obtain ⟨ys, h1, h2⟩ := h
  exact ⟨ys, s _ _ h1, h2.mono fun _ _ x => x.same s⟩
end L2

set_option linter.all false
namespace L2
/-! ### what two sides share -/
/-! ### the order of points -/
/-! ### on one line -/
end L2

set_option linter.all false
set_option maxRecDepth 100000
set_option maxHeartbeats 4000000
namespace L2
open PySem PySem.Spec PyProof.Rows
/-! ### tuples of points -/
theorem put_cast {t : TT} {σ : St} {H : Hp} {v w : Bool} (h : PuT t σ H v) (e : v = w) : PuT t σ H w := by rw [← e]; exact h
theorem gn_tru {σ : St} {H : Hp} {te : TE} {R : Hp → Prop} (h : Gv te σ H (fun v H' => v = .bl true ∧ R H')) : GvT (tNot (tB te)) σ H (fun b H' => b = false ∧ R H') :=
  fun Q f => h _ fun v H' r => ⟨true, r.1, f _ _ ⟨rfl, r.2⟩⟩
/-! ### sizes of what is told -/
end L2

set_option linter.all false
namespace L2
/-! ### just what is shared -/
end L2

set_option linter.all false
set_option maxRecDepth 100000
set_option maxHeartbeats 4000000
namespace L2
open PySem PySem.Spec PyProof.Rows
/-! ### zip -/
section
variable {prog : Program} {w : World} {A : Around} {E : Value → Shared → Prop} {s : Shared}
/-- what a zip draws from -/
structure Src (prog : Program) (w : World) (j l : Addr) (tu : Nat → Heap → Prop) (has : Array Value → Heap → Prop) : Prop where
  tk : ∀ k h h', tu k h → (∀ o, h.get? j = some o → h'.get? j = some o) → tu k h'
  hk : ∀ xs h h', has xs h → (∀ o, h.get? l = some o → h'.get? l = some o) → has xs h'
  item : ∀ (A : Around) (k : Nat) (xs : Array Value) (x : Value) (s : Shared) (Q : Value → Shared → Prop) (E : Value → Shared → Prop), tu k s.heap → has xs s.heap → xs[k]? = some x →
    (∀ h', tu (k + 1) h' → Heap.SameBut j s.heap h' → Q x { s with heap := h' }) → wpAny (model prog w) A (Builtin.SmallTypes.nextOf (.ref j)) Q E s
  stop : ∀ (A : Around) (k : Nat) (xs : Array Value) (s : Shared) (Q : Value → Shared → Prop) (E : Value → Shared → Prop), A.handled = none → tu k s.heap → has xs s.heap → xs[k]? = none →
    (∀ h' x, Heap.ExtBut j s.heap h' → (∃ o, h'.get? x = some o ∧ o.cls = .type "StopIteration") → E (.ref x) { s with heap := h' }) → wpAny (model prog w) A (Builtin.SmallTypes.nextOf (.ref j)) Q E s
  obj : ∀ k h, tu k h → ∃ o, h.get? j = some o ∧ ∀ v, o.data ≠ .cell v
theorem src_list (j l : Addr) : Src prog w j l (fun k h => h.IsListIter j l k) (fun xs h => h.IsList l xs) where
  tk := fun k h h' st f => st.at fun o e => f o e
  hk := fun xs h h' st f => st.at fun o e => f o e
  item := fun A k xs x s Q E st hl e q => wpAny_nextOf_list_item st hl e q
  stop := fun A k xs s Q E hd st hl e q => wpAny_nextOf_list_end hd st hl e q
  obj := fun k h st => by
    obtain ⟨o, e, _, d⟩ := st
    exact ⟨o, e, fun v z => by rw [d] at z; cases z⟩
variable {z TI TO i1 i2 l1 l2 : Addr} {k1 k2 : Nat} {xs ys : Array Value} {x y a b : Value} {tu1 tu2 : Nat → Heap → Prop} {has1 has2 : Array Value → Heap → Prop}
/-- what the second turn of the loop within a zip's step leaves: the pair that is kept has both things, the zip waits to hand it out -/
theorem zz_out {Q : Value → Shared → Prop} {g : Heap} (hz : IsZip g z TI TO .ellipsis) (q : ∀ g', IsZip g' z TI TO (rawInt g.objs.size) → IsPair g' g.objs.size x y → (∀ c o, c ≠ z → g.get? c = some o → g'.get? c = some o) → Q (.ref g.objs.size) { s with heap := g' }) :
    wpAny (model prog w) A (newTuple [x, y] >>= fun v => Builtin.SmallTypes.ownedTupleHandOut (.ref z) v >>= fun _ => ret v) (fun fin s' => ∃ v, fin = .done (.ret v) ∧ Q v s') E { s with heap := g } := by
  have zl : z ≠ g.objs.size := Nat.ne_of_lt (Heap.lt_size hz)
  refine wpAny_bind (wpAny_newTuple (wpAny_bind ?_))
  unfold Builtin.SmallTypes.ownedTupleHandOut
  have p0 : IsPair (g.push { cls := .type "tuple", data := .seq #[x, y] }) g.objs.size x y := Heap.get?_push_size _ rfl
  refine wpAny_bind (wpAny_setField_rec (Heap.get?_push_of_some _ hz) (by simp) fun _ z1 b1 => wpAny_setField_rec z1 (by simp) fun _ z2 b2 => wpAny_pure ⟨_, rfl, q _ z2 ?_ fun c o n e => ?_⟩)
  · exact b2.extBut _ _ zl.symm (b1.extBut _ _ zl.symm p0)
  · exact b2.extBut _ _ n (b1.extBut _ _ n (Heap.get?_push_of_some _ e))
/-- one step of a zip over two sources, whichever way it ends -/
theorem zz_turn {Q : Value → Shared → Prop} (D : ZipApart z TI TO i1 i2 l1 l2) (S1 : Src prog w i1 l1 tu1 has1) (S2 : Src prog w i2 l2 tu2 has2) (hz : IsZip s.heap z TI TO .none) (hI : IsPair s.heap TI (.ref i1) (.ref i2)) (hO : IsPair s.heap TO a b)
    (t1 : tu1 k1 s.heap) (t2 : tu2 k2 s.heap) (c1 : has1 xs s.heap) (c2 : has2 ys s.heap) (hd : xs[k1]? = none ∨ ys[k2]? = none → A.handled = none)
    (it : ∀ x y h', xs[k1]? = some x → ys[k2]? = some y → IsZip h' z TI TO (rawInt s.heap.objs.size) → IsPair h' TO x y → tu1 (k1 + 1) h' → tu2 (k2 + 1) h' → IsPair h' s.heap.objs.size x y →
      (∀ c o, c ≠ z ∧ c ≠ TO ∧ c ≠ i1 ∧ c ≠ i2 → s.heap.get? c = some o → h'.get? c = some o) → Q (.ref s.heap.objs.size) { s with heap := h' })
    (en : ∀ h' e, xs[k1]? = none ∨ ys[k2]? = none → (∀ c o, c ≠ z ∧ c ≠ i1 ∧ c ≠ TO ∧ c ≠ i2 → s.heap.get? c = some o → h'.get? c = some o) → (∃ o, h'.get? e = some o ∧ o.cls = .type "StopIteration") → E (.ref e) { s with heap := h' }) :
    wpAny (model prog w) A (Builtin.«zip.__next__» ⟨[.ref z], []⟩) (fun fin s' => ∃ v, fin = .done (.ret v) ∧ Q v s') E s := by
  have rd : ∀ {β : Type} {f : Nat} {x : Value} {k : Value → Sem β} {R : β → Shared → Prop}, (#[Value.none, .bool false, .bool false, .ref TI, .ref TO] : Array Value)[f]? = some x → wpAny (model prog w) A (k x) R E s → wpAny (model prog w) A (field (.ref z) f >>= k) R E s := fun e h => wpAny_bind (wpAny_field hz rfl e h)
  refine rd (f := 2) rfl (rd (f := 3) rfl (wpAny_bind (wpAny_seqItems hI rfl (wpAny_bind (rd (f := 0) rfl (wpAny_pure ?_))))))
  rw [if_pos (by rfl)]
  refine wpAny_bind (wpAny_rule (rd (f := 4) rfl (wpAny_bind (wpAny_setField_rec hz (by simp) fun g hg bg => wpAny_bind ?_))))
  have hg' : IsZip g z TI TO .ellipsis := hg
  have hO1 : IsPair g TO a b := bg.extBut _ _ D.TOz hO
  have pass : ∀ {g1 g2 : Heap} {e : Addr}, IsZip g1 z TI TO .ellipsis → (∃ o, g1.get? e = some o ∧ o.cls = .type "StopIteration") → Heap.SameBut z g1 g2 → ∃ o, g2.get? e = some o ∧ o.cls = .type "StopIteration" := fun iz ⟨o, h1, h2⟩ bb => ⟨o, bb.extBut _ _ (fun ez => by rw [ez, iz] at h1; cases h1; simp at h2) h1, h2⟩
  dsimp only [List.zipIdx_cons, List.zipIdx_nil]
  rw [List.forIn_cons]
  refine wpAny_bind (wpAny_bind (wpAny_onRaise (m := Builtin.SmallTypes.nextOf (.ref i1) >>= _) (wpAny_bind ?_)))
  have a1 := S1.tk _ _ _ t1 fun o e => bg.extBut _ o D.i1z e
  have a2 := S1.hk _ _ _ c1 fun o e => bg.extBut _ o D.l1z e
  cases hx : xs[k1]? with
  | none => exact S1.stop _ k1 xs { s with heap := g } _ _ (hd (.inl hx)) a1 a2 hx fun g' e bx he => wpAny_setField_rec (bx _ _ D.i1z.symm hg') (by simp) fun g2 _ b2 => en g2 e (.inl hx) (fun c o n f => b2.extBut _ _ n.1 (bx _ _ n.2.1 (bg.extBut _ _ n.1 f))) (pass (bx _ _ D.i1z.symm hg') he b2)
  | some x =>
    refine S1.item _ k1 xs x { s with heap := g } _ _ a1 a2 hx fun g' u1 bx => wpAny_pure ?_
    have o1 : IsPair g' TO a b := bx.extBut _ _ D.TOi1 hO1
    refine wpAny_bind (wpAny_seqItems o1 rfl (wpAny_bind (wpAny_updateSeq_pair o1 fun g2 o2 b2 => wpAny_bind (wpAny_letGo (wpAny_pure ?_)))))
    dsimp only
    rw [List.forIn_cons]
    refine wpAny_bind (wpAny_bind (wpAny_onRaise (m := Builtin.SmallTypes.nextOf (.ref i2) >>= _) (wpAny_bind ?_)))
    have up : ∀ c o, c ≠ z → c ≠ i1 → c ≠ TO → s.heap.get? c = some o → g2.get? c = some o := fun c o n1 n2 n3 e => b2.extBut _ _ n3 (bx.extBut _ _ n2 (bg.extBut _ _ n1 e))
    have d1 := S2.tk _ _ _ t2 fun o e => up _ o D.i2z D.i12.symm D.TOi2.symm e
    have d2 := S2.hk _ _ _ c2 fun o e => up _ o D.l2z D.l2i1 D.l2TO e
    have zg2 : IsZip g2 z TI TO .ellipsis := b2.extBut _ _ D.TOz.symm (bx.extBut _ _ D.i1z.symm hg')
    cases hy : ys[k2]? with
    | none => exact S2.stop _ k2 ys { s with heap := g2 } _ _ (hd (.inr hy)) d1 d2 hy fun g' e by_ he => wpAny_setField_rec (by_ _ _ D.i2z.symm zg2) (by simp) fun g3 _ b3 => en g3 e (.inr hy) (fun c o n f => b3.extBut _ _ n.1 (by_ _ _ n.2.2.2 (up c o n.1 n.2.1 n.2.2.1 f))) (pass (by_ _ _ D.i2z.symm zg2) he b3)
    | some y =>
      refine S2.item _ k2 ys y { s with heap := g2 } _ _ d1 d2 hy fun g3 u2 by_ => wpAny_pure ?_
      have o3 : IsPair g3 TO x b := by_.extBut _ _ D.TOi2 o2
      refine wpAny_bind (wpAny_seqItems o3 rfl (wpAny_bind (wpAny_updateSeq_pair o3 fun g4 o4 b4 => wpAny_bind (wpAny_letGo (wpAny_pure ?_)))))
      dsimp only
      rw [List.forIn_nil]
      have o4' : IsPair g4 TO x y := o4
      have sz : g4.objs.size = s.heap.objs.size := b4.1.trans (by_.1.trans (b2.1.trans (bx.1.trans bg.1)))
      have v1 := S1.tk _ _ _ u1 fun o e => b4.extBut _ o D.TOi1.symm (by_.extBut _ o D.i12 (b2.extBut _ o D.TOi1.symm e))
      have v2 := S2.tk _ _ _ u2 fun o e => b4.extBut _ o D.TOi2.symm e
      refine wpAny_pure (wpAny_bind (wpAny_seqItems o4' rfl (zz_out (s := s) (x := x) (y := y) (b4.extBut _ _ D.TOz.symm (by_.extBut _ _ D.i2z.symm zg2)) fun g5 e1 e2 e3 => ?_)))
      rw [sz] at e1 e2 ⊢
      exact it x y g5 hx hy e1 (e3 _ _ D.TOz o4') (S1.tk _ _ _ v1 fun o e => e3 _ o D.i1z e) (S2.tk _ _ _ v2 fun o e => e3 _ o D.i2z e) e2 fun c o n f => e3 _ _ n.1 (b4.extBut _ _ n.2.1 (by_.extBut _ _ n.2.2.2 (up c o n.1 n.2.2.1 n.2.1 f)))
theorem zz_nextItem {Q : Option Value → Shared → Prop} (D : ZipApart z TI TO i1 i2 l1 l2) (S1 : Src prog w i1 l1 tu1 has1) (S2 : Src prog w i2 l2 tu2 has2) (hz : IsZip s.heap z TI TO .none) (hI : IsPair s.heap TI (.ref i1) (.ref i2)) (hO : IsPair s.heap TO a b)
    (t1 : tu1 k1 s.heap) (t2 : tu2 k2 s.heap) (c1 : has1 xs s.heap) (c2 : has2 ys s.heap) (ex : xs[k1]? = some x) (ey : ys[k2]? = some y)
    (q : ∀ h', IsZip h' z TI TO (rawInt s.heap.objs.size) → IsPair h' TO x y → tu1 (k1 + 1) h' → tu2 (k2 + 1) h' → IsPair h' s.heap.objs.size x y →
      (∀ c o, c ≠ z → c ≠ TO → c ≠ i1 → c ≠ i2 → s.heap.get? c = some o → h'.get? c = some o) → Q (some (.ref s.heap.objs.size)) { s with heap := h' }) : wpAny (model prog w) A (pyNext (.ref z)) Q E s := by
  have ty : s.TypeIs (.ref z) "zip" := ⟨_, hz, rfl⟩
  unfold pyNext
  have no : ¬ (xs[k1]? = none ∨ ys[k2]? = none) := by rw [ex, ey]; rintro (h | h) <;> cases h
  refine wpAny_bind (wpAny_attempt (wpAny_callSpecial?_slot (name := Str.ofString "__next__") ty F.slot_zip_next (wpAny_call_entry F.slot_zip_next ty F.entry_zip_next (zz_turn D S1 S2 hz hI hO t1 t2 c1 c2 (fun h => absurd h no) (fun x' y' h' e1 e2 a1 a2 a3 a4 a5 a6 => ?_) fun _ _ h => absurd h no) (F.args_zip_next_1 _))))
  rw [ex] at e1
  rw [ey] at e2
  cases e1
  cases e2
  exact wpAny_pure (q h' a1 a2 a3 a4 a5 fun c o n1 n2 n3 n4 => a6 c o ⟨n1, n2, n3, n4⟩)
theorem zz_nextEnd {Q : Option Value → Shared → Prop} (hd : A.handled = none) (D : ZipApart z TI TO i1 i2 l1 l2) (S1 : Src prog w i1 l1 tu1 has1) (S2 : Src prog w i2 l2 tu2 has2) (hz : IsZip s.heap z TI TO .none) (hI : IsPair s.heap TI (.ref i1) (.ref i2)) (hO : IsPair s.heap TO a b)
    (t1 : tu1 k1 s.heap) (t2 : tu2 k2 s.heap) (c1 : has1 xs s.heap) (c2 : has2 ys s.heap) (en : xs[k1]? = none ∨ ys[k2]? = none)
    (q : ∀ h', (∀ c o, c ≠ z → c ≠ TO → c ≠ i1 → c ≠ i2 → s.heap.get? c = some o → h'.get? c = some o) → Q none { s with heap := h' }) : wpAny (model prog w) A (pyNext (.ref z)) Q E s := by
  have ty : s.TypeIs (.ref z) "zip" := ⟨_, hz, rfl⟩
  unfold pyNext
  refine wpAny_bind (wpAny_attempt (wpAny_callSpecial?_slot (name := Str.ofString "__next__") ty F.slot_zip_next (wpAny_call_entry F.slot_zip_next ty F.entry_zip_next (zz_turn D S1 S2 hz hI hO t1 t2 c1 c2 (fun _ => hd) (fun x y h' e1 e2 => ?_) fun h' e _ hk he => ?_) (F.args_zip_next_1 _))))
  · rw [e1, e2] at en
    rcases en with h | h <;> cases h
  · obtain ⟨o, ho, hc⟩ := he
    exact wpAny_bind (wpAny_isInstance (T := "StopIteration") (b := true) ⟨o, ho, hc⟩ isSubtype_stop (wpAny_pure (q _ fun c o n1 n2 n3 n4 => hk c o ⟨n1, n3, n2, n4⟩)))
end
/-! ### the invariant behind a turn of several objects -/
section
variable {X : Cx} {pins : List (Addr × Obj)} {σ : St} {H : Hp} {s : Shared} {h' : Heap} {ch : List Addr}
theorem Inv.turnedL (I : Inv X pins σ H s) (k : ∀ b o, b ∉ ch → s.heap.get? b = some o → h'.get? b = some o) (f : ∀ b ∈ ch, FpOk X pins H b) : Inv X pins σ H { s with heap := h' } := by
  have no : ∀ b u, H b = some u → b ∉ ch := fun b u e hb => by have := (f b hb).1; rw [e] at this; cases this
  refine I.call' (s' := { s with heap := h' }) (ch := ch) rfl ⟨fun b o e _ _ n => k b o n e, fun b o e _ _ n => ⟨o.slots, k b o n e⟩, fun _ _ _ n _ => n, fun b o e n => ⟨o, k b o n e⟩, fun _ _ e => e, fun _ _ _ e => e, fun b ps e => ⟨#[], by rw [e]; simp⟩⟩ (fun a o e => ?_) I.bare fun b hb => ?_
  · refine (I.hok a o e).stay (fun c u hc q => k c u ?_ q) (fun _ q => q) fun _ _ q => q
    rcases hc with rfl | hc
    · exact no _ _ e
    · exact no _ _ hc
  · exact ⟨(f b hb).2.2.2.1, (f b hb).2.1, (f b hb).2.2.2.2.1, (f b hb).2.2.2.2.2⟩
theorem Inv.turnedT {x y : V} {u v : Value} (I : Inv X pins σ H s) (k : ∀ b o, b ∉ ch → s.heap.get? b = some o → h'.get? b = some o) (f : ∀ b ∈ ch, FpOk X pins H b) (hT : IsPair h' s.heap.objs.size u v) (ru : RelV x u) (rv : RelV y v) :
    Inv X pins σ (upd H s.heap.objs.size (.tup [x, y])) { s with heap := h' } := by
  have no : ∀ b u, H b = some u → b ∉ ch := fun b u e hb => by have := (f b hb).1; rw [e] at this; cases this
  have hn : H s.heap.objs.size = none := I.hok.fresh (Nat.le_refl _)
  have ne : ∀ {b : Addr} {o : Obj}, s.heap.get? b = some o → b ≠ s.heap.objs.size := fun e => Nat.ne_of_lt (Heap.lt_size e)
  refine I.call' (s' := { s with heap := h' }) (ch := ch) rfl ⟨fun b o e _ _ n => k b o n e, fun b o e _ _ n => ⟨o.slots, k b o n e⟩, fun b o e n _ => by rw [upd_ne (ne e)]; exact n, fun b o e n => ⟨o, k b o n e⟩, fun b xs e => by rw [upd_ne (ne_of_none e hn)]; exact e, fun b o u e => by rw [upd_ne (ne_of_none e hn)]; exact e, fun b ps e => ⟨#[], by rw [upd_ne (ne_of_none e hn), e]; simp⟩⟩ (fun a o e => ?_) I.bare fun b hb => ?_
  · by_cases ha : a = s.heap.objs.size
    · subst ha
      rw [upd_same] at e
      cases e
      exact ⟨by show 2 ≤ sizeLine; decide, [u, v], .cons ru (.cons rv .nil), ⟨_, hT, rfl, _, rfl⟩⟩
    · rw [upd_ne ha] at e
      refine (I.hok a o e).stay (fun c u hc q => k c u ?_ q) (fun c q => by rw [upd_ne (ne_of_none q hn)]; exact q) fun c xs q => by rw [upd_ne (ne_of_none q hn)]; exact q
      rcases hc with rfl | hc
      · exact no _ _ e
      · exact no _ _ hc
  · exact ⟨(f b hb).2.2.2.1, (f b hb).2.1, (f b hb).2.2.2.2.1, (f b hb).2.2.2.2.2⟩
end
/-! ### zip walked -/
/-- a kind of sequence that a zip may draw from -/
structure SrcK (c : List V → HO) (tu : Addr → Addr → Nat → Heap → Prop) (has : Addr → Array Value → Heap → Prop) : Prop where
  src : ∀ (prog : Program) (w : World) (j l : Addr), Src prog w j l (tu j l) (has l)
  of : ∀ {P : Program} {w : World} {H : Hp} {h : Heap} {a : Addr} {xs : List V}, ObjOk P w H h a (c xs) → ∃ its : List Value, Vals xs its ∧ has a its.toArray h
  inj : ∀ {xs ys : List V}, c xs = c ys → xs = ys
theorem sk_list : SrcK HO.lst (fun j l k h => h.IsListIter j l k) (fun l xs h => h.IsList l xs) where
  src := fun _ _ j l => src_list j l
  of := fun x => by
    obtain ⟨_, its, n, r, e⟩ := x
    exact ⟨its, r, ⟨_, e, rfl, n, rfl⟩⟩
  inj := fun e => by cases e; rfl
def Itz (c d : List V → HO) (a b : Addr) : It :=
  ⟨fun i H => ∃ xs ys x y, H a = some (c xs) ∧ H b = some (d ys) ∧ xs[i]? = some x ∧ ys[i]? = some y,
   fun i H v H' => ∃ p x y, H p = none ∧ v = .ref p ∧ H' = upd H p (.tup [x, y]) ∧ (∀ xs, H a = some (c xs) → xs[i]? = some x) ∧ ∀ ys, H b = some (d ys) → ys[i]? = some y,
   fun i H => ∃ xs ys, H a = some (c xs) ∧ H b = some (d ys) ∧ (xs.length ≤ i ∨ ys.length ≤ i)⟩
theorem turn_zip {P : Program} {w : World} {K : PySem.W.Frag} {es : List Expr} {n1} {pos : Pos} {c d : List V → HO} {tu1 tu2 : Addr → Addr → Nat → Heap → Prop} {has1 has2 : Addr → Array Value → Heap → Prop} (K1 : SrcK c tu1 has1) (K2 : SrcK d tu2 has2)
    {z TI TO i1 i2 a b : Addr} (D : ZipApart z TI TO i1 i2 a b) : Turn P w K (.Tuple es n1 pos) (Itz c d a b) [z, TI, TO, i1, i2] z (fun i h => IsZip h z TI TO .none ∧ IsPair h TI (.ref i1) (.ref i2) ∧ (∃ x y, IsPair h TO x y) ∧ tu1 i1 a i h ∧ tu2 i2 b i h) where
  mem := by simp
  obj := fun i h st e he => by
    obtain ⟨hz, hI, ⟨x, y, hO⟩, t1, t2⟩ := st
    simp only [List.mem_cons, List.not_mem_nil, or_false] at he
    rcases he with rfl | rfl | rfl | rfl | rfl
    · exact ⟨_, hz, fun v z => nomatch z⟩
    · exact ⟨_, hI, fun v z => nomatch z⟩
    · exact ⟨_, hO, fun v z => nomatch z⟩
    · exact (K1.src P w _ a).obj i h t1
    · exact (K2.src P w _ b).obj i h t2
  keep := fun i h h' st k => by
    obtain ⟨hz, hI, ⟨x, y, hO⟩, t1, t2⟩ := st
    exact ⟨k z (by simp) _ hz, k TI (by simp) _ hI, ⟨x, y, k TO (by simp) _ hO⟩, (K1.src P w i1 a).tk _ _ _ t1 fun o e => k i1 (by simp) o e, (K2.src P w i2 b).tk _ _ _ t2 fun o e => k i2 (by simp) o e⟩
  item := by
    intro X hP hw hK hc i pins s σ H E I hf st hg
    subst hP hw hK
    obtain ⟨xs, ys, x, y, ha, hb, ex, ey⟩ := hg
    obtain ⟨hz, hI, ⟨p, q, hO⟩, t1, t2⟩ := st
    obtain ⟨us, ru, c1⟩ := K1.of (I.hok a _ ha)
    obtain ⟨vs, rv, c2⟩ := K2.of (I.hok b _ hb)
    obtain ⟨u, hu, rxu⟩ := ru.get ex
    obtain ⟨v, hv, ryv⟩ := rv.get ey
    refine zz_nextItem D (K1.src _ _ i1 a) (K2.src _ _ i2 b) hz hI hO t1 t2 c1 c2 (x := u) (y := v) (by simpa using hu) (by simpa using hv) fun h1 a1 a2 a3 a4 a5 a6 => ⟨_, rfl, ?_⟩
    refine wpAny_letOwnedTupleGo_zip (s := { s with heap := h1 }) a1 fun h2 hz2 sb => ?_
    have zl := Heap.lt_size hz
    have fr : H s.heap.objs.size = none := I.hok.fresh (Nat.le_refl _)
    have ne : ∀ {e : Addr} {o : Obj}, s.heap.get? e = some o → e ≠ s.heap.objs.size := fun h => Nat.ne_of_lt (Heap.lt_size h)
    have up : ∀ e o, e ≠ z → h1.get? e = some o → h2.get? e = some o := fun e o n g => sb.extBut _ _ n g
    refine ⟨.ref s.heap.objs.size, upd H s.heap.objs.size (.tup [x, y]), ?_, rfl, ⟨_, x, y, fr, rfl, rfl, fun xs' h => ?_, fun ys' h => ?_⟩, ⟨hz2, up _ _ D.TIz (a6 _ _ D.TIz D.TITO D.TIi1 D.TIi2 hI), ⟨_, _, up _ _ D.TOz a2⟩, (K1.src X.prog X.w i1 a).tk _ _ _ a3 fun o e => up _ o D.i1z e, (K2.src X.prog X.w i2 b).tk _ _ _ a4 fun o e => up _ o D.i2z e⟩, fun e he => ?_⟩
    · refine I.turnedT (ch := [z, TI, TO, i1, i2]) (fun e o n g => ?_) hf (up _ _ (Nat.ne_of_gt zl) a5) rxu ryv
      simp only [List.mem_cons, List.not_mem_nil, or_false, not_or] at n
      exact up e o n.1 (a6 e o n.1 n.2.2.1 n.2.2.2.1 n.2.2.2.2 g)
    · rw [ha] at h
      rw [← K1.inj (Option.some.inj h)]; exact ex
    · rw [hb] at h
      rw [← K2.inj (Option.some.inj h)]; exact ey
    · have : e ≠ s.heap.objs.size := by
        simp only [List.mem_cons, List.not_mem_nil, or_false] at he
        rcases he with rfl | rfl | rfl | rfl | rfl
        · exact ne hz
        · exact ne hI
        · exact ne hO
        · obtain ⟨o, h, _⟩ := (K1.src X.prog X.w _ a).obj _ _ t1; exact ne h
        · obtain ⟨o, h, _⟩ := (K2.src X.prog X.w _ b).obj _ _ t2; exact ne h
      rw [upd_ne this]; exact (hf e he).1
  done := by
    intro X hP hw hK hc i pins s σ H E I hf st hg
    subst hP hw hK
    obtain ⟨xs, ys, ha, hb, hl⟩ := hg
    obtain ⟨hz, hI, ⟨p, q, hO⟩, t1, t2⟩ := st
    obtain ⟨us, ru, c1⟩ := K1.of (I.hok a _ ha)
    obtain ⟨vs, rv, c2⟩ := K2.of (I.hok b _ hb)
    have l1 := ru.length
    have l2 := rv.length
    refine zz_nextEnd (I.ok.hd hc) D (K1.src _ _ i1 a) (K2.src _ _ i2 b) hz hI hO t1 t2 c1 c2 ?_ fun h1 a6 => ⟨rfl, I.turnedL (ch := [z, TI, TO, i1, i2]) (fun e o n g => ?_) hf⟩
    · rcases hl with h | h
      · left; simp; omega
      · right; simp; omega
    · simp only [List.mem_cons, List.not_mem_nil, or_false, not_or] at n
      exact a6 e o n.1 n.2.2.1 n.2.2.2.1 n.2.2.2.2 g
  self := fun _ _ _ _ _ st h => wpAny_pyIter_zip st.1 h
/-! ### zip made -/
section
variable {prog : Program} {w : World} {A : Around} {E : Value → Shared → Prop} {s : Shared}
theorem zip_apart {n a b : Nat} (ha : a < n) (hb : b < n) : ZipApart (n + 4) (n + 2) (n + 3) n (n + 1) a b := by
  constructor <;> (first | exact Nat.ne_of_lt (by omega) | exact Nat.ne_of_gt (by omega))
end
section
variable {X : Cx}
/-- zip of two tracked sequences -/
def iZip (c d : List V → HO) (t : TA) : TI := fun σ H R => t σ H fun vs H1 => ∃ a b xs ys, vs = [.ref a, .ref b] ∧ H1 a = some (c xs) ∧ H1 b = some (d ys) ∧ R (Itz c d a b) H1
theorem pi_zip {c d : List V → HO} {tu1 tu2 : Addr → Addr → Nat → Heap → Prop} {has1 has2 : Addr → Array Value → Heap → Prop} (K1 : SrcK c tu1 has1) (K2 : SrcK d tu2 has2)
    (mk : ∀ {prog : Program} {w : World} {A : Around} {E : Value → Shared → Prop} {s : Shared} {a b : Addr} {xs ys : Array Value} {Q : Value → Shared → Prop}, has1 a xs s.heap → has2 b ys s.heap →
      (∀ h', IsZip h' (s.heap.objs.size + 4) (s.heap.objs.size + 2) (s.heap.objs.size + 3) .none → IsPair h' (s.heap.objs.size + 2) (.ref s.heap.objs.size) (.ref (s.heap.objs.size + 1)) →
        IsPair h' (s.heap.objs.size + 3) .none .none → tu1 s.heap.objs.size a 0 h' → tu2 (s.heap.objs.size + 1) b 0 h' → (∀ c o, s.heap.get? c = some o → h'.get? c = some o) → Q (.ref (s.heap.objs.size + 4)) { s with heap := h' }) →
      wpAny (model prog w) A (call (.type "zip") [.ref a, .ref b]) Q E s)
    {es : List Expr} {n1} {tp : Pos} {e1 e2 : Expr} {ta : TA} {p pos : Pos} (hg : Gl X "zip") (hm : X.mg "zip" = none) (hb : bootBuiltins "zip" = some (.type "zip")) (ha : PA X [e1, e2] ta)
    (hs : starEach [e1, e2] X.env = [(false, eval e1 X.env), (false, eval e2 X.env)] := by rfl) (hs2 : starEach [e2] X.env = [(false, eval e2 X.env)] := by rfl) :
    PI X (.Tuple es n1 tp) (.Call (.Name "zip" p) [e1, e2] [] pos) (iZip c d ta) := by
  intro pins s σ H R I h
  refine Call_ (ld_blt I hg hm hb (PyProof.Rows.callWith_type1 (thn (ha pos pins s σ H _ I h) fun us s1 ⟨vs, H1, I1, r1, q1⟩ => ?_) (by rw [hs, hs2]) (by rw [hs2]; rfl)))
  obtain ⟨a, b, xs, ys, rfl, h1, h2, q⟩ := q1
  cases r1 with
  | cons r rr =>
    cases rr with
    | cons r' rr =>
      cases rr
      cases r
      cases r'
      obtain ⟨us1, _, c1⟩ := K1.of (I1.hok a _ h1)
      obtain ⟨us2, _, c2⟩ := K2.of (I1.hok b _ h2)
      have la := (I1.hok a _ h1).lt
      have lb := (I1.hok b _ h2).lt
      refine mk c1 c2 fun h' z1 z2 z3 z4 z5 k => ?_
      refine wpAny_pyIter_zip (s := { s1 with heap := h' }) z1 ?_
      refine ⟨s1.heap.objs.size + 4, [s1.heap.objs.size + 4, s1.heap.objs.size + 2, s1.heap.objs.size + 3, s1.heap.objs.size, s1.heap.objs.size + 1], _, _, H1, rfl, I1.kept (t' := s1.toks) k, turn_zip K1 K2 (zip_apart la lb), ⟨z1, z2, ⟨_, _, z3⟩, z4, z5⟩, fun e he => ?_, q⟩
      have ge : s1.heap.objs.size ≤ e := by
        simp only [List.mem_cons, List.not_mem_nil, or_false] at he
        rcases he with rfl | rfl | rfl | rfl | rfl <;> omega
      exact I1.fpOk ge (I1.hok.fresh ge)
theorem pi_zipLL {es : List Expr} {n1} {tp : Pos} {e1 e2 : Expr} {ta : TA} {p pos : Pos} (hg : Gl X "zip") (hm : X.mg "zip" = none) (hb : bootBuiltins "zip" = some (.type "zip")) (ha : PA X [e1, e2] ta)
    (hs : starEach [e1, e2] X.env = [(false, eval e1 X.env), (false, eval e2 X.env)] := by rfl) (hs2 : starEach [e2] X.env = [(false, eval e2 X.env)] := by rfl) :
    PI X (.Tuple es n1 tp) (.Call (.Name "zip" p) [e1, e2] [] pos) (iZip HO.lst HO.lst ta) :=
  pi_zip sk_list sk_list (fun c1 c2 q => call_zip_2 c1 c2 fun h' a1 a2 a3 a4 a5 _ a7 => q h' a1 a2 a3 a4 a5 a7) hg hm hb ha hs hs2
end
end L2

set_option linter.all false
set_option maxRecDepth 100000
set_option maxHeartbeats 4000000
namespace L2
open PySem PySem.Spec PyProof.Rows
/-! ### how far a point lies, how long its bottom is -/
/-! ### more readings -/
theorem pg_tupK {X : Cx} {K : PySem.W.Frag} {es : List Expr} {k : Nat} {t : TGs} {n : Nat} {pos : Pos} (hK : X.K = K) (hc : X.calm = true) (h : PGs X es t) (hn : (assignEach es X.env).length = n := by rfl) (hst : (assignEach es X.env).findIdx? (·.1) = none := by rfl) : PG X (.Tuple es k pos) (gTup K n t) := by
  subst hK; exact pg_tup hc h hn hst
section
variable {σ : St} {H : Hp} {t : TA} {i j : Int} {K : PySem.W.Frag}
theorem KeepS.none2 {v w : Option V} : KeepS [none, none] [v, w] := ⟨rfl, fun i u h => by rcases i with _ | _ | i <;> simp at h⟩
end
section
variable {σ : St} {H : Hp} {D : Ends}
theorem st_range1 {g : TG} {tb : TS} {ta : TA} {n : Int} (ha : PuA ta σ H [.int n]) (h1 : -(2 ^ 62) ≤ n) (h2 : n < 2 ^ 62) (Pv : Nat → St → Hp → Prop) (h0 : Pv 0 σ H)
    (hs : ∀ (i : Nat) σ H, i < n.toNat → Pv i σ H → g (.int (0 + i)) σ H fun σ2 H2 => tb { D with nx := Pv (i + 1), ct := Pv (i + 1), bk := D.nx } σ2 H2) (hd : ∀ σ H, Pv n.toNat σ H → D.nx σ H) :
    tFor (iRng1 ta) g tb D σ H := ha _ ⟨n, rfl, h1, h2, for_range (D := D) Pv h0 hs hd⟩
end
/-! ### lists of sides -/
end L2

set_option linter.all false
namespace L2
/-! ### one place, one tuple -/
end L2

set_option linter.all false
namespace L2
end L2

set_option linter.all false
set_option maxRecDepth 100000
set_option maxHeartbeats 4000000
namespace L2
open PySem PySem.Spec PyProof.Rows
/-! ### exceptions: how one lies behind a call -/
/-! ### own classes of exceptions: each straight under one that is straight under ValueError -/
/-! ### raise -/
/-! ### a def that may raise -/
/-! ### try: name = f(..) except C as n -/
/-! ### isinstance of an exception -/
section
open PySem.W PySem.Calls Builtin Builtin.ObjectAttr Builtin.Getset_descriptor
variable {K : PySem.W.Frag} {x C : Addr}
end
end L2

set_option linter.all false
set_option maxRecDepth 100000
set_option maxHeartbeats 4000000
namespace L2
open PySem PySem.Spec PyProof.Rows
/-! ### dict(a list of pairs), the keys tuples -/
end L2

set_option linter.all false
set_option maxRecDepth 100000
set_option maxHeartbeats 4000000
namespace L2
open PySem PySem.Spec PyProof.Rows
end L2

set_option linter.all false
set_option maxRecDepth 100000
set_option maxHeartbeats 4000000
namespace L2
open PySem PySem.Spec PyProof.Rows
end L2

set_option linter.all false
set_option maxRecDepth 100000
set_option maxHeartbeats 4000000
namespace L2
open PySem PySem.Spec PyProof.Rows
/-! ### the keys walked -/
end L2

set_option linter.all false
set_option maxRecDepth 100000
set_option maxHeartbeats 4000000
namespace L2
open PySem PySem.Spec PyProof.Rows
end L2

set_option linter.all false
set_option maxRecDepth 100000
set_option maxHeartbeats 4000000
namespace L2
open PySem PySem.Spec PyProof.Rows
section
variable {X : Cx} {e : Expr} {te : TE} {lo hi st : Option Expr} {tl th ts : TO} {pos p2 : Pos}
def tSl3 (r : V → Option Int → Option Int → Option Int → Hp → VK → Prop) (te : TE) (tl th ts : TO) : TE := fun σ H Q => te σ H fun x H1 => tl σ H1 fun l H2 => th σ H2 fun u H3 => ts σ H3 fun g H4 => r x l u g H4 Q
end
end L2

set_option linter.all false
set_option maxRecDepth 100000
set_option maxHeartbeats 4000000
namespace L2
open PySem PySem.Spec PyProof.Rows
end L2

set_option linter.all false
set_option maxRecDepth 100000
set_option maxHeartbeats 4000000
namespace L2
open PySem PySem.Spec PyProof.Rows PySem.W
end L2

set_option linter.all false
set_option maxRecDepth 100000
set_option maxHeartbeats 4000000
namespace L2
open PySem PySem.Spec PyProof.Rows
end L2

set_option linter.all false
set_option maxRecDepth 100000
set_option maxHeartbeats 4000000
namespace L2
open PySem PySem.Spec PyProof.Rows
theorem cutV_drop (xs : List V) {k : Nat} (h : k ≤ xs.length) : cutV xs (some (k : Int)) none = xs.drop k := by
  have e1 : HT.sIx xs.length 0 (some (k : Int)) = k := by
    unfold HT.sIx
    simp only []
    split <;> omega
  have e2 : HT.sIx xs.length xs.length none = xs.length := rfl
  unfold cutV
  rw [e1, e2]
  exact List.take_of_length_le (by rw [List.length_drop]; exact Nat.le_refl _)
theorem TupsT.lstUpd {H : Hp} {r : Addr} {zs ws : List V} {vs : List V} {nss : List (List Int)} (h : TupsT H vs nss) (e : H r = some (.lst zs)) : TupsT (upd H r (.lst ws)) vs nss := h.mono fun v ns x => by
  obtain ⟨a, rfl, ha⟩ := x
  refine ⟨a, rfl, ?_⟩
  rw [upd_ne (fun z => by subst z; rw [e] at ha; cases ha)]
  exact ha
theorem same_updNew {H H' : Hp} {r : Addr} {o : HO} (s : Same H H') (h : H r = none) : Same H (L2.upd H' r o) := fun b u e => by
  rw [upd_ne (ne_of_none e h)]
  exact s b u e
theorem TupsT.drop {H : Hp} : ∀ {vs : List V} {nss : List (List Int)} (k : Nat), TupsT H vs nss → TupsT H (vs.drop k) (nss.drop k)
  | _, _, 0, h => h
  | _, _, _ + 1, .nil => .nil
  | _, _, k + 1, .cons _ t => TupsT.drop k t
theorem TupsT.app {H : Hp} : ∀ {vs ws : List V} {nss mss : List (List Int)}, TupsT H vs nss → TupsT H ws mss → TupsT H (vs ++ ws) (nss ++ mss)
  | _, _, _, _, .nil, g => g
  | _, _, _, _, .cons r t, g => .cons r (TupsT.app t g)
section
variable {σ : St} {H : Hp} {D : Ends} {rest : TS} {te to : TE} {l : Addr} {xs : List V} {K : PySem.W.Frag}
theorem st_app {R : V → Hp → Prop} (ho : Pu to σ H (.ref l)) (hl : H l = some (.lst xs)) (he : Gv te σ H R) (q : ∀ v H', R v H' → ∃ ys, H' l = some (.lst ys) ∧ ys.length < sizeLine ∧ rest D σ (upd H' l (.lst (ys ++ [v])))) :
    tSeq (tDrop (tBM K "list" rAppend to (tCons te tNil))) rest D σ H := st_app1 (D := { D with nx := rest D }) ho hl he q
end
end L2

set_option linter.all false
set_option maxRecDepth 100000
set_option maxHeartbeats 4000000
namespace L2
open PySem PySem.Spec PyProof.Rows
end L2

set_option linter.all false
set_option maxRecDepth 100000
set_option maxHeartbeats 4000000
namespace L2
open PySem PySem.Spec PyProof.Rows
theorem TupsT.take {H : Hp} : ∀ {vs : List V} {nss : List (List Int)} (k : Nat), TupsT H vs nss → TupsT H (vs.take k) (nss.take k)
  | _, _, 0, _ => .nil
  | _, _, _ + 1, .nil => .nil
  | _, _, k + 1, .cons r t => .cons r (TupsT.take k t)
end L2

set_option linter.all false
set_option maxRecDepth 100000
set_option maxHeartbeats 4000000
namespace L2
open PySem PySem.Spec PyProof.Rows
section
variable {X : Cx}
/-- a comprehension with two own names and one caught name -/
theorem pe_lcompC2 {x1 x2 y : Str} {tg elt iter : Expr} {g : TG} {scope : Scope} {c : Addr} {pos : Pos} {wi : TI} {te : TE} (j : Nat)
    (hc : X.calm = true) (hi : PI X tg iter wi)
    (hg : ∀ C fp s0 H0, PG (blk X [x1, x2, y] scope [(y, c)] C fp s0 H0) tg g) (he : ∀ C fp s0 H0, PE (blk X [x1, x2, y] scope [(y, c)] C fp s0 H0) elt te)
    (hclos : closureFor scope X.env = pure [(y, c)]) (hkind : scope.kind = .function) (hnames : ∀ x ∈ scope.names, x.2 = .local → scope.names.lookup x.1 = some .local) (hcell : ∀ y ∈ scope.names, y.2 ≠ .cell)
    (hcy : X.env.cells.lookup y = some c) (hNj : X.N[j]? = some y) (hk : X.env.kindOf y = some .cell) (hrel : (relabel scope X.env).names.lookup y = some .cell)
    (hall : ((relabel scope X.env).names.all fun p => (p.2 != .cell && p.2 != .free) || p.1 == y) = true)
    (hs : ∀ x, foldedSetIterable iter X.env x = pure x := by intro _; rfl) :
    PE X (.ListComp elt [⟨tg, iter, [], 0⟩] scope pos) (tComp wi (fun σ => [none, none, (σ[j]?).join]) g te) := by
  refine pe_lcomp (N' := [x1, x2, y]) (cl := [(y, c)]) hc hi hg he hclos hkind hnames hcell (fun y' c' h => ?_) (fun y' h => ?_) (fun _ _ => rfl) (fun σ i y' v e1 e2 => ?_) hs
  · obtain ⟨rfl, rfl⟩ := lookup_one h
    exact hcy
  · rw [List.all_eq_true] at hall
    have key : ∀ k, (k = .cell ∨ k = .free) → (relabel scope X.env).names.lookup y' = some k → y' = y := fun k hk e => by
      have := hall _ (lookup_mem e)
      rcases hk with rfl | rfl
      · simpa using this
      · simpa using this
    have e : y' = y := by
      rcases h with h | h
      · exact key _ (.inl rfl) h
      · exact key _ (.inr rfl) h
    subst e
    exact ⟨c, by rw [List.lookup_cons, beq_self_eq_true]⟩
  · match i, e1, e2 with
    | 0, _, e2 => cases e2
    | 1, _, e2 => cases e2
    | 2, e1, e2 =>
      have e1' : y = y' := by simpa using e1
      subst e1'
      have e2' : (σ[j]?).join = some v := by simpa using e2
      refine ⟨j, hNj, ?_, hk, hrel⟩
      cases h : σ[j]? with
      | none => rw [h] at e2'; cases e2'
      | some o => rw [h] at e2'; have : o = some v := e2'; rw [this]
    | i + 3, e1, _ => simp at e1
end
end L2

set_option linter.all false
set_option maxRecDepth 100000
set_option maxHeartbeats 4000000
namespace L2
open PySem PySem.Spec PyProof.Rows
/-- what is known of laid things stays, whatever list else is changed -/
structure Stays (R : Hp → Nat → Addr → Prop) : Prop where
  same : ∀ {H1 H2 : Hp} {i : Nat} {p : Addr}, R H1 i p → Same H1 H2 → R H2 i p
  but : ∀ {H1 H2 : Hp} {i : Nat} {p D : Addr} {ys : List V}, R H1 i p → p ≠ D → H1 D = some (.lst ys) → SameB D H1 H2 → R H2 i p
  here : ∀ {H1 : Hp} {i : Nat} {p : Addr}, R H1 i p → H1 p ≠ none
section
variable {σ : St} {H : Hp} {te tl : TE} {fr : St → St} {k : Nat} {K : PySem.W.Frag} {R : Hp → Nat → Addr → Prop}
/-- what such a list of laid things is -/
def Laid (R : Hp → Nat → Addr → Prop) (H : Hp) (n : Nat) (v : V) (H' : Hp) : Prop := Same H H' ∧ ∃ (D : Addr) (ps : List Addr), v = .ref D ∧ H D = none ∧ H' D = some (.lst (ps.map V.ref)) ∧ ps.length = n ∧ (∀ i p, ps[i]? = some p → R H' i p ∧ p ≠ D ∧ H p = none)
theorem laid_step (S : Stays R) {H2 H3 H4 : Hp} {D p : Addr} {ps : List Addr} {i : Nat} (hD : H D = none) (s2 : Same H H2) (hD2 : H2 D = some (.lst (ps.map V.ref))) (hl : ps.length = i) (hp : ∀ i p, ps[i]? = some p → R H2 i p ∧ p ≠ D ∧ H p = none) (s3 : Same H2 H3) (s4 : Same H3 H4) (np : H3 p = none) (r : R H4 i p) :
    H4 D = some (.lst (ps.map V.ref)) ∧ Same H (upd H4 D (.lst ((ps ++ [p]).map V.ref))) ∧ (∀ i q, (ps ++ [p])[i]? = some q → R (upd H4 D (.lst ((ps ++ [p]).map V.ref))) i q ∧ q ≠ D ∧ H q = none) := by
  have d3 := s3 _ _ hD2
  have d4 := s4 _ _ d3
  have pD : p ≠ D := fun e => by subst e; rw [d3] at np; cases np
  have hpn : H p = none := by
    cases e : H p with
    | none => rfl
    | some o => rw [s3 _ _ (s2 _ _ e)] at np; cases np
  refine ⟨d4, same_updNew (s2.trans (s3.trans s4)) hD, fun j q hq => ?_⟩
  by_cases hj : j < ps.length
  · rw [List.getElem?_append_left hj] at hq
    obtain ⟨r1, n1, f1⟩ := hp j q hq
    exact ⟨S.but (S.same r1 (s3.trans s4)) n1 d4 SameB.upd, n1, f1⟩
  · rw [List.getElem?_append_right (by omega)] at hq
    have e : j - ps.length = 0 := by
      rcases Nat.eq_zero_or_pos (j - ps.length) with e | e
      · exact e
      · rw [List.getElem?_eq_none (by simp; omega)] at hq; cases hq
    rw [e] at hq
    have e2 : p = q := by simpa using hq
    subst e2
    have e3 : j = i := by omega
    subst e3
    exact ⟨S.but r pD d4 SameB.upd, pD, hpn⟩
/-- over a list, each turn lays a new thing -/
theorem gv_compLG (S : Stays R) {a : Addr} {xs : List V} (hl : Pu tl σ H (.ref a)) (ha : H a = some (.lst xs)) (hz : xs.length ≤ 1000) (hk : ∀ x, KeepS (fr σ) ((fr σ).set k (some x)))
    (hs : ∀ i x H', xs[i]? = some x → Same H H' → Gv te ((fr σ).set k (some x)) H' (fun v H'' => Same H' H'' ∧ ∃ p, v = .ref p ∧ H' p = none ∧ R H'' i p)) :
    Gv (tComp (iList K tl) fr (gName k) te) σ H (Laid R H xs.length) := by
  intro Q g
  refine hl _ ⟨a, rfl, ⟨xs, SqL.of ha⟩, fun D hD => ?_⟩
  refine ⟨fun i m ys H2 => m = xs.length - i ∧ i ≤ xs.length ∧ Same H H2 ∧ ∃ ps : List Addr, ys = ps.map V.ref ∧ H2 D = some (.lst ys) ∧ ps.length = i ∧ ∀ i p, ps[i]? = some p → R H2 i p ∧ p ≠ D ∧ H p = none, ⟨_, rfl, Nat.zero_le _, Same.upd hD, [], rfl, upd_same, rfl, fun i p h => by simp at h⟩, ?_⟩
  rintro i m ys H2 ⟨rfl, hi, s2, ps, rfl, hD2, hpl, hps⟩
  by_cases hlt : i < xs.length
  · refine .inr ⟨⟨xs, xs[i], SqL.of (s2 _ _ ha), by simp [hlt]⟩, ?_, fun x H3 y => ?_⟩
    · rw [List.length_map]; exact small1000 (by omega)
    obtain ⟨e, y⟩ := y
    subst e
    have ex := y xs (SqL.of (s2 _ _ ha))
    refine ⟨hk x, hs i x _ ex s2 _ fun v H4 ⟨s4, p, e, np, r⟩ => ?_⟩
    subst e
    obtain ⟨d4, s5, h5⟩ := laid_step S hD s2 hD2 hpl hps (fun _ _ z => z) s4 np r
    exact ⟨d4, xs.length - (i + 1), by omega, rfl, hlt, by simpa using s5, ps ++ [p], by simp, upd_same, by simp [hpl], by simpa using h5⟩
  · have e : i = xs.length := by omega
    subst e
    exact .inl ⟨⟨xs, SqL.of (s2 _ _ ha), Nat.le_refl _⟩, g _ _ ⟨s2, D, ps, rfl, hD, hD2, hpl, hps⟩⟩
theorem KeepS.none3 {v w f : Option V} : KeepS [none, none, f] [v, w, f] := ⟨rfl, fun i u h => by rcases i with _ | _ | _ | i <;> simp_all⟩
end
/-! ### rows of points, laid -/
theorem stays_row (rows : List (List Pt3)) : Stays (fun H i p => ∃ r, rows[i]? = some r ∧ LP H p r) where
  same := fun ⟨r, e, h⟩ s => ⟨r, e, h.same s⟩
  but := fun {H1 H2 i p D ys} ⟨r, e, zs, h1, h2⟩ n d s => ⟨r, e, zs, s _ _ h1 n, h2.mono fun v ns x => by
    obtain ⟨a, rfl, ha⟩ := x
    exact ⟨a, rfl, s _ _ ha (fun z => by subst z; rw [d] at ha; cases ha)⟩⟩
  here := fun ⟨r, e, zs, h1, h2⟩ z => by rw [h1] at z; cases z
end L2

set_option linter.all false
set_option maxRecDepth 100000
set_option maxHeartbeats 4000000
namespace L2
open PySem PySem.Spec PyProof.Rows
section
variable {α β : Type} {F : α → β → Prop}
theorem paired_of : ∀ {as : List α} {bs : List β}, as.length = bs.length → (∀ (i : Nat) a, as[i]? = some a → ∃ b, bs[i]? = some b ∧ F a b) → Paired F as bs
  | [], [], _, _ => .nil
  | [], b :: bs, h, _ => by simp at h
  | a :: as, [], h, _ => by simp at h
  | a :: as, b :: bs, h, g => by
    obtain ⟨c, hc, r⟩ := g 0 a rfl
    have e : b = c := by simpa using hc
    subst e
    exact .cons r (paired_of (by simpa using h) fun i x hx => by
      obtain ⟨y, hy, r⟩ := g (i + 1) x (by simpa using hx)
      exact ⟨y, by simpa using hy, r⟩)
theorem paired_get : ∀ {as : List α} {bs : List β} {i : Nat} {a : α}, Paired F as bs → as[i]? = some a → ∃ b, bs[i]? = some b ∧ F a b
  | _, _, _, _, .nil, h => by simp at h
  | _, _, 0, a, .cons r t, h => by
    simp only [List.getElem?_cons_zero, Option.some.injEq] at h
    subst h
    exact ⟨_, rfl, r⟩
  | _, _, i + 1, a, .cons r t, h => by
    obtain ⟨y, hy, r⟩ := paired_get (i := i) t (by simpa using h)
    exact ⟨y, by simpa using hy, r⟩
theorem paired_get' : ∀ {as : List α} {bs : List β} {i : Nat} {b : β}, Paired F as bs → bs[i]? = some b → ∃ a, as[i]? = some a ∧ F a b
  | _, _, _, _, .nil, h => by simp at h
  | _, _, 0, a, .cons r t, h => by
    simp only [List.getElem?_cons_zero, Option.some.injEq] at h
    subst h
    exact ⟨_, rfl, r⟩
  | _, _, i + 1, a, .cons r t, h => by
    obtain ⟨y, hy, r⟩ := paired_get' (i := i) t (by simpa using h)
    exact ⟨y, by simpa using hy, r⟩
theorem paired_len : ∀ {as : List α} {bs : List β}, Paired F as bs → as.length = bs.length
  | _, _, .nil => rfl
  | _, _, .cons r t => by simp [paired_len t]
theorem paired_mono {G : α → β → Prop} : ∀ {as : List α} {bs : List β}, Paired F as bs → (∀ a b, F a b → G a b) → Paired G as bs
  | _, _, .nil, _ => .nil
  | _, _, .cons r t, f => .cons (f _ _ r) (paired_mono t f)
theorem paired_snoc {a : α} {b : β} : ∀ {as : List α} {bs : List β}, Paired F as bs → F a b → Paired F (as ++ [a]) (bs ++ [b])
  | _, _, .nil, r => .cons r .nil
  | _, _, .cons r t, h => .cons r (paired_snoc t h)
end
theorem LP.but {H1 H2 : Hp} {p D : Addr} {ys : List V} {r : List Pt3} (h : LP H1 p r) (n : p ≠ D) (d : H1 D = some (.lst ys)) (s : SameB D H1 H2) : LP H2 p r := by
  obtain ⟨zs, h1, h2⟩ := h
  refine ⟨zs, s _ _ h1 n, h2.mono fun v ns x => ?_⟩
  obtain ⟨a, rfl, ha⟩ := x
  exact ⟨a, rfl, s _ _ ha (fun z => by subst z; rw [d] at ha; cases ha)⟩
theorem same_none {H H' : Hp} {p : Addr} (s : Same H H') (h : H' p = none) : H p = none := by
  cases e : H p with
  | none => rfl
  | some o => rw [s _ _ e] at h; cases h
end L2

set_option linter.all false
set_option maxRecDepth 100000
set_option maxHeartbeats 4000000
namespace L2
open PySem PySem.Spec PyProof.Rows
section
variable {X : Cx}
/-- a comprehension's reading, whatever is done with its list at the end (a name may take it before the block is left) -/
def CompR (X : Cx) (e : Expr) (scope : Scope) (iter : Expr) (t : TE) : Prop := ∀ (pins : List (Addr × Obj)) (s : Shared) (σ : St) (H : Hp) (Q : VK) (use : Option (Value → Sem Unit)) (Q' : Value → Shared → Prop) (fpos : Pos), Inv X pins σ H s → t σ H Q →
  (∀ D C m s5 H4 r, s5.heap.Ns C m → FpOk X pins H4 C → Inv X pins σ H4 s5 → Q (.ref D) H4 → compPost (model X.prog X.w) X.A X.xe use Q' (.ref D) C (.ok r) s5) →
  wpAny (model X.prog X.w) X.A (comprehension e scope X.env fpos (newList []) false (eval iter X.env) use) Q' X.xe s
theorem cr_lcomp {tg elt iter : Expr} {scope : Scope} {cl : List (Str × Addr)} {pos : Pos} {N' : List Str} {wi : TI} {fr : St → St} {g : TG} {te : TE}
    (hc : X.calm = true) (hi : PI X tg iter wi)
    (hg : ∀ C fp s0 H0, PG (blk X N' scope cl C fp s0 H0) tg g) (he : ∀ C fp s0 H0, PE (blk X N' scope cl C fp s0 H0) elt te)
    (hclos : closureFor scope X.env = pure cl) (hkind : scope.kind = .function) (hnames : ∀ x ∈ scope.names, x.2 = .local → scope.names.lookup x.1 = some .local) (hcell : ∀ y ∈ scope.names, y.2 ≠ .cell)
    (hcl : ∀ y c, cl.lookup y = some c → X.env.cells.lookup y = some c) (hhas : ∀ y, ((relabel scope X.env).names.lookup y = some .cell ∨ (relabel scope X.env).names.lookup y = some .free) → ∃ c, cl.lookup y = some c)
    (hfl : ∀ σ : St, σ.length = X.N.length → (fr σ).length = N'.length)
    (hfr : ∀ (σ : St) (i : Nat) (y : Str) (v : V), N'[i]? = some y → (fr σ)[i]? = some (some v) → ∃ j : Nat, X.N[j]? = some y ∧ σ[j]? = some (some v) ∧ X.env.kindOf y = some .cell ∧ (relabel scope X.env).names.lookup y = some .cell)
    (hs : ∀ x, foldedSetIterable iter X.env x = pure x := by intro _; rfl) :
    CompR X (.ListComp elt [⟨tg, iter, [], 0⟩] scope pos) scope iter (tComp wi fr g te) := by
  intro pins s σ H Q use Q' fpos I h fin
  refine wpAny_comprehension_free (use := use) rfl hs hclos hkind hnames ?_
  refine thn (hi pins s σ H _ I h) fun v s1 h1 => thn h1 fun itv s2 h2 => ?_
  obtain ⟨it, fp, tn, J, H2, rfl, I2, T, st2, f2, q2⟩ := h2
  have D0 : H2 s2.heap.objs.size = none := I2.hok.fresh (Nat.le_refl _)
  obtain ⟨W, ⟨m0, w0⟩, turn⟩ := q2 _ D0
  refine wpAny_newObj_type (wpAny_newFunctionEnv hcell (by intro y hy; simp at hy) (fun h₁ hns₁ hsb₁ => ?_) hkind)
  dsimp only at hns₁ hsb₁ ⊢
  have I3 : Inv X pins σ (upd H2 s2.heap.objs.size (.lst [])) { s2 with heap := s2.heap.push { cls := .type "list", dict := none, data := .seq ([] : List Value).toArray } } :=
    I2.laid (t' := s2.toks) (fun b u e => Heap.get?_push_of_some _ e) (Nat.le_refl _) ⟨Nat.zero_le _, [], _, .nil, Heap.get?_push_size _ rfl⟩
  generalize hH3 : upd H2 s2.heap.objs.size (.lst []) = H3 at I3 w0
  generalize hs3 : ({ s2 with heap := s2.heap.push { cls := .type "list", dict := none, data := .seq ([] : List Value).toArray } } : Shared) = s3 at I3
  have eh : s3.heap = s2.heap.push { cls := .type "list", dict := none, data := .seq ([] : List Value).toArray } := by rw [← hs3]
  have fl : ∀ b ∈ fp, b < s2.heap.objs.size := fun b hb => by
    obtain ⟨o, e, _⟩ := T.obj 0 _ st2 b hb
    exact Heap.lt_size e
  have fn : ∀ b ∈ fp, H3 b = none := fun b hb => by
    rw [← hH3, upd_ne (Nat.ne_of_lt (fl b hb))]; exact (f2 b hb).1
  have f3 : ∀ b ∈ fp, FpOk X pins H3 b := fun b hb => ⟨fn b hb, (f2 b hb).2⟩
  have old : ∀ b u, s3.heap.get? b = some u → h₁.get? b = some u := fun b u e => by
    refine hsb₁.extBut b u ?_ (Heap.get?_push_of_some _ (by rw [← eh]; exact e))
    have := Heap.lt_size e
    rw [eh] at this
    exact Nat.ne_of_lt this
  have up : ∀ b u, s2.heap.get? b = some u → s3.heap.get? b = some u := fun b u e => by rw [eh]; exact Heap.get?_push_of_some _ e
  have ok := blk_ok (N' := N') (scope := scope) (cl := cl) (fp := fp) I3 hkind hcl hhas f3 fun b hb => by rw [eh, Heap.size_push]; exact Nat.lt_succ_of_lt (fl b hb)
  rw [← eh] at hns₁ ⊢
  have IB : Inv (blk X N' scope cl s3.heap.objs.size fp s3 H3) [] (fr σ) H3 { s3 with heap := h₁, toks := s2.toks + ([] : List (Str × Value)).length } := by
    refine ⟨ok, rfl, I3.bare, Un.kept old, ⟨_, hns₁, fun i y v e1 e2 e3 => ?_⟩, fun x c e => ?_, I3.hok.fresh (Nat.le_refl _), fun x c e => I3.freeC x c (hcl x c e), fun p hp => by simp [blk] at hp, I3.hok.kept old, hfl σ I3.len⟩
    · obtain ⟨j, n1, n2, n3, n4⟩ := hfr σ i y v e1 e2
      obtain ⟨m, _, hl⟩ := I3.loc
      obtain ⟨u, r, l⟩ := hl j y v n1 n2 (.inr (.inl n3))
      refine ⟨u, r, .inr ⟨.inl n4, ?_⟩⟩
      rcases l with ⟨k, _⟩ | ⟨_, c, e, ic⟩
      · rw [n3] at k; cases k
      · obtain ⟨c', e'⟩ := hhas y (.inl n4)
        have e'' := hcl y c' e'
        rw [e] at e''; cases e''
        obtain ⟨o, ho, hd⟩ := ic
        exact ⟨c, e', o, old c o ho, hd⟩
    · obtain ⟨v, o, ho, hd⟩ := I3.cell x c (hcl x c e)
      exact ⟨v, o, old c o ho, hd⟩
  have stB : tn 0 h₁ := T.keep _ _ _ st2 fun b hb o e => old b o (up b o e)
  have D2 : s2.heap.objs.size < s3.heap.objs.size := by rw [eh, Heap.size_push]; exact Nat.lt_succ_self _
  have stat : ∀ {H' : Hp}, (∀ b ∈ fp, H' b = none) → ∀ b ∈ fp, FpOk (blk X N' scope cl s3.heap.objs.size fp s3 H3) [] H' b := fun hn b hb =>
    ⟨hn b hb, Nat.ne_of_lt (Nat.lt_trans (fl b hb) D2), ok.exfs b hb, .inl hb, fun x c e => (ok.exf b hb).2 x c e, fun p hp => by simp [blk] at hp⟩
  have loop : codeAny (model X.prog X.w) X.A (.compLoop (.ListComp elt [⟨tg, iter, [], 0⟩] scope pos) 0 (.ref it) (.ref s2.heap.objs.size) (compEnvC scope cl s3.heap.objs.size X.env))
      (compPost (model X.prog X.w) X.A X.xe use Q' (.ref s2.heap.objs.size) s3.heap.objs.size) { s3 with heap := h₁, toks := s2.toks + ([] : List (Str × Value)).length } := by
    refine codeAny_loop rfl (fun n s' => ∃ i ys H', Inv (blk X N' scope cl s3.heap.objs.size fp s3 H3) [] (fr σ) H' s' ∧ tn i s'.heap ∧ (∀ b ∈ fp, H' b = none) ∧ W i n ys H') ?_ m0 ⟨0, [], H3, IB, stB, fn, w0⟩
    rintro n s4 ⟨i, ys, H4, I4, st4, fr4, w4⟩
    show wpAny _ _ ((compTurn (.ListComp elt [⟨tg, iter, [], 0⟩] scope pos) 0 (.ref it) (.ref s2.heap.objs.size) (compEnvC scope cl s3.heap.objs.size X.env)).onRaise (fun x => do noteFrame x (compEnvC scope cl s3.heap.objs.size X.env); theTreesLotGoes x)) _ _ s4
    refine wpAny_noted ?_
    rw [compTurn_list1]
    refine wpAny_bind (wpAny_standAt (wpAny_bind ?_))
    rcases turn i n ys H4 w4 with ⟨stop, qn⟩ | ⟨go, hz, step⟩
    · refine thn (T.done (blk X N' scope cl s3.heap.objs.size fp s3 H3) rfl rfl rfl hc i [] s4 (fr σ) H4 _ I4 (stat fr4) st4 stop) fun r s5 ⟨hr, I5⟩ => ?_
      subst hr
      refine wpAny_pure ?_
      obtain ⟨m, hn, _⟩ := I5.loc
      have hlt : ∀ b u, s3.heap.get? b = some u → b ≠ s3.heap.objs.size := fun b u e => Nat.ne_of_lt (Heap.lt_size e)
      have B := I5.base
      refine fin _ _ m s5 H4 _ hn (I3.fpOk (Nat.le_refl _) I5.free) ?_ qn
      refine I3.call' (s' := s5) (ch := fp) I5.os ⟨fun b o e n1 n2 n3 => B.keep b o e n1 n2 n3, fun b o e n1 n2 n3 => B.slot b o e n1 n2 n3, B.free, fun b o e n1 => B.there b o e n1, B.tups, B.frzs, B.tbls⟩ (fun a o e => I5.hok a o e) I5.bare (fun b hb' => ?_)
      exact ⟨(f2 b hb').2.2.2.1, (f2 b hb').2.1, (f2 b hb').2.2.2.2.1, (f2 b hb').2.2.2.2.2⟩
    · refine thn (T.item (blk X N' scope cl s3.heap.objs.size fp s3 H3) rfl rfl rfl hc i [] s4 (fr σ) H4 _ I4 (stat fr4) st4 go) fun r s5 ⟨u, hr, h5⟩ => ?_
      subst hr
      refine wpAny_bind (thn h5 fun _ s6 ⟨x, H6, I6, r6, y6, st6, fr6⟩ => ?_)
      have I6' := I6.pinned (stat fr6) (T.obj _ _ st6)
      refine wpAny_bind (wpAny_mono (hg s3.heap.objs.size fp s3 H3 _ s6 (fr σ) H6 x u _ I6' r6 (step x H6 y6)) (fun _ s7 ⟨σ7, H7, I7, kp, q7⟩ => ?_) fun _ _ z => z.elim)
      refine wpAny_bind (wpAny_bind (wpAny_mono (he s3.heap.objs.size fp s3 H3 _ s7 σ7 H7 _ I7 q7) (fun v8 s8 ⟨y8, H8, I8, r8, hD, m', hm, w8⟩ => ?_) fun _ _ z => z.elim))
      have ap := mt_append (X := blk X N' scope cl s3.heap.objs.size fp s3 H3) _ s8 σ7 H8 (.ref s2.heap.objs.size) [y8] (.ref s2.heap.objs.size) [v8] (fun _ H9 => W (i + 1) m' (ys ++ [y8]) H9) I8 rfl (.cons r8 .nil) ⟨_, ys, y8, rfl, rfl, hD, hz, w8⟩
      refine wpAny_bind (wpAny_mono ap (fun _ s9 ⟨_, H9, I9, _, w9⟩ => wpAny_pure (wpAny_pure ⟨rfl, m', hm, i + 1, ys ++ [y8], H9, ?_, ?_, ?_, w9⟩)) fun _ _ z => z.elim)
      · exact I9.unpinned.weak (by rw [kp.1]) kp.2
      · exact T.keep _ _ _ st6 fun b hb o e => (I9.pin (b, o) (List.mem_append_right _ (List.mem_append_right _ (mem_pinsAt hb e)))).1
      · intro b hb
        obtain ⟨o, e, d⟩ := T.obj _ _ st6 b hb
        exact (I9.pin (b, o) (List.mem_append_right _ (List.mem_append_right _ (mem_pinsAt hb e)))).2.1
  subst hs3
  exact codeAny_compStart_list loop (T.self X.A 0 _ _ _ stB loop)
/-- a name takes a comprehension's list -/
theorem ps_setC {i : Nat} {y : Str} {py spos : Pos} {elt iter tg : Expr} {scope : Scope} {pos : Pos} {t : TE} (hN : X.N.Nodup) (hi : X.N[i]? = some y) (hx : X.env.scope.names.lookup y = some .local) (h : CompR X (.ListComp elt [⟨tg, iter, [], 0⟩] scope pos) scope iter t)
    (hsw : swapsWith (.ListComp elt [⟨tg, iter, [], 0⟩] scope pos) (some (.Name y py)) spos.line X.env = pure true := by rfl) : PS X (.Assign [.Name y py] (.ListComp elt [⟨tg, iter, [], 0⟩] scope pos) spos) (tAsg t (gName i)) := by
  intro pins s σ H D I hw
  rw [exec_Assign_Name_used _ _ _ _ hsw]
  refine wpAny_bind (wpAny_standAt (wpAny_bind ?_))
  show wpAny _ _ (do let _ ← comprehension (.ListComp elt [⟨tg, iter, [], 0⟩] scope pos) scope X.env _ (newList []) false (eval iter X.env) (some (assign (.Name y py) X.env))) _ _ _
  refine wpAny_bind (wpAny_mono (h pins { s with } σ H _ (some (assign (.Name y py) X.env)) (fun _ s' => SP X pins D .next s') _ I hw fun D' C m s5 H4 r hn f I5 q => ?_) (fun _ s' hq => wpAny_pure (wpAny_pure hq)) fun _ _ e => e)
  refine wpAny_assign_Name (store_ok2 I5 hN hi (Or.inl hx) (v := .ref D') rfl (fun s6 I6 ⟨a, sb, ha⟩ => ?_) (.inr hx))
  have na : C ≠ a := by
    rcases ha with e | e
    · rw [e]; exact f.2.1
    · exact Ne.symm (f.2.2.2.2.1 y a e)
  refine ⟨m, hn.sameBut sb na, fun h' sb' => ⟨_, H4, ?_, q⟩⟩
  exact I6.turned (t' := s6.toks) (fun b o hb e => sb'.extBut b o hb e) f.1 f.2.1 f.2.2.2.1 f.2.2.2.2.1 f.2.2.2.2.2
theorem cr_lcompC {x y : Str} {px : Pos} {elt iter : Expr} {scope : Scope} {c : Addr} {pos : Pos} {wi : TI} {te : TE} (j : Nat)
    (hc : X.calm = true) (hi : PI X (.Name x px) iter wi)
    (hg : ∀ C fp s0 H0, PG (blk X [x, y] scope [(y, c)] C fp s0 H0) (.Name x px) (gName 0)) (he : ∀ C fp s0 H0, PE (blk X [x, y] scope [(y, c)] C fp s0 H0) elt te)
    (hclos : closureFor scope X.env = pure [(y, c)]) (hkind : scope.kind = .function) (hnames : ∀ x ∈ scope.names, x.2 = .local → scope.names.lookup x.1 = some .local) (hcell : ∀ y ∈ scope.names, y.2 ≠ .cell)
    (hcy : X.env.cells.lookup y = some c) (hNj : X.N[j]? = some y) (hk : X.env.kindOf y = some .cell) (hrel : (relabel scope X.env).names.lookup y = some .cell)
    (hall : ((relabel scope X.env).names.all fun p => (p.2 != .cell && p.2 != .free) || p.1 == y) = true)
    (hs : ∀ x, foldedSetIterable iter X.env x = pure x := by intro _; rfl) :
    CompR X (.ListComp elt [⟨.Name x px, iter, [], 0⟩] scope pos) scope iter (tComp wi (fun σ => [none, (σ[j]?).join]) (gName 0) te) := by
  refine cr_lcomp (N' := [x, y]) (cl := [(y, c)]) hc hi hg he hclos hkind hnames hcell (fun y' c' h => ?_) (fun y' h => ?_) (fun _ _ => rfl) (fun σ i y' v e1 e2 => ?_) hs
  · obtain ⟨rfl, rfl⟩ := lookup_one h
    exact hcy
  · rw [List.all_eq_true] at hall
    have key : ∀ k, (k = .cell ∨ k = .free) → (relabel scope X.env).names.lookup y' = some k → y' = y := fun k hk e => by
      have := hall _ (lookup_mem e)
      rcases hk with rfl | rfl
      · simpa using this
      · simpa using this
    have e : y' = y := by
      rcases h with h | h
      · exact key _ (.inl rfl) h
      · exact key _ (.inr rfl) h
    subst e
    exact ⟨c, by rw [List.lookup_cons, beq_self_eq_true]⟩
  · match i, e1, e2 with
    | 0, _, e2 => cases e2
    | 1, e1, e2 =>
      have e1' : y = y' := by simpa using e1
      subst e1'
      have e2' : (σ[j]?).join = some v := by simpa using e2
      refine ⟨j, hNj, ?_, hk, hrel⟩
      cases h : σ[j]? with
      | none => rw [h] at e2'; cases e2'
      | some o => rw [h] at e2'; have : o = some v := e2'; rw [this]
    | i + 2, e1, _ => simp at e1
end
end L2

set_option linter.all false
set_option maxRecDepth 100000
set_option maxHeartbeats 4000000
namespace L2
open PySem PySem.Spec PyProof.Rows
def unL3 (l : List Int) : Pt3 := ⟨l.getD 0 0, l.getD 1 0, l.getD 2 0⟩
theorem unL3_L3 (p : Pt3) : unL3 (L3 p) = p := rfl
theorem gv_cb1 {σ : St} {H : Hp} {r : List V → Hp → VK → Prop} {te : TE} {R R' : V → Hp → Prop} (h : Gv te σ H R) (f : ∀ v H', R v H' → ∀ Q : VK, (∀ w H'', R' w H'' → Q w H'') → r [v] H' Q) : Gv (tCB r (tCons te tNil)) σ H R' := fun Q q => h _ fun v H' rv => f v H' rv Q q
end L2

set_option linter.all false
set_option maxRecDepth 100000
set_option maxHeartbeats 4000000
namespace L2
open PySem PySem.Spec PyProof.Rows
theorem gv_tupG {σ : St} {H : Hp} {t : TA} {RA : List V → Hp → Prop} (h : GvA t σ H RA) (hz : ∀ vs H1, RA vs H1 → vs.length ≤ sizeLine) : Gv (tTup t) σ H (fun v H' => ∃ vs H1 p, RA vs H1 ∧ H1 p = none ∧ v = .ref p ∧ H' = upd H1 p (.tup vs)) := fun Q q => h _ fun vs H1 r => ⟨hz vs H1 r, fun p hp => q _ _ ⟨vs, H1, p, r, hp, rfl, rfl⟩⟩
theorem Same.rfl' {H : Hp} : Same H H := fun _ _ e => e
end L2

set_option linter.all false
set_option maxRecDepth 100000
set_option maxHeartbeats 4000000
namespace L2
open PySem PySem.Spec PyProof.Rows
/-! ### {} -/
/-! ### try: f(..) except C as n: .., with return -/
/-! ### isinstance of an exception with a tuple of classes -/
end L2

set_option linter.all false
set_option maxRecDepth 100000
set_option maxHeartbeats 4000000
namespace L2
open PySem PySem.Spec PyProof.Rows
section
variable {es : List Expr} {env : Env}
theorem star_tup {a b c} : starEach (.Tuple a b c :: es) env = (false, eval (.Tuple a b c) env) :: starEach es env := rfl
theorem star_lst {a b} : starEach (.List a b :: es) env = (false, eval (.List a b) env) :: starEach es env := rfl
theorem star_con {a b c} : starEach (.Constant a b c :: es) env = (false, eval (.Constant a b c) env) :: starEach es env := rfl
theorem star_un {a b c} : starEach (.UnaryOp a b c :: es) env = (false, eval (.UnaryOp a b c) env) :: starEach es env := rfl
theorem star_bin {a b c d} : starEach (.BinOp a b c d :: es) env = (false, eval (.BinOp a b c d) env) :: starEach es env := rfl
theorem star_name {a b} : starEach (.Name a b :: es) env = (false, eval (.Name a b) env) :: starEach es env := rfl
theorem star_call {a b c d} : starEach (.Call a b c d :: es) env = (false, eval (.Call a b c d) env) :: starEach es env := rfl
theorem star_sub {a b c} : starEach (.Subscript a b c :: es) env = (false, eval (.Subscript a b c) env) :: starEach es env := rfl
theorem star_cmp {a b c d} : starEach (.Compare a b c d :: es) env = (false, eval (.Compare a b c d) env) :: starEach es env := rfl
theorem star_lc {a b c d} : starEach (.ListComp a b c d :: es) env = (false, eval (.ListComp a b c d) env) :: starEach es env := rfl
end
theorem len2 : 2 ≤ sizeLine := by decide
theorem len3 : 3 ≤ sizeLine := by decide
end L2

set_option linter.all false
set_option maxHeartbeats 4000000
namespace L2
/-! ### rounds -/
/-- the sign of a product, by cases -/
theorem psgn (x y : Int) : (0 < x ∧ 0 < y ∧ 0 < x * y) ∨ (x < 0 ∧ y < 0 ∧ 0 < x * y) ∨ (0 < x ∧ y < 0 ∧ x * y < 0) ∨ (x < 0 ∧ 0 < y ∧ x * y < 0) ∨ (x = 0 ∧ x * y = 0) ∨ (y = 0 ∧ x * y = 0) := by
  rcases Int.lt_trichotomy x 0 with h | h | h
  · rcases Int.lt_trichotomy y 0 with g | g | g
    · exact .inr (.inl ⟨h, g, Int.mul_pos_of_neg_of_neg h g⟩)
    · exact .inr (.inr (.inr (.inr (.inr ⟨g, by rw [g, Int.mul_zero]⟩))))
    · exact .inr (.inr (.inr (.inl ⟨h, g, Int.mul_neg_of_neg_of_pos h g⟩)))
  · exact .inr (.inr (.inr (.inr (.inl ⟨h, by rw [h, Int.zero_mul]⟩))))
  · rcases Int.lt_trichotomy y 0 with g | g | g
    · exact .inr (.inr (.inl ⟨h, g, Int.mul_neg_of_pos_of_neg h g⟩))
    · exact .inr (.inr (.inr (.inr (.inr ⟨g, by rw [g, Int.mul_zero]⟩))))
    · exact .inl ⟨h, g, Int.mul_pos h g⟩
/-- a step over the ray straight down, by the numbers -/
def und (a1 b1 d : Int) : Int := if a1 ≤ 0 ∧ 0 < b1 then (if 0 < d then 1 else 0) else if b1 ≤ 0 ∧ 0 < a1 then (if d < 0 then -1 else 0) else 0
/-- the ground between the rays down and left -/
def q3 (a1 a2 : Int) : Int := if a1 ≤ 0 ∧ a2 < 0 then 1 else 0
theorem und_turn {a1 a2 b1 b2 : Int} (h1 : a1 ≤ 0 → 0 < b1 → a1 * b2 - a2 * b1 ≠ 0) (h2 : b1 ≤ 0 → 0 < a1 → a1 * b2 - a2 * b1 ≠ 0) (h3 : 0 ≤ a2 → b2 < 0 → a1 * b2 - a2 * b1 ≠ 0) (h4 : 0 ≤ b2 → a2 < 0 → a1 * b2 - a2 * b1 ≠ 0) :
    und a1 b1 (a1 * b2 - a2 * b1) - und (-a2) (-b2) (a1 * b2 - a2 * b1) = q3 a1 a2 - q3 b1 b2 := by
  have p1 := psgn a1 b2
  have p2 := psgn a2 b1
  revert h1 h2 h3 h4 p1 p2
  generalize a1 * b2 = m
  generalize a2 * b1 = n
  intro h1 h2 h3 h4 p1 p2
  unfold und q3
  by_cases c1 : a1 ≤ 0 <;> by_cases c2 : a2 < 0 <;> by_cases c3 : b1 ≤ 0 <;> by_cases c4 : b2 < 0 <;> simp only [c1, c2, c3, c4, true_and, false_and, and_true, and_false, if_true, if_false] <;>
    (repeat' split) <;> omega

theorem und_scale {a b d k : Int} (hk : 0 < k) : und a b (k * d) = und a b d := by
  have p := psgn k d
  unfold und
  revert p
  generalize k * d = m
  intro p
  (repeat' split) <;> omega
def undr (u v p : Pt3) : Int := und (u.x * p.z - p.x * u.z) (v.x * p.z - p.x * v.z) (det u v p)
def qtr (p : Pt3) : Pt3 := ⟨-p.y, p.x, p.z⟩
theorem det_qtr (u v p : Pt3) : det (qtr u) (qtr v) (qtr p) = det u v p := by unfold det qtr; grind
theorem det_rel (u v p : Pt3) : (u.x * p.z - p.x * u.z) * (v.y * p.z - p.y * v.z) - (u.y * p.z - p.y * u.z) * (v.x * p.z - p.x * v.z) = p.z * det u v p := by unfold det; grind
theorem undr_rev (u v p : Pt3) : undr v u p = -undr u v p := by
  have e : det v u p = -det u v p := by unfold det; grind
  unfold undr und
  rw [e]
  (repeat' split) <;> omega
/-- on the line and between in x and in y: on the side -/
theorem on_of {u v p : Pt3} (hu : 0 < u.z) (hv : 0 < v.z) (hp : 0 < p.z) (hd : det u v p = 0)
    (hx : (u.x * p.z - p.x * u.z ≤ 0 ∧ 0 ≤ v.x * p.z - p.x * v.z) ∨ (v.x * p.z - p.x * v.z ≤ 0 ∧ 0 ≤ u.x * p.z - p.x * u.z))
    (hy : (u.y * p.z - p.y * u.z ≤ 0 ∧ 0 ≤ v.y * p.z - p.y * v.z) ∨ (v.y * p.z - p.y * v.z ≤ 0 ∧ 0 ≤ u.y * p.z - p.y * u.z)) : onB p u v = true := by
  have r := det_rel u v p
  rw [hd, Int.mul_zero] at r
  have e1 : ahd u v = lex (v.x * u.z - u.x * v.z) (v.y * u.z - u.y * v.z) := ahd_lex u v
  have e2 : ahd p u = lex (u.x * p.z - p.x * u.z) (u.y * p.z - p.y * u.z) := ahd_lex p u
  have e3 : ahd v p = lex (p.x * v.z - v.x * p.z) (p.y * v.z - v.y * p.z) := ahd_lex v p
  have e4 : ahd p v = lex (v.x * p.z - p.x * v.z) (v.y * p.z - p.y * v.z) := ahd_lex p v
  have e5 : ahd u p = lex (p.x * u.z - u.x * p.z) (p.y * u.z - u.y * p.z) := ahd_lex u p
  have f1 : p.z * (v.x * u.z - u.x * v.z) = u.z * (v.x * p.z - p.x * v.z) - v.z * (u.x * p.z - p.x * u.z) := by grind
  have f2 : p.z * (v.y * u.z - u.y * v.z) = u.z * (v.y * p.z - p.y * v.z) - v.z * (u.y * p.z - p.y * u.z) := by grind
  unfold onB
  rw [if_pos hd, e1, e2, e3, e4, e5]
  rw [show p.x * v.z - v.x * p.z = -(v.x * p.z - p.x * v.z) by omega, show p.y * v.z - v.y * p.z = -(v.y * p.z - p.y * v.z) by omega, show p.x * u.z - u.x * p.z = -(u.x * p.z - p.x * u.z) by omega, show p.y * u.z - u.y * p.z = -(u.y * p.z - p.y * u.z) by omega]
  revert hx hy r f1 f2
  generalize u.x * p.z - p.x * u.z = a1
  generalize u.y * p.z - p.y * u.z = a2
  generalize v.x * p.z - p.x * v.z = b1
  generalize v.y * p.z - p.y * v.z = b2
  generalize v.x * u.z - u.x * v.z = w1
  generalize v.y * u.z - u.y * v.z = w2
  intro hx hy r f1 f2
  have s1 := psgn a1 b2
  have s2 := psgn a2 b1
  have s3 := psgn p.z w1
  have s4 := psgn p.z w2
  have s5 := psgn u.z b1
  have s6 := psgn u.z b2
  have s7 := psgn v.z a1
  have s8 := psgn v.z a2
  revert r f1 f2 s1 s2 s3 s4 s5 s6 s7 s8
  generalize a1 * b2 = m1
  generalize a2 * b1 = m2
  generalize p.z * w1 = m3
  generalize p.z * w2 = m4
  generalize u.z * b1 = m5
  generalize u.z * b2 = m6
  generalize v.z * a1 = m7
  generalize v.z * a2 = m8
  intro r f1 f2 s1 s2 s3 s4 s5 s6 s7 s8
  have lt : ∀ x y : Int, lex x y = true ↔ (0 < x ∨ (x = 0 ∧ 0 < y)) := fun x y => by
    unfold lex
    by_cases h : x = 0
    · rw [if_pos h]; simp [h]
    · rw [if_neg h]; simp [h]
  by_cases c : lex w1 w2 = true
  · rw [if_pos c]
    rw [lt] at c
    have n1 : lex a1 a2 = false := by
      rw [Bool.eq_false_iff, ne_eq, lt]
      omega
    have n2 : lex (-b1) (-b2) = false := by
      rw [Bool.eq_false_iff, ne_eq, lt]
      omega
    rw [n1, n2]; rfl
  · rw [if_neg c]
    rw [lt] at c
    have n1 : lex b1 b2 = false := by
      rw [Bool.eq_false_iff, ne_eq, lt]
      omega
    have n2 : lex (-a1) (-a2) = false := by
      rw [Bool.eq_false_iff, ne_eq, lt]
      omega
    rw [n1, n2]; rfl
/-- where p is on no side, the rounds by the ray to the left differ by the ends alone -/
theorem undr_qtr {u v p : Pt3} (hu : 0 < u.z) (hv : 0 < v.z) (hp : 0 < p.z) (hn : onB p u v = false) :
    undr u v p - undr (qtr u) (qtr v) (qtr p) = q3 (u.x * p.z - p.x * u.z) (u.y * p.z - p.y * u.z) - q3 (v.x * p.z - p.x * v.z) (v.y * p.z - p.y * v.z) := by
  have r := det_rel u v p
  have o := fun h => on_of hu hv hp h (u := u) (v := v) (p := p)
  have ne : ∀ {d : Int}, d = p.z * det u v p → d = 0 → det u v p = 0 := fun {d} e z => by
    rw [z] at e
    rcases Int.mul_eq_zero.mp e.symm with h | h
    · omega
    · exact h
  have e1 : undr u v p = und (u.x * p.z - p.x * u.z) (v.x * p.z - p.x * v.z) ((u.x * p.z - p.x * u.z) * (v.y * p.z - p.y * v.z) - (u.y * p.z - p.y * u.z) * (v.x * p.z - p.x * v.z)) := by
    rw [r, und_scale hp]; rfl
  have e2 : undr (qtr u) (qtr v) (qtr p) = und (-(u.y * p.z - p.y * u.z)) (-(v.y * p.z - p.y * v.z)) ((u.x * p.z - p.x * u.z) * (v.y * p.z - p.y * v.z) - (u.y * p.z - p.y * u.z) * (v.x * p.z - p.x * v.z)) := by
    rw [r, und_scale hp]
    unfold undr
    rw [det_qtr]
    congr 1
    · show -u.y * p.z - -p.y * u.z = _
      rw [Int.neg_mul, Int.neg_mul]; omega
    · show -v.y * p.z - -p.y * v.z = _
      rw [Int.neg_mul, Int.neg_mul]; omega
  rw [e1, e2]
  have n := fun z => ne (d := (u.x * p.z - p.x * u.z) * (v.y * p.z - p.y * v.z) - (u.y * p.z - p.y * u.z) * (v.x * p.z - p.x * v.z)) r z
  have k1 := psgn (u.x * p.z - p.x * u.z) (v.y * p.z - p.y * v.z)
  have k2 := psgn (u.y * p.z - p.y * u.z) (v.x * p.z - p.x * v.z)
  have bad : ∀ {A B : Prop}, (det u v p = 0) → A ∧ B → (A → (u.x * p.z - p.x * u.z ≤ 0 ∧ 0 ≤ v.x * p.z - p.x * v.z) ∨ (v.x * p.z - p.x * v.z ≤ 0 ∧ 0 ≤ u.x * p.z - p.x * u.z)) → (B → (u.y * p.z - p.y * u.z ≤ 0 ∧ 0 ≤ v.y * p.z - p.y * v.z) ∨ (v.y * p.z - p.y * v.z ≤ 0 ∧ 0 ≤ u.y * p.z - p.y * u.z)) → False := fun hd ⟨a, b⟩ f g => by
    rw [o hd (f a) (g b)] at hn
    cases hn
  refine und_turn (fun h1 h2 z => ?_) (fun h1 h2 z => ?_) (fun h1 h2 z => ?_) (fun h1 h2 z => ?_) <;>
  · have zz := n z
    revert z k1 k2
    generalize (u.x * p.z - p.x * u.z) * (v.y * p.z - p.y * v.z) = m1
    generalize (u.y * p.z - p.y * u.z) * (v.x * p.z - p.x * v.z) = m2
    intro k1 k2 z
    exact bad (A := True) (B := True) zz ⟨trivial, trivial⟩ (fun _ => by omega) (fun _ => by omega)
/-! ### sums round a ring -/
def chn (F : Pt3 → Pt3 → Int) : List Pt3 → Int
  | a :: b :: l => F a b + chn F (b :: l)
  | _ => 0
def cycS (F : Pt3 → Pt3 → Int) : List Pt3 → Int
  | [] => 0
  | a :: l => chn F (a :: l) + F ((a :: l).getLastD a) a
theorem chn_app (F : Pt3 → Pt3 → Int) : ∀ (l : List Pt3) (d x : Pt3), l ≠ [] → chn F (l ++ [x]) = chn F l + F (l.getLastD d) x
  | [], _, _, h => (h rfl).elim
  | [a], d, x, _ => by simp [chn, List.getLastD]
  | a :: b :: l, d, x, _ => by
    have := chn_app F (b :: l) d x (by simp)
    simp only [List.cons_append, chn] at this ⊢
    rw [this]
    simp only [List.getLastD_cons]
    omega
theorem chn_rev (F : Pt3 → Pt3 → Int) : ∀ (l : List Pt3), chn F l.reverse = chn (fun u v => F v u) l
  | [] => rfl
  | [a] => rfl
  | a :: b :: l => by
    have ih := chn_rev F (b :: l)
    rw [List.reverse_cons, chn_app F _ a a (by simp), ih]
    simp only [chn]
    have : (b :: l).reverse.getLastD a = b := by simp
    rw [this]
    omega
theorem cyc_rev (F : Pt3 → Pt3 → Int) : ∀ (l : List Pt3), cycS F l.reverse = cycS (fun u v => F v u) l
  | [] => rfl
  | a :: l => by
    have h := chn_rev F (a :: l)
    cases hr : (a :: l).reverse with
    | nil => simp at hr
    | cons c r =>
      show chn F (c :: r) + F ((c :: r).getLastD c) c = chn (fun u v => F v u) (a :: l) + F a ((a :: l).getLastD a)
      rw [← hr, h]
      have e1 : (a :: l).reverse.getLastD c = a := by simp
      have e2 : (a :: l).getLastD a = c := by
        have : (a :: l) = (c :: r).reverse := by rw [← hr]; simp
        rw [this]; simp
      rw [e1, e2]
/-- the sides of a ring -/
def cyc (l : List Pt3) : List (Pt3 × Pt3) := l.zip (l.drop 1 ++ l.take 1)
theorem cyc_cons (a : Pt3) (l : List Pt3) : cyc (a :: l) = (a :: l).zip (l ++ [a]) := by simp [cyc]
theorem zip_sum (F : Pt3 → Pt3 → Int) : ∀ (l : List Pt3) (a x : Pt3), (((a :: l).zip (l ++ [x])).map fun p => F p.1 p.2).sum = chn F (a :: l) + F ((a :: l).getLastD a) x
  | [], a, x => by simp [chn]
  | b :: l, a, x => by
    have ih := zip_sum F l b x
    simp only [List.cons_append, List.zip_cons_cons, List.map_cons, List.sum_cons, chn, List.getLastD_cons] at ih ⊢
    rw [ih]
    omega
theorem cyc_sum (F : Pt3 → Pt3 → Int) (l : List Pt3) : ((cyc l).map fun p => F p.1 p.2).sum = cycS F l := by
  cases l with
  | nil => rfl
  | cons a l => rw [cyc_cons, zip_sum]; rfl
theorem cyc_tel {F : Pt3 → Pt3 → Int} {g : Pt3 → Int} {l : List Pt3} (h : ∀ p ∈ cyc l, F p.1 p.2 = g p.1 - g p.2) : cycS F l = 0 := by
  rw [← cyc_sum]
  cases l with
  | nil => rfl
  | cons a l =>
    have key : ∀ (l : List Pt3) (a x : Pt3), (∀ p ∈ (a :: l).zip (l ++ [x]), F p.1 p.2 = g p.1 - g p.2) → (((a :: l).zip (l ++ [x])).map fun p => F p.1 p.2).sum = g a - g x := by
      intro l
      induction l with
      | nil => intro a x h; simpa using h (a, x) (by simp)
      | cons b l ih =>
        intro a x h
        have h0 := h (a, b) (by simp)
        have h1 := ih b x fun p hp => h p (by simp only [List.cons_append, List.zip_cons_cons, List.mem_cons]; exact .inr hp)
        simp only [List.cons_append, List.zip_cons_cons, List.map_cons, List.sum_cons] at h1 ⊢
        rw [h1]
        have h0' : F a b = g a - g b := h0
        omega
    rw [cyc_cons, key l a a (by rw [← cyc_cons]; exact h)]
    omega
theorem map_sum_sub {α : Type} (f g : α → Int) : ∀ (l : List α), (l.map fun a => f a - g a).sum = (l.map f).sum - (l.map g).sum
  | [] => rfl
  | a :: l => by simp only [List.map_cons, List.sum_cons, map_sum_sub f g l]; omega
theorem map_sum_neg {α : Type} (f : α → Int) : ∀ (l : List α), (l.map fun a => -f a).sum = -(l.map f).sum
  | [] => rfl
  | a :: l => by simp only [List.map_cons, List.sum_cons, map_sum_neg f l]; omega
/-- how often a ring goes round p -/
def rnd1 (ring : List Pt3) (p : Pt3) : Int := cycS (fun u v => undr u v p) ring
def rnd (rings : List (List Pt3)) (p : Pt3) : Int := (rings.map fun r => rnd1 r p).sum
theorem rnd_rev (rings : List (List Pt3)) (p : Pt3) : rnd (rings.map List.reverse) p = -rnd rings p := by
  unfold rnd
  rw [List.map_map, ← map_sum_neg]
  congr 1
  refine List.map_congr_left fun r _ => ?_
  simp only [Function.comp, rnd1, cyc_rev]
  rw [← cyc_sum, ← cyc_sum, ← map_sum_neg]
  congr 1
  exact List.map_congr_left fun x _ => undr_rev _ _ _
theorem cyc_map (f : Pt3 → Pt3) (l : List Pt3) : cyc (l.map f) = (cyc l).map fun x => (f x.1, f x.2) := by
  unfold cyc
  rw [← List.map_drop, ← List.map_take, ← List.map_append, List.zip_map]
  rfl
theorem cyc_mem {l : List Pt3} {x : Pt3 × Pt3} (h : x ∈ cyc l) : x.1 ∈ l ∧ x.2 ∈ l := by
  unfold cyc at h
  obtain ⟨h1, h2⟩ := List.of_mem_zip (show (x.1, x.2) ∈ _ from h)
  refine ⟨h1, ?_⟩
  rcases List.mem_append.mp h2 with h | h
  · exact List.mem_of_mem_drop h
  · exact List.mem_of_mem_take h
/-- turned by a quarter, the rounds stay -/
theorem rnd_qtr {rings : List (List Pt3)} {p : Pt3} (hp : 0 < p.z) (hz : ∀ r ∈ rings, ∀ q ∈ r, 0 < q.z) (hn : ∀ r ∈ rings, ∀ x ∈ cyc r, onB p x.1 x.2 = false) : rnd (rings.map fun r => r.map qtr) (qtr p) = rnd rings p := by
  unfold rnd
  rw [List.map_map]
  congr 1
  refine List.map_congr_left fun r hr => ?_
  simp only [Function.comp, rnd1]
  have e := cyc_tel (F := fun u v => undr u v p - undr (qtr u) (qtr v) (qtr p)) (g := fun u => q3 (u.x * p.z - p.x * u.z) (u.y * p.z - p.y * u.z)) (l := r) fun x hx => by
    obtain ⟨m1, m2⟩ := cyc_mem hx
    exact undr_qtr (hz r hr _ m1) (hz r hr _ m2) hp (hn r hr x hx)
  rw [← cyc_sum] at e ⊢
  rw [← cyc_sum, cyc_map, List.map_map]
  rw [map_sum_sub] at e
  have e' : ((cyc r).map fun a => undr (qtr a.1) (qtr a.2) (qtr p)).sum = ((cyc r).map fun a => undr a.1 a.2 p).sum := by omega
  exact e'
end L2

set_option linter.all false
set_option maxRecDepth 100000
set_option maxHeartbeats 4000000
namespace L2
open PySem PySem.Spec PyProof.Rows
theorem ints_of : ∀ {ns : List Int} {us : List Value}, Vals (ns.map V.int) us → ∃ xs : List (Int × Tok), us = xs.map (fun p => Value.int p.1 p.2) ∧ xs.map (·.1) = ns
  | [], _, r => by rw [List.map_nil] at r; cases r; exact ⟨[], rfl, rfl⟩
  | n :: ns, _, r => by
    rw [List.map_cons] at r
    cases r with
    | cons h t =>
      obtain ⟨u, rfl⟩ := h
      obtain ⟨xs, e1, e2⟩ := ints_of t
      exact ⟨(n, u) :: xs, by simp [e1], by simp [e2]⟩

theorem pre_take (xs : List (Int × Tok)) : ∀ j, preSum (numAt xs.toArray) j = ((xs.map (·.1)).take j).sum
  | 0 => rfl
  | j + 1 => by
    rw [preSum, pre_take xs j, List.take_succ, List.sum_append]
    congr 1
    simp only [numAt, List.getElem?_toArray, List.getElem?_map]
    cases h : xs[j]? with
    | none => simp
    | some p => simp
theorem sum_le {ns : List Int} {c : Nat} (h : ∀ n ∈ ns, n.natAbs ≤ c) : ns.sum.natAbs ≤ c * ns.length := by
  induction ns with
  | nil => simp
  | cons n ns ih =>
    have h1 := h n (by simp)
    have h2 := ih fun m hm => h m (List.mem_cons_of_mem _ hm)
    rw [List.sum_cons, List.length_cons, Nat.mul_succ]
    omega
section
variable {X : Cx}
/-- sum of a list of small ints -/
def rSumI : List V → Hp → VK → Prop := fun xs H Q => ∃ (l : Addr) (ns : List Int), xs = [.ref l] ∧ H l = some (.lst (ns.map V.int)) ∧ (∀ n ∈ ns, n.natAbs ≤ 1000) ∧ ns.length ≤ 100000 ∧ Q (.int ns.sum) H
theorem call_sumI (hc : X.calm = true) : CallR X (.builtin "sum") rSumI := by
  intro pins s σ H vs us Q I r q
  obtain ⟨l, ns, rfl, hl, hb, hz, q⟩ := q
  obtain ⟨u, rfl, ru⟩ := vals1 r
  cases ru
  obtain ⟨_, its, n, rv, ho⟩ := (show ObjOk X.prog X.w H s.heap l (.lst (ns.map V.int)) from I.hok l _ hl)
  obtain ⟨xs, rfl, e2⟩ := ints_of rv
  have hL : s.heap.IsList l (intItems xs.toArray) := ⟨_, ho, rfl, n, by simp [intItems]⟩
  have hxl : xs.length = ns.length := by rw [← e2, List.length_map]
  have bd : ∀ j, (preSum (numAt xs.toArray) j).natAbs ≤ 1000 * 100000 := fun j => by
    rw [pre_take, e2]
    have := sum_le (ns := ns.take j) (c := 1000) fun m hm => hb m (List.mem_of_mem_take hm)
    rw [List.length_take] at this
    refine Nat.le_trans this (Nat.mul_le_mul_left _ (by omega))
  refine sum_intList (I.ok.hd hc) hL (fun j hj => ⟨?_, ?_⟩) fun h' tk t' kp => ?_
  · have : (numAt xs.toArray j).natAbs ≤ 1000 := by
      simp only [numAt, List.getElem?_toArray]
      cases h : xs[j]? with
      | none => simp
      | some p => simpa using hb p.1 (by rw [← e2]; exact List.mem_map.mpr ⟨p, List.mem_of_getElem? h, rfl⟩)
    unfold InLong
    omega
  · have := bd (j + 1)
    unfold InLong
    omega
  · refine ⟨.int ns.sum, H, I.kept (t' := tk) kp, ⟨t', ?_⟩, q⟩
    rw [pre_take, e2]
    simp [hxl, List.take_of_length_le]
end
section
variable {σ : St} {H : Hp} {K : PySem.W.Frag} {to te : TE} {a : Addr} {xs ys : List V} {t : TA} {R : Hp → Nat → Addr → Prop} {fr : St → St}
theorem cutV_take (xs : List V) {k : Nat} (h : k ≤ xs.length) : cutV xs none (some (k : Int)) = xs.take k := by
  have e1 : HT.sIx xs.length 0 none = 0 := rfl
  have e2 : HT.sIx xs.length xs.length (some (k : Int)) = k := by
    unfold HT.sIx
    simp only []
    split <;> omega
  unfold cutV
  rw [e1, e2]
  rfl
/-- xs[1:] + xs[:1] -/
theorem gv_rot (ho : ∀ H', Pu to σ H' (.ref a)) (ha : H a = some (.lst xs)) (h1 : 1 ≤ xs.length) (hz : xs.length ≤ 1000) : Gv (tOp rCat (tSl (rSlL K) to (tPart (tC (.int 1))) tNoPart) (tSl (rSlL K) to tNoPart (tPart (tC (.int 1))))) σ H (fun v H' => Same H H' ∧ ∃ p, v = .ref p ∧ H p = none ∧ H' p = some (.lst (xs.drop 1 ++ xs.take 1))) := by
  intro Q q
  refine ho _ _ ⟨1, rfl, a, xs, rfl, SqL.of ha, fun p hp => ?_⟩
  have s1 : Same H (upd H p (.lst (cutV xs (some 1) none))) := Same.upd hp
  refine ho _ _ ⟨1, rfl, a, xs, rfl, SqL.of (s1 _ _ ha), fun b hb => ?_⟩
  have s2 := s1.trans (Same.upd (o := .lst (cutV xs none (some 1))) hb)
  have hpb : p ≠ b := ne_of_none upd_same hb
  have c1 : cutV xs (some 1) none = xs.drop 1 := cutV_drop xs (k := 1) h1
  have c2 : cutV xs none (some 1) = xs.take 1 := cutV_take xs (k := 1) h1
  refine ⟨p, b, xs.drop 1, xs.take 1, rfl, rfl, by rw [upd_ne hpb, upd_same, c1], by rw [upd_same, c2], ?_, fun c hc => ?_⟩
  · rw [List.length_drop, List.length_take]
    exact Nat.le_of_lt (small1000 (by omega))
  · exact q _ _ ⟨s2.trans (Same.upd hc), c, rfl, same_none s2 hc, upd_same⟩
/-- over zip of two lists, no name caught -/
theorem gv_compZ2 (S : Stays R) {RA : List V → Hp → Prop} (ha : GvA t σ H RA) (hra : ∀ vs H1, RA vs H1 → ∃ a b, vs = [.ref a, .ref b] ∧ Same H H1 ∧ H1 a = some (.lst xs) ∧ H1 b = some (.lst ys)) (hz : xs.length ≤ 1000)
    (hs : ∀ i x y H', xs[i]? = some x → ys[i]? = some y → Same H H' → Gv te [some x, some y] H' (fun v H'' => Same H' H'' ∧ ∃ p, v = .ref p ∧ H' p = none ∧ R H'' i p)) :
    Gv (tComp (iZip HO.lst HO.lst t) (fun _ => [none, none]) (gTup K 2 (gCons (gName 0) (gCons (gName 1) gNil))) te) σ H (Laid R H (min xs.length ys.length)) := by
  intro Q g
  refine ha _ fun vs H1 r1 => ?_
  obtain ⟨a, b, rfl, s1, ha, hb⟩ := hra vs H1 r1
  refine ⟨a, b, xs, ys, rfl, ha, hb, fun D hD => ?_⟩
  have hD0 : H D = none := same_none s1 hD
  refine ⟨fun i m zs H2 => m = min xs.length ys.length - i ∧ i ≤ min xs.length ys.length ∧ Same H1 H2 ∧ ∃ ps : List Addr, zs = ps.map V.ref ∧ H2 D = some (.lst zs) ∧ ps.length = i ∧ ∀ i p, ps[i]? = some p → R H2 i p ∧ p ≠ D ∧ H1 p = none, ⟨_, rfl, Nat.zero_le _, Same.upd hD, [], rfl, upd_same, rfl, fun i p h => by simp at h⟩, ?_⟩
  rintro i m zs H2 ⟨rfl, hi, s2, ps, rfl, hD2, hpl, hps⟩
  have ha2 := s2 _ _ ha
  have hb2 := s2 _ _ hb
  by_cases hlt : i < min xs.length ys.length
  · have l1 : i < xs.length := by omega
    have l2 : i < ys.length := by omega
    refine .inr ⟨⟨xs, ys, xs[i], ys[i], ha2, hb2, by simp [l1], by simp [l2]⟩, ?_, ?_⟩
    · rw [List.length_map]; exact small1000 (by omega)
    rintro v H3 ⟨p, x, y, hp, rfl, rfl, hx, hy⟩
    have s3 : Same H2 (upd H2 p (.tup [x, y])) := Same.upd hp
    refine ⟨p, [x, y], rfl, SqT.of upd_same, rfl, x, [y], rfl, y, [], rfl, rfl, KeepS.none2, ?_⟩
    refine hs i x y _ (hx xs ha2) (hy ys hb2) (s1.trans (s2.trans s3)) _ fun v H4 ⟨s4, q, e, np, r⟩ => ?_
    subst e
    obtain ⟨d4, s5, h5⟩ := laid_step S hD s2 hD2 hpl hps s3 s4 np r
    exact ⟨d4, min xs.length ys.length - (i + 1), by omega, rfl, hlt, by simpa using s5, ps ++ [q], by simp, upd_same, by simp [hpl], by simpa using h5⟩
  · have e : i = min xs.length ys.length := by omega
    subst e
    refine .inl ⟨⟨xs, ys, ha2, hb2, by omega⟩, g _ _ ⟨s1.trans s2, D, ps, rfl, hD0, hD2, hpl, fun i p h => ?_⟩⟩
    obtain ⟨r1, r2, r3⟩ := hps i p h
    exact ⟨r1, r2, same_none s1 r3⟩
end
/-! ### sides, laid -/
/-- a side as a tuple of two points -/
def SdAt (H : Hp) (a : Addr) (x : Pt3 × Pt3) : Prop := ∃ u v, H a = some (.tup [u, v]) ∧ AtP H u x.1 ∧ AtP H v x.2
theorem SdAt.same {H H' : Hp} {a : Addr} {x : Pt3 × Pt3} (h : SdAt H a x) (s : Same H H') : SdAt H' a x := by
  obtain ⟨u, v, h1, h2, h3⟩ := h
  exact ⟨u, v, s _ _ h1, TupT.same h2 s, TupT.same h3 s⟩
theorem AtP.but {H1 H2 : Hp} {v : V} {p : Pt3} {D : Addr} {ys : List V} (h : AtP H1 v p) (d : H1 D = some (.lst ys)) (s : SameB D H1 H2) : AtP H2 v p := TupT.sameB h s d
theorem SdAt.but {H1 H2 : Hp} {a D : Addr} {x : Pt3 × Pt3} {ys : List V} (h : SdAt H1 a x) (d : H1 D = some (.lst ys)) (s : SameB D H1 H2) : SdAt H2 a x := by
  obtain ⟨u, v, h1, h2, h3⟩ := h
  exact ⟨u, v, s _ _ h1 (ne_of h1 d (by intro z; cases z)), h2.but d s, h3.but d s⟩
theorem stays_side (xs : List (Pt3 × Pt3)) : Stays (fun H i a => ∃ x, xs[i]? = some x ∧ SdAt H a x) where
  same := fun ⟨x, e, h⟩ s => ⟨x, e, h.same s⟩
  but := fun ⟨x, e, h⟩ _ d s => ⟨x, e, h.but d s⟩
  here := fun ⟨x, e, u, v, h, _⟩ z => by rw [h] at z; cases z
/-- a list of sides -/
def SdL (H : Hp) (l : Addr) (xs : List (Pt3 × Pt3)) : Prop := ∃ as : List Addr, H l = some (.lst (as.map V.ref)) ∧ Paired (SdAt H) as xs
/-- a list of rings -/
def RgL (H : Hp) (l : Addr) (rs : List (List Pt3)) : Prop := ∃ as : List Addr, H l = some (.lst (as.map V.ref)) ∧ Paired (LP H) as rs
theorem RgL.same {H H' : Hp} {l : Addr} {rs : List (List Pt3)} (h : RgL H l rs) (s : Same H H') : RgL H' l rs := by
  obtain ⟨as, h1, h2⟩ := h
  exact ⟨as, s _ _ h1, paired_mono h2 fun _ _ x => x.same s⟩
end L2

set_option linter.all false
set_option maxRecDepth 100000
set_option maxHeartbeats 4000000
namespace L2
open PySem PySem.Spec PyProof.Rows
section
variable {σ : St} {H : Hp} {K : PySem.W.Frag} {tl te : TE} {fr : St → St}
/-- [e for u, v in sides], e an int, one name caught -/
theorem gv_compPI {xs : List (Pt3 × Pt3)} {f : Option V} (F : Pt3 × Pt3 → Int) {RL : V → Hp → Prop} (hf : fr σ = [none, none, f]) (hl : Gv tl σ H RL) (hrl : ∀ v H1, RL v H1 → ∃ a, v = .ref a ∧ Same H H1 ∧ SdL H1 a xs) (hz : xs.length ≤ 100000)
    (hs : ∀ u v x H', x ∈ xs → Same H H' → AtP H' u x.1 → AtP H' v x.2 → Gv te [some u, some v, f] H' (fun w H'' => Same H' H'' ∧ w = .int (F x))) :
    Gv (tComp (iList K tl) fr (gTup K 2 (gCons (gName 0) (gCons (gName 1) gNil))) te) σ H (fun v H' => Same H H' ∧ ∃ D, v = .ref D ∧ H D = none ∧ H' D = some (.lst ((xs.map F).map V.int))) := by
  intro Q g
  refine hl _ fun v H1 r1 => ?_
  obtain ⟨a, rfl, s1, as, ha, pr⟩ := hrl v H1 r1
  have hal : as.length = xs.length := paired_len pr
  refine ⟨a, rfl, ⟨_, SqL.of ha⟩, fun D hD => ?_⟩
  refine ⟨fun i m ys H2 => m = xs.length - i ∧ i ≤ xs.length ∧ Same H1 H2 ∧ ys = ((xs.take i).map F).map V.int ∧ H2 D = some (.lst ys), ⟨_, rfl, Nat.zero_le _, Same.upd hD, rfl, upd_same⟩, ?_⟩
  rintro i m ys H2 ⟨rfl, hi, s2, rfl, hD2⟩
  have ha2 := s2 _ _ ha
  by_cases hlt : i < xs.length
  · have hlt' : i < as.length := by omega
    refine .inr ⟨⟨as.map V.ref, .ref as[i], SqL.of ha2, by simp [hlt']⟩, ?_, fun x H3 y => ?_⟩
    · rw [List.length_map, List.length_map, List.length_take]
      have : 100000 < sizeLine := by rw [sizeLine_eq]; decide
      omega
    obtain ⟨e, y⟩ := y
    subst e
    have ex := y _ (SqL.of ha2)
    rw [List.getElem?_map, List.getElem?_eq_getElem hlt'] at ex
    have ex' : V.ref as[i] = x := Option.some.inj ex
    subst ex'
    obtain ⟨z, hz, u, v, hsd, hu, hv⟩ := paired_get pr (List.getElem?_eq_getElem hlt')
    rw [hf]
    refine ⟨as[i], [u, v], rfl, SqT.of (s2 _ _ hsd), rfl, u, [v], rfl, v, [], rfl, rfl, KeepS.none3, ?_⟩
    refine hs u v z _ (List.mem_of_getElem? hz) (s1.trans s2) (TupT.same hu s2) (TupT.same hv s2) _ fun w H4 ⟨s4, e⟩ => ?_
    subst e
    refine ⟨s4 _ _ hD2, xs.length - (i + 1), by omega, rfl, hlt, same_updNew (s2.trans s4) hD, ?_, upd_same⟩
    rw [List.take_succ, hz]
    simp
  · have e : i = xs.length := by omega
    subst e
    refine .inl ⟨⟨_, SqL.of ha2, by simp [hal]⟩, g _ _ ⟨s1.trans s2, D, rfl, same_none s1 hD, ?_⟩⟩
    rw [List.take_length] at hD2
    exact hD2
end
theorem undr_small (u v p : Pt3) : (undr u v p).natAbs ≤ 1000 := by
  unfold undr und
  (repeat' split) <;> decide
section
variable {σ : St} {H : Hp} {D : Ends} {te to : TE} {l : Addr} {xs : List V} {K : PySem.W.Frag}
theorem st_extG1 {R : V → Hp → Prop} (ho : Pu to σ H (.ref l)) (hl : H l = some (.lst xs)) (he : Gv te σ H R) (q : ∀ v H', R v H' → ∃ b ys zs, v = .ref b ∧ H' l = some (.lst ys) ∧ H' b = some (.lst zs) ∧ ys.length + zs.length ≤ sizeLine ∧ D.nx σ (upd H' l (.lst (ys ++ zs)))) :
    tDrop (tBM K "list" rExtend to (tCons te tNil)) D σ H :=
  ho _ ⟨.inl ⟨rfl, _, SqL.of hl⟩, he _ fun v H' r => by
    obtain ⟨b, ys, zs, rfl, h1, h2, h3, h4⟩ := q v H' r
    exact ⟨l, b, ys, zs, rfl, rfl, h1, h2, h3, h4⟩⟩
theorem paired_app {α β : Type} {F : α → β → Prop} : ∀ {as : List α} {bs : List β} {cs : List α} {ds : List β}, Paired F as bs → Paired F cs ds → Paired F (as ++ cs) (bs ++ ds)
  | _, _, _, _, .nil, g => g
  | _, _, _, _, .cons r t, g => .cons r (paired_app t g)
end
theorem gv_ifEG {σ : St} {H : Hp} {tc : TT} {ta tb : TE} {RB : Bool → Hp → Prop} {R : V → Hp → Prop} (h : GvT tc σ H RB) (h1 : ∀ H', RB true H' → Gv ta σ H' R) (h2 : ∀ H', RB false H' → Gv tb σ H' R) : Gv (tIf tc ta tb) σ H R := fun Q q => h _ fun c H' r => by
  cases c with
  | true => rw [if_pos rfl]; exact h1 H' r Q q
  | false => rw [if_neg Bool.false_ne_true]; exact h2 H' r Q q
end L2

set_option linter.all false
set_option maxRecDepth 100000
set_option maxHeartbeats 4000000
namespace L2
open PySem PySem.Spec PyProof.Rows
/-! ### plain data, laid -/
mutual
inductive Dat (K : PySem.W.Frag) (H : Hp) : Nat → V → PyData → Prop
  | int {k : Nat} (n : Int) : Dat K H k (.int n) (.int n)
  | tup {k : Nat} {a : Addr} {vs : List V} {ds : List PyData} : SqT K H a vs → Dats K H k vs ds → Dat K H (k + 1) (.ref a) (.tuple ds)
  | lst {k : Nat} {a : Addr} {vs : List V} {ds : List PyData} : SqL K H a vs → Dats K H k vs ds → Dat K H (k + 1) (.ref a) (.list ds)
inductive Dats (K : PySem.W.Frag) (H : Hp) : Nat → List V → List PyData → Prop
  | nil {k : Nat} : Dats K H k [] []
  | cons {k : Nat} {v : V} {vs : List V} {d : PyData} {ds : List PyData} : Dat K H k v d → Dats K H k vs ds → Dats K H k (v :: vs) (d :: ds)
end
section
open PySem.SeqAt PyProof.V
variable {K : PySem.W.Frag} {H : Hp}
mutual
theorem Dat.can : ∀ {k : Nat} {v : V} {d : PyData}, Dat K H k v d → d.canLay0 = true ∧ d.depth ≤ k ∧ noMix d d = true
  | _, _, _, .int n => by simp [PyData.canLay0, PyData.depth, noMix]
  | _, _, _, .tup h t => by
    have := Dats.can t
    simp only [PyData.canLay0, PyData.depth, noMix]
    exact ⟨this.1, by omega, this.2.2⟩
  | _, _, _, .lst h t => by
    have := Dats.can t
    simp only [PyData.canLay0, PyData.depth, noMix]
    exact ⟨this.1, by omega, this.2.2⟩
theorem Dats.can : ∀ {k : Nat} {vs : List V} {ds : List PyData}, Dats K H k vs ds → PyData.canLayAll0 ds = true ∧ PyData.depthAll ds ≤ k ∧ noMixAll ds ds = true
  | _, _, _, .nil => by simp [PyData.canLayAll0, PyData.depthAll, noMixAll]
  | _, _, _, .cons h t => by
    have h1 := Dat.can h
    have h2 := Dats.can t
    simp only [PyData.canLayAll0, PyData.depthAll, noMixAll, Bool.and_eq_true]
    exact ⟨⟨h1.1, h2.1⟩, by omega, h1.2.2, h2.2.2⟩
end
theorem Dat.shaped {k : Nat} {v : V} {d : PyData} (h : Dat K H k v d) (hk : k ≤ 64) : PySem.SeqAt.shaped d = true := by
  have := h.can
  show (PyData.canLay0 d && decide (PyData.depth d ≤ 64)) = true
  rw [Bool.and_eq_true]
  exact ⟨this.1, decide_eq_true (by omega)⟩
end
section
open PySem.SeqAt PyProof.V
variable {X : Cx} {pins : List (Addr × Obj)} {σ : St} {H : Hp} {s : Shared}
mutual
theorem Inv.dat {K : PySem.W.Frag} (hK : X.K = K) (I : Inv X pins σ H s) : ∀ {k : Nat} {v : V} {d : PyData}, Dat K H k v d → ∀ u, RelV v u → ∃ as, Reads s.heap u d as
  | _, _, _, .int n, _, r => by
    obtain ⟨t, rfl⟩ := (show ∃ t, _ = Value.int n t from r)
    exact ⟨_, Reads.int n t⟩
  | _, _, _, .tup h t, _, r => by
    cases r
    obtain ⟨its, rv, p, _⟩ := I.tuple (hK ▸ h)
    obtain ⟨o, ho, hc, n, hd⟩ := p
    obtain ⟨as, ra⟩ := Inv.dats hK I t _ rv
    exact ⟨_, Reads.tuple ho hc hd (by simpa using ra)⟩
  | _, _, _, .lst h t, _, r => by
    cases r
    obtain ⟨its, rv, pl, _⟩ := I.list (hK ▸ h)
    obtain ⟨o, ho, hc, n, hd⟩ := pl.isList
    obtain ⟨as, ra⟩ := Inv.dats hK I t _ rv
    exact ⟨_, Reads.list ho hc hd (by simpa using ra)⟩
theorem Inv.dats {K : PySem.W.Frag} (hK : X.K = K) (I : Inv X pins σ H s) : ∀ {k : Nat} {vs : List V} {ds : List PyData}, Dats K H k vs ds → ∀ us, Vals vs us → ∃ as, ReadsAll s.heap us ds as
  | _, _, _, .nil, _, .nil => ⟨_, .nil⟩
  | _, _, _, .cons p q, _, .cons r t => by
    obtain ⟨as, h1⟩ := Inv.dat hK I p _ r
    obtain ⟨bs, h2⟩ := Inv.dats hK I q _ t
    exact ⟨_, .cons h1 h2⟩
end
/-- == and != of the same data -/
def rEqS (K : PySem.W.Frag) (neg : Bool) : R2 := fun x y H Q => ∃ d, Dat K H 8 x d ∧ Dat K H 8 y d ∧ Q (.bl (!neg)) H
theorem op_eqS (hu : X.A.units + 64 < cLine) : OpR X (compareOp .Eq) (rEqS X.K false) := by
  intro pins s σ H x y v u Q I rx ry h
  obtain ⟨d, h1, h2, q⟩ := h
  obtain ⟨as, r1⟩ := I.dat rfl h1 _ rx
  obtain ⟨bs, r2⟩ := I.dat rfl h2 _ ry
  refine eq_dataH_same r1 r2 (h1.shaped (by decide)) (h1.shaped (by decide)) hu h1.can.2.2 (fin_bl I q ?_)
  rw [same_self]
  all_goals rfl
theorem op_neS (hu : X.A.units + 64 < cLine) : OpR X (compareOp .NotEq) (rEqS X.K true) := by
  intro pins s σ H x y v u Q I rx ry h
  obtain ⟨d, h1, h2, q⟩ := h
  obtain ⟨as, r1⟩ := I.dat rfl h1 _ rx
  obtain ⟨bs, r2⟩ := I.dat rfl h2 _ ry
  refine ne_dataH_same r1 r2 (h1.shaped (by decide)) (h1.shaped (by decide)) hu h1.can.2.2 (fin_bl I q ?_)
  rw [same_self]
  all_goals rfl
end
section
variable {K : PySem.W.Frag} {H : Hp}
theorem dats_ints : ∀ {k : Nat} (ns : List Int), Dats K H k (ns.map V.int) (ns.map PyData.int)
  | _, [] => .nil
  | _, n :: ns => .cons (.int n) (dats_ints ns)
theorem TupT.dat {v : V} {ns : List Int} {k : Nat} (h : TupT H v ns) : Dat K H (k + 1) v (.tuple (ns.map PyData.int)) := by
  obtain ⟨a, rfl, h⟩ := h
  exact .tup (SqT.of h) (dats_ints ns)
theorem TupsT.dats : ∀ {vs : List V} {nss : List (List Int)} {k : Nat}, TupsT H vs nss → Dats K H (k + 1) vs (nss.map fun ns => .tuple (ns.map PyData.int))
  | _, _, _, .nil => .nil
  | _, _, _, .cons h t => .cons h.dat (TupsT.dats t)
theorem dats_of {α : Type} {F : V → α → Prop} {g : α → PyData} {k : Nat} (hF : ∀ v x, F v x → Dat K H k v (g x)) : ∀ {as : List Addr} {xs : List α}, Paired (fun a x => F (.ref a) x) as xs → Dats K H k (as.map V.ref) (xs.map g)
  | _, _, .nil => .nil
  | _, _, .cons h t => .cons (hF _ _ h) (dats_of hF t)
def dP (p : Pt3) : PyData := .tuple [.int p.x, .int p.y, .int p.z]
theorem AtP.dat {v : V} {p : Pt3} {k : Nat} (h : AtP H v p) : Dat K H (k + 1) v (dP p) := TupT.dat h
theorem SdAt.dat {a : Addr} {x : Pt3 × Pt3} {k : Nat} (h : SdAt H a x) : Dat K H (k + 2) (.ref a) (.tuple [dP x.1, dP x.2]) := by
  obtain ⟨u, v, h1, h2, h3⟩ := h
  exact .tup (SqT.of h1) (.cons h2.dat (.cons h3.dat .nil))
def dS (xs : List (Pt3 × Pt3)) : PyData := .list (xs.map fun x => .tuple [dP x.1, dP x.2])
theorem SdL.dat {l : Addr} {xs : List (Pt3 × Pt3)} (h : SdL H l xs) : Dat K H 8 (.ref l) (dS xs) := by
  obtain ⟨as, h1, h2⟩ := h
  exact .lst (SqL.of h1) (dats_of (F := fun v x => ∃ a, v = .ref a ∧ SdAt H a x) (k := 7) (fun v x ⟨a, e, h⟩ => by subst e; exact h.dat (k := 5)) (paired_mono h2 fun a x h => ⟨a, rfl, h⟩))
def dR (rs : List (List Pt3)) : PyData := .list (rs.map fun r => .list ((r.map L3).map fun ns => .tuple (ns.map PyData.int)))
theorem RgL.dat {l : Addr} {rs : List (List Pt3)} (h : RgL H l rs) : Dat K H 8 (.ref l) (dR rs) := by
  obtain ⟨as, h1, h2⟩ := h
  refine .lst (SqL.of h1) (dats_of (F := fun v r => ∃ a, v = .ref a ∧ LP H a r) (k := 7) (fun v r ⟨a, e, h⟩ => ?_) (paired_mono h2 fun a x h => ⟨a, rfl, h⟩))
  subst e
  obtain ⟨ys, h, t⟩ := h
  exact .lst (SqL.of h) (TupsT.dats (k := 5) t)
theorem pu_eqS {σ : St} {ta tb : TE} {x y : V} {d : PyData} (ha : Pu ta σ H x) (hb : Pu tb σ H y) (h1 : Dat K H 8 x d) (h2 : Dat K H 8 y d) : Pu (tOp (rEqS K false) ta tb) σ H (.bl true) := fun _ q => ha _ (hb _ ⟨d, h1, h2, q⟩)
theorem pu_neS {σ : St} {ta tb : TE} {x y : V} {d : PyData} (ha : Pu ta σ H x) (hb : Pu tb σ H y) (h1 : Dat K H 8 x d) (h2 : Dat K H 8 y d) : Pu (tOp (rEqS K true) ta tb) σ H (.bl false) := fun _ q => ha _ (hb _ ⟨d, h1, h2, q⟩)
end
/-! ### [::-1] -/
theorem pick_rev (its : List Value) : slicePick its.toArray none none (some (-1)) = its.reverse.toArray := by
  unfold slicePick
  congr 1
  have b1 : (sliceBounds none none (some (-1)) its.toArray.size).1 = (its.length : Int) - 1 := by
    simp only [sliceBounds, Option.getD_some, show ¬ ((-1 : Int) > 0) by decide, if_false, List.size_toArray]
  have b2 : (sliceBounds none none (some (-1)) its.toArray.size).2.1 = -1 := by
    simp only [sliceBounds, Option.getD_some, show ¬ ((-1 : Int) > 0) by decide, if_false, List.size_toArray]
  have b3 : (sliceBounds none none (some (-1)) its.toArray.size).2.2 = -1 := rfl
  rw [b1, b2, b3]
  have e : sliceRange ((its.length : Int) - 1) (-1) (-1) = (List.range its.length).map (fun j => its.length - 1 - j) := by
    unfold sliceRange
    simp only [show ¬ ((-1 : Int) > 0) by decide, if_false]
    by_cases h : 0 < its.length
    · rw [if_pos (by omega)]
      have c : (((its.length : Int) - 1 - -1 - -1 - 1) / (- -1)).toNat = its.length := by
        rw [show (- -1 : Int) = 1 from rfl, Int.ediv_one]
        omega
      rw [c]
      refine List.map_congr_left fun j hj => ?_
      have := List.mem_range.mp hj
      omega
    · rw [if_neg (by omega)]
      have : its.length = 0 := by omega
      rw [this]; rfl
  rw [e]
  apply List.ext_getElem?
  intro i
  have key : ∀ (n : Nat), n ≤ its.length → ((List.range n).map fun j => its.length - 1 - j).filterMap (fun (i : Nat) => its.toArray[i]?) = (its.reverse).take n := by
    intro n
    induction n with
    | zero => intro _; rfl
    | succ n ih =>
      intro hn
      rw [List.range_succ, List.map_append, List.filterMap_append, ih (by omega), List.take_succ]
      congr 1
      simp only [List.map_cons, List.map_nil, List.filterMap_cons, List.filterMap_nil]
      rw [List.getElem?_reverse (by omega)]
      simp only [List.getElem?_toArray]
      cases its[its.length - 1 - n]? <;> rfl
  have := key its.length (Nat.le_refl _)
  rw [← List.length_reverse, List.take_length] at this
  rw [List.length_reverse] at this
  rw [← this]
section
variable {X : Cx} {e : Expr} {te : TE} {lo hi : Option Expr} {tl th ts : TO} {pos p2 : Pos}
def rSlR (K : PySem.W.Frag) : V → Option Int → Option Int → Option Int → Hp → VK → Prop := fun x lo hi g H Q =>
  ∃ a xs, x = .ref a ∧ lo = none ∧ hi = none ∧ g = some (-1) ∧ SqL K H a xs ∧ ∀ p, H p = none → Q (.ref p) (upd H p (.lst xs.reverse))
theorem pe_sliceR {g : Expr} (he : PE X e te) (hl : PO X lo tl) (hu : PO X hi th) (hg : PO X (some g) ts) : PE X (.Subscript e (.Slice lo hi (some g) p2) pos) (tSl3 (rSlR X.K) te tl th ts) := by
  intro pins s σ H Q I h
  refine Subscript_ (thn (he pins s σ H _ I h) fun v s1 ⟨x, H1, I1, r1, q1⟩ => ?_)
  refine wpAny_Slice (thn (hl pins s1 σ H1 _ I1 q1) fun vl s2 ⟨l, H2, I2, pl, q2⟩ => thn (hu pins s2 σ H2 _ I2 q2) fun vu s3 ⟨u, H3, I3, pu, q3⟩ => thn (hg pins s3 σ H3 _ I3 q3) fun vg s4 ⟨g', H4, I4, pg, q4⟩ => ?_)
  have I5 : Inv X pins σ H4 { s4 with heap := s4.heap.push { cls := .type "slice", data := .fields #[vl, vu, vg] } } := I4.kept (t' := s4.toks) fun b ob q => Heap.get?_push_of_some _ q
  obtain ⟨a, xs, rfl, rfl, rfl, rfl, hx, q⟩ := q4
  cases r1
  obtain ⟨its, r, ht, hz⟩ := I5.list hx
  have hlen := r.length
  refine tail_any (ops := [.ref a, .ref s4.heap.objs.size]) ht.isList.typeIs slot_list_getitem.lookup ?_ (by with_unfolding_all rfl)
  refine wpAny_getItem_list_slice ht.isList (Heap.IsSliceOf.new ..) pl pu pg (by simp) ?_ (by rw [List.size_toArray] <;> omega)
  rw [pick_rev its]
  refine ⟨.ref _, _, I5.laid (t' := s4.toks) (o := .lst xs.reverse) (fun b ob q => Heap.get?_push_of_some _ q) (Nat.le_refl _) ?_, rfl, q _ (I5.hok.fresh (Nat.le_refl _))⟩
  refine ⟨?_, _, 0, r.reverse, Heap.get?_push_size _ rfl⟩
  rw [List.length_reverse]
  omega
/-- in a comprehension's block -/
theorem pe_sliceRK {K : PySem.W.Frag} {g : Expr} (hK : X.K = K) (he : PE X e te) (hl : PO X lo tl) (hu : PO X hi th) (hg : PO X (some g) ts) : PE X (.Subscript e (.Slice lo hi (some g) p2) pos) (tSl3 (rSlR K) te tl th ts) := by
  subst hK; exact pe_sliceR he hl hu hg
end
section
variable {σ : St} {H : Hp} {D : Ends} {rest : TS} {K : PySem.W.Frag} {to : TE} {a : Addr} {xs : List V}
theorem gv_slR (ho : Pu to σ H (.ref a)) (ha : H a = some (.lst xs)) : Gv (tSl3 (rSlR K) to tNoPart tNoPart (tPart (tUn (rU fun i => .int (-i)) (tC (.int 1))))) σ H (fun v H' => ∃ p, H p = none ∧ v = .ref p ∧ H' = upd H p (.lst xs.reverse)) :=
  fun Q q => ho _ ⟨1, rfl, -1, rfl, a, xs, rfl, rfl, rfl, rfl, SqL.of ha, fun p hp => q _ _ ⟨p, hp, rfl, rfl⟩⟩
/-- a while with a measure that one knows of -/
theorem st_whileN {c : TT} {tb : TS} (Pv : Nat → St → Hp → Prop) (h0 : ∃ n, Pv n σ H)
    (hs : ∀ n σ H, Pv n σ H → ∃ RB : Bool → Hp → Prop, GvT c σ H RB ∧ (∀ H1, RB true H1 → tb { D with nx := fun σ' H' => ∃ m, m < n ∧ Pv m σ' H', ct := fun σ' H' => ∃ m, m < n ∧ Pv m σ' H', bk := rest D } σ H1) ∧ (∀ H1, RB false H1 → rest D σ H1)) :
    tSeq (tWhile c tb) rest D σ H := by
  refine ⟨Pv, h0, ?_⟩
  intro m σ H p
  obtain ⟨RB, hb, h1, h2⟩ := hs m σ H p
  refine hb _ fun b H1 r => ?_
  cases b with
  | true => rw [if_pos rfl]; exact ⟨fun σ' H' => ∃ k, k < m ∧ Pv k σ' H', fun σ' H' x => x, h1 _ r⟩
  | false => rw [if_neg Bool.false_ne_true]; exact h2 _ r
theorem st_clear (ho : Pu to σ H (.ref a)) (ha : H a = some (.lst xs)) (q : rest D σ (upd H a (.lst []))) : tSeq (tDrop (tBM0 K "list" rClear to)) rest D σ H :=
  ho _ ⟨.inl ⟨rfl, _, SqL.of ha⟩, a, xs, rfl, rfl, ha, q⟩
end
end L2

set_option linter.all false
set_option maxHeartbeats 4000000
namespace L2
/-! ### points that are drawn, one after another -/
theorem dvd_low {A B C M X Y : Int} {r : Pt3} (i : Is3 A B C r) (hC : C ≠ 0) (hx : M * A = C * X) (hy : M * B = C * Y) : r.z ∣ M := by
  obtain ⟨d, d0, e1, e2, e3⟩ := i.ex
  have hd : d ≠ 0 := by omega
  have k1 : M * r.x = r.z * X := by
    rw [e1, e3] at hx
    have : d * (M * r.x) = d * (r.z * X) := by rw [← Int.mul_assoc d r.z X, ← hx, Int.mul_left_comm]
    exact Int.eq_of_mul_eq_mul_left hd this
  have k2 : M * r.y = r.z * Y := by
    rw [e2, e3] at hy
    have : d * (M * r.y) = d * (r.z * Y) := by rw [← Int.mul_assoc d r.z Y, ← hy, Int.mul_left_comm]
    exact Int.eq_of_mul_eq_mul_left hd this
  have c : Nat.gcd (Nat.gcd r.z.natAbs r.x.natAbs) r.y.natAbs = 1 := i.cop
  have n1 : r.z.natAbs ∣ M.natAbs * r.x.natAbs := by rw [← Int.natAbs_mul, k1, Int.natAbs_mul]; exact Nat.dvd_mul_right _ _
  have n2 : r.z.natAbs ∣ M.natAbs * r.y.natAbs := by rw [← Int.natAbs_mul, k2, Int.natAbs_mul]; exact Nat.dvd_mul_right _ _
  have n3 : r.z.natAbs ∣ M.natAbs * Nat.gcd r.z.natAbs r.x.natAbs := by
    rw [← Nat.gcd_mul_left]
    exact Nat.dvd_gcd (Nat.dvd_mul_left _ _) n1
  have n4 : r.z.natAbs ∣ M.natAbs * Nat.gcd (Nat.gcd r.z.natAbs r.x.natAbs) r.y.natAbs := by
    rw [← Nat.gcd_mul_left]
    exact Nat.dvd_gcd n3 n2
  rw [c, Nat.mul_one] at n4
  exact Int.natAbs_dvd_natAbs.mp n4
structure Dr (k m : Nat) (p : Pt3) : Prop where
  pos : 0 < p.z
  dv : p.z ∣ 6 * 2 ^ k
  x : p.x.natAbs ≤ m * p.z.natAbs
  y : p.y.natAbs ≤ m * p.z.natAbs
theorem Dr.mono {k k' m m' : Nat} {p : Pt3} (h : Dr k m p) (e : k ≤ k') (f : m ≤ m') : Dr k' m' p where
  pos := h.pos
  dv := by
    obtain ⟨j, rfl⟩ := Nat.exists_eq_add_of_le e
    rw [Int.pow_add, ← Int.mul_assoc]
    exact Int.dvd_trans h.dv (Int.dvd_mul_right _ _)
  x := Nat.le_trans h.x (Nat.mul_le_mul_right _ f)
  y := Nat.le_trans h.y (Nat.mul_le_mul_right _ f)
theorem Dr.sz {k m : Nat} {p : Pt3} (h : Dr k m p) (e : k ≤ 70) (f : m ≤ 1000) : Sz 100 p := by
  have d := (h.mono e f).dv
  have hz : p.z ≤ 6 * 2 ^ 70 := Int.le_of_dvd (by decide) d
  have hp := h.pos
  have hzn : p.z.natAbs ≤ 6 * 2 ^ 70 := by
    have : ((p.z.natAbs : Nat) : Int) = p.z := by omega
    have h2 : ((6 * 2 ^ 70 : Nat) : Int) = 6 * 2 ^ 70 := by decide
    omega
  have b : ∀ n : Int, n.natAbs ≤ m * p.z.natAbs → Bd 100 n := fun n hn => by
    unfold Bd
    have : m * p.z.natAbs ≤ 1000 * (6 * 2 ^ 70) := Nat.mul_le_mul f hzn
    exact Nat.lt_of_le_of_lt (Nat.le_trans hn this) (by decide)
  refine ⟨b _ h.x, b _ h.y, ?_⟩
  unfold Bd
  exact Nat.lt_of_le_of_lt hzn (by decide)
theorem nr_of {A B C : Int} {r : Pt3} {m : Nat} (i : Is3 A B C r) (ha : A.natAbs ≤ m * C.natAbs) (hb : B.natAbs ≤ m * C.natAbs) : r.x.natAbs ≤ m * r.z.natAbs ∧ r.y.natAbs ≤ m * r.z.natAbs := by
  obtain ⟨d, d0, e1, e2, e3⟩ := i.ex
  have hd : 0 < d.natAbs := by omega
  rw [e1, e3, Int.natAbs_mul, Int.natAbs_mul, Nat.mul_left_comm] at ha
  rw [e2, e3, Int.natAbs_mul, Int.natAbs_mul, Nat.mul_left_comm] at hb
  exact ⟨Nat.le_of_mul_le_mul_left ha hd, Nat.le_of_mul_le_mul_left hb hd⟩
theorem mid_nr {a b c d : Int} {m : Nat} (h1 : a.natAbs ≤ m * b.natAbs) (h2 : c.natAbs ≤ m * d.natAbs) : (a * d + c * b).natAbs ≤ m * (2 * b * d).natAbs := by
  have e1 : (a * d).natAbs ≤ m * (b.natAbs * d.natAbs) := by
    rw [Int.natAbs_mul, ← Nat.mul_assoc]
    exact Nat.mul_le_mul_right _ h1
  have e2 : (c * b).natAbs ≤ m * (b.natAbs * d.natAbs) := by
    rw [Int.natAbs_mul, Nat.mul_comm b.natAbs, ← Nat.mul_assoc]
    exact Nat.mul_le_mul_right _ h2
  have e3 : (2 * b * d).natAbs = 2 * (b.natAbs * d.natAbs) := by
    rw [Int.natAbs_mul, Int.natAbs_mul, Nat.mul_assoc]; rfl
  rw [e3, Nat.mul_left_comm]
  revert e1 e2
  generalize m * (b.natAbs * d.natAbs) = z
  intro e1 e2
  omega
theorem Dr.mid {k m : Nat} {p q r : Pt3} (hp : Dr k m p) (hq : Dr k m q) (i : Is3 (p.x * q.z + q.x * p.z) (p.y * q.z + q.y * p.z) (2 * p.z * q.z) r) : Dr (k + 1) m r := by
  obtain ⟨m1, e1⟩ := hp.dv
  obtain ⟨m2, e2⟩ := hq.dv
  have hz : 2 * p.z * q.z ≠ 0 := by
    have h1 := hp.pos
    have h2 := hq.pos
    have := Int.mul_pos (show 0 < 2 * p.z by omega) h2
    omega
  have n := nr_of i (mid_nr hp.x hq.x) (mid_nr hp.y hq.y)
  refine ⟨i.pos, ?_, n.1, n.2⟩
  have e0 : (6 : Int) * 2 ^ (k + 1) = 2 * (6 * 2 ^ k) := by rw [Int.pow_succ]; omega
  rw [e0]
  have sw : ∀ a b : Int, 2 * (6 * 2 ^ k) * (a * q.z + b * p.z) = 2 * p.z * q.z * (a * m1 + b * m2) := fun a b => by
    have f1 : 2 * (6 * 2 ^ k) * (a * q.z) = 2 * p.z * q.z * (a * m1) := by rw [e1]; grind
    have f2 : 2 * (6 * 2 ^ k) * (b * p.z) = 2 * p.z * q.z * (b * m2) := by rw [e2]; grind
    rw [Int.mul_add, Int.mul_add, f1, f2]
  exact dvd_low i hz (sw p.x q.x) (sw p.y q.y)
theorem Dr.fresh {a b c : Int} {r : Pt3} (k : Nat) (i : Is3 a b c r) (ha : 0 ≤ a ∧ a ≤ 9) (hb : 0 ≤ b ∧ b ≤ 9) (hc : 1 ≤ c ∧ c ≤ 3) : Dr k 9 r := by
  have n := nr_of (m := 9) i (by omega) (by omega)
  refine ⟨i.pos, ?_, n.1, n.2⟩
  obtain ⟨d, d0, e1, e2, e3⟩ := i.ex
  have h1 : r.z ∣ c := ⟨d, by rw [e3, Int.mul_comm]⟩
  have h2 : c ∣ 6 := by
    rcases (show c = 1 ∨ c = 2 ∨ c = 3 by omega) with h | h | h <;> rw [h] <;> decide
  exact Int.dvd_trans h1 (Int.dvd_trans h2 (Int.dvd_mul_right _ _))
theorem Dr.step {k m : Nat} {p r : Pt3} (h : Dr k m p) (i : Is3 (p.x + p.z) p.y p.z r) : Dr k (m + 1) r := by
  have hp := h.pos
  have n := nr_of (m := m + 1) i (by
    have := h.x
    rw [Nat.succ_mul]
    omega) (by
    have := h.y
    rw [Nat.succ_mul]
    omega)
  refine ⟨i.pos, ?_, n.1, n.2⟩
  obtain ⟨d, d0, e1, e2, e3⟩ := i.ex
  exact Int.dvd_trans ⟨d, by rw [e3, Int.mul_comm]⟩ h.dv
/-- how many of two points lie at p's x or right of it -/
def rgt (p a : Pt3) : Nat := if p.x * a.z ≤ a.x * p.z then 1 else 0
theorem rgt_le (p a : Pt3) : rgt p a ≤ 1 := by
  unfold rgt
  split <;> omega
theorem rgt_self (p : Pt3) : rgt p p = 1 := by
  unfold rgt
  rw [if_pos (Int.le_refl _)]
theorem stp_mul {p r a : Pt3} (i : Is3 (p.x + p.z) p.y p.z r) : r.x * p.z = (p.x + p.z) * r.z := by
  obtain ⟨d, d0, e1, e2, e3⟩ := i.ex
  rw [e1, e3]
  grind
theorem rgt_step {p r a : Pt3} (hp : 0 < p.z) (ha : 0 < a.z) (i : Is3 (p.x + p.z) p.y p.z r) : rgt r a ≤ rgt p a := by
  unfold rgt
  by_cases h : r.x * a.z ≤ a.x * r.z
  · have hr := i.pos
    have e := stp_mul (a := a) i
    have h1 : r.x * a.z * p.z ≤ a.x * r.z * p.z := Int.mul_le_mul_of_nonneg_right h (by omega)
    have h2 : r.x * a.z * p.z = r.z * (p.x * a.z) + r.z * (p.z * a.z) := by
      have : r.x * a.z * p.z = (r.x * p.z) * a.z := by grind
      rw [this, e]; grind
    have h3 : a.x * r.z * p.z = r.z * (a.x * p.z) := by grind
    have h4 : 0 < r.z * (p.z * a.z) := Int.mul_pos hr (Int.mul_pos hp ha)
    have h5 : r.z * (p.x * a.z) ≤ r.z * (a.x * p.z) := by omega
    have h6 := Int.le_of_mul_le_mul_left h5 hr
    rw [if_pos h6]
    split <;> omega
  · rw [if_neg h]
    omega
theorem rgt_gone {p r : Pt3} (hp : 0 < p.z) (i : Is3 (p.x + p.z) p.y p.z r) : rgt r p = 0 := by
  unfold rgt
  have e := stp_mul (a := p) i
  have hr := i.pos
  have h4 : 0 < p.z * r.z := Int.mul_pos hp hr
  rw [if_neg]
  rw [e, Int.add_mul]
  omega
/-- the sum over the sides that end at each corner -/
def prevS (F : Pt3 → Pt3 → Int) (r : List Pt3) (n : Nat) : Nat → Int
  | 0 => 0
  | k + 1 => prevS F r n k + F (r.getD (prv n k) pt0) (r.getD k pt0)
theorem prevS_chn (F : Pt3 → Pt3 → Int) (a : Pt3) (l : List Pt3) : ∀ k, k ≤ l.length → prevS F (a :: l) (a :: l).length (k + 1) = F ((a :: l).getLastD a) a + chn F ((a :: l).take (k + 1))
  | 0, _ => by
    have e : (a :: l).getD (prv (a :: l).length 0) pt0 = (a :: l).getLastD a := by
      have : prv (a :: l).length 0 = l.length := by simp [prv]
      rw [this, List.getD_eq_getElem?_getD]
      cases l with
      | nil => rfl
      | cons b l => simp [List.getLastD_cons, List.getLast?_eq_getElem?, List.getLastD_eq_getLast?]
    simp only [prevS, e]
    simp [chn]
  | k + 1, h => by
    have ih := prevS_chn F a l k (by omega)
    rw [prevS, ih]
    have hk : k + 1 < (a :: l).length := by simp; omega
    rw [List.take_succ (i := k + 1), List.getElem?_eq_getElem hk]
    simp only [Option.toList_some]
    rw [chn_app F _ a _ (by simp)]
    have e1 : (a :: l).getD (prv (a :: l).length (k + 1)) pt0 = ((a :: l).take (k + 1)).getLastD a := by
      have : prv (a :: l).length (k + 1) = k := by simp [prv]
      rw [this, List.getD_eq_getElem?_getD, List.getLastD_eq_getLast?, List.getLast?_eq_getElem?, List.length_take, List.getElem?_take_of_lt (by omega)]
      have : min (k + 1) (a :: l).length - 1 = k := by omega
      rw [this, List.getElem?_eq_getElem (by omega)]
      rfl
    have e2 : (a :: l).getD (k + 1) pt0 = (a :: l)[k + 1] := by
      rw [List.getD_eq_getElem?_getD, List.getElem?_eq_getElem hk]; rfl
    rw [e1, e2]
    omega
theorem prevS_cyc (F : Pt3 → Pt3 → Int) (r : List Pt3) : prevS F r r.length r.length = cycS F r := by
  cases r with
  | nil => rfl
  | cons a l =>
    have := prevS_chn F a l l.length (Nat.le_refl _)
    rw [show (a :: l).length = l.length + 1 from rfl] at this ⊢
    rw [this]
    rw [List.take_of_length_le (by simp)]
    simp only [cycS]
    omega
/-- the sides of a ring, one by one -/
theorem cyc_get {r : List Pt3} {k : Nat} (h : k + 1 < r.length) : (cyc r)[k]? = some (r.getD k pt0, r.getD (k + 1) pt0) := by
  unfold cyc
  rw [List.getElem?_zip_eq_some]
  simp only [List.getD_eq_getElem?_getD]
  constructor
  · rw [List.getElem?_eq_getElem (by omega)]; rfl
  · rw [List.getElem?_append_left (by rw [List.length_drop]; omega), List.getElem?_drop, Nat.add_comm 1 k, List.getElem?_eq_getElem (by omega)]; rfl
theorem cyc_last {r : List Pt3} (h : 0 < r.length) : (cyc r)[r.length - 1]? = some (r.getD (r.length - 1) pt0, r.getD 0 pt0) := by
  unfold cyc
  rw [List.getElem?_zip_eq_some]
  simp only [List.getD_eq_getElem?_getD]
  constructor
  · rw [List.getElem?_eq_getElem (by omega)]; rfl
  · rw [List.getElem?_append_right (by rw [List.length_drop]; omega), List.length_drop, Nat.sub_self, List.getElem?_take_of_lt (by omega), List.getElem?_eq_getElem (by omega)]; rfl
theorem cyc_length (r : List Pt3) : (cyc r).length = r.length := by
  unfold cyc
  rw [List.length_zip, List.length_append, List.length_drop, List.length_take]
  omega
end L2

set_option linter.all false
set_option maxRecDepth 100000
set_option maxHeartbeats 4000000
namespace L2
open PySem PySem.Spec PyProof.Rows
section
variable {X : Cx}
theorem pi_listK {K : PySem.W.Frag} {tg l : Expr} {tl : TE} (h : X.K = K) (hl : PE X l tl) : PI X tg l (iList K tl) := by
  subst h; exact pi_list hl
theorem call_list_ofK {K : PySem.W.Frag} (h : X.K = K) : CallR X (.type "list") (fun xs H Q => ∃ p ys, xs = [.ref p] ∧ (SqL K H p ys ∨ SqT K H p ys) ∧ ∀ l, H l = none → Q (.ref l) (upd H l (.lst ys))) := by
  subst h; exact call_list_of
theorem lookup3 {a b d y : Str} {ca cb cd c : Addr} (h : List.lookup y [(a, ca), (b, cb), (d, cd)] = some c) : (y = a ∧ c = ca) ∨ (y = b ∧ c = cb) ∨ (y = d ∧ c = cd) := by
  simp only [List.lookup_cons] at h
  split at h
  · rename_i e
    exact .inl ⟨eq_of_beq e, (Option.some.inj h).symm⟩
  split at h
  · rename_i e
    exact .inr (.inl ⟨eq_of_beq e, (Option.some.inj h).symm⟩)
  split at h
  · rename_i e
    exact .inr (.inr ⟨eq_of_beq e, (Option.some.inj h).symm⟩)
  · cases h
/-- a comprehension that catches three names -/
theorem cr_lcompC3 {x a b d : Str} {px : Pos} {elt iter : Expr} {scope : Scope} {ca cb cd : Addr} {pos : Pos} {wi : TI} {te : TE} (ja jb jd : Nat)
    (hc : X.calm = true) (hi : PI X (.Name x px) iter wi)
    (hg : ∀ C fp s0 H0, PG (blk X [x, a, b, d] scope [(a, ca), (b, cb), (d, cd)] C fp s0 H0) (.Name x px) (gName 0)) (he : ∀ C fp s0 H0, PE (blk X [x, a, b, d] scope [(a, ca), (b, cb), (d, cd)] C fp s0 H0) elt te)
    (hclos : closureFor scope X.env = pure [(a, ca), (b, cb), (d, cd)]) (hkind : scope.kind = .function) (hnames : ∀ x ∈ scope.names, x.2 = .local → scope.names.lookup x.1 = some .local) (hcell : ∀ y ∈ scope.names, y.2 ≠ .cell)
    (h1 : X.env.cells.lookup a = some ca ∧ X.N[ja]? = some a ∧ X.env.kindOf a = some .cell ∧ (relabel scope X.env).names.lookup a = some .cell)
    (h2 : X.env.cells.lookup b = some cb ∧ X.N[jb]? = some b ∧ X.env.kindOf b = some .cell ∧ (relabel scope X.env).names.lookup b = some .cell)
    (h3 : X.env.cells.lookup d = some cd ∧ X.N[jd]? = some d ∧ X.env.kindOf d = some .cell ∧ (relabel scope X.env).names.lookup d = some .cell)
    (hall : ((relabel scope X.env).names.all fun p => (p.2 != .cell && p.2 != .free) || (p.1 == a || (p.1 == b || p.1 == d))) = true)
    (hs : ∀ x, foldedSetIterable iter X.env x = pure x := by intro _; rfl) :
    CompR X (.ListComp elt [⟨.Name x px, iter, [], 0⟩] scope pos) scope iter (tComp wi (fun σ => [none, (σ[ja]?).join, (σ[jb]?).join, (σ[jd]?).join]) (gName 0) te) := by
  refine cr_lcomp (N' := [x, a, b, d]) (cl := [(a, ca), (b, cb), (d, cd)]) hc hi hg he hclos hkind hnames hcell (fun y' c' h => ?_) (fun y' h => ?_) (fun _ _ => rfl) (fun σ i y' v e1 e2 => ?_) hs
  · rcases lookup3 h with ⟨rfl, rfl⟩ | ⟨rfl, rfl⟩ | ⟨rfl, rfl⟩
    · exact h1.1
    · exact h2.1
    · exact h3.1
  · rw [List.all_eq_true] at hall
    have key : ∀ k, (k = .cell ∨ k = .free) → (relabel scope X.env).names.lookup y' = some k → y' = a ∨ y' = b ∨ y' = d := fun k hk e => by
      have := hall _ (lookup_mem e)
      rcases hk with rfl | rfl
      · simpa using this
      · simpa using this
    have e : y' = a ∨ y' = b ∨ y' = d := by
      rcases h with h | h
      · exact key _ (.inl rfl) h
      · exact key _ (.inr rfl) h
    simp only [List.lookup_cons]
    by_cases n1 : (y' == a) = true
    · exact ⟨ca, by rw [n1]⟩
    · by_cases n2 : (y' == b) = true
      · exact ⟨cb, by rw [Bool.eq_false_iff.mpr n1, n2]⟩
      · have n3 : (y' == d) = true := by
          rcases e with e | e | e
          · exact absurd (beq_iff_eq.mpr e) n1
          · exact absurd (beq_iff_eq.mpr e) n2
          · exact beq_iff_eq.mpr e
        exact ⟨cd, by rw [Bool.eq_false_iff.mpr n1, Bool.eq_false_iff.mpr n2, n3]⟩
  · have js : ∀ {j : Nat}, (σ[j]?).join = some v → σ[j]? = some (some v) := fun {j} e => by
      cases h : σ[j]? with
      | none => rw [h] at e; cases e
      | some o => rw [h] at e; have : o = some v := e; rw [this]
    match i, e1, e2 with
    | 0, _, e2 => cases e2
    | 1, e1, e2 =>
      have e1' : a = y' := by simpa using e1
      subst e1'
      exact ⟨ja, h1.2.1, js (by simpa using e2), h1.2.2.1, h1.2.2.2⟩
    | 2, e1, e2 =>
      have e1' : b = y' := by simpa using e1
      subst e1'
      exact ⟨jb, h2.2.1, js (by simpa using e2), h2.2.2.1, h2.2.2.2⟩
    | 3, e1, e2 =>
      have e1' : d = y' := by simpa using e1
      subst e1'
      exact ⟨jd, h3.2.1, js (by simpa using e2), h3.2.2.1, h3.2.2.2⟩
    | i + 4, e1, _ => simp at e1
end
section
variable {σ : St} {H : Hp} {te tl : TE} {fr : St → St} {k : Nat} {K : PySem.W.Frag} {D : Ends} {rest : TS}
/-- over a list of points, each turn lays a point -/
theorem gv_compLP {a : Addr} {ps : List Pt3} (Rel : Pt3 → Pt3 → Prop) (hl : Pu tl σ H (.ref a)) (ha : LP H a ps) (hz : ps.length ≤ 1000) (hk : ∀ x, KeepS (fr σ) ((fr σ).set k (some x)))
    (hs : ∀ v p H', p ∈ ps → Same H H' → AtP H' v p → Gv te ((fr σ).set k (some v)) H' (fun w H'' => Same H' H'' ∧ ∃ q, AtP H'' w q ∧ Rel p q)) :
    Gv (tComp (iList K tl) fr (gName k) te) σ H (fun v H' => Same H H' ∧ ∃ D qs, v = .ref D ∧ H D = none ∧ LP H' D qs ∧ Paired Rel ps qs) := by
  intro Q g
  obtain ⟨xs, ha, tx⟩ := ha
  have hxl : xs.length = ps.length := by rw [tx.len, List.length_map]
  refine hl _ ⟨a, rfl, ⟨xs, SqL.of ha⟩, fun D hD => ?_⟩
  refine ⟨fun i m ys H2 => m = xs.length - i ∧ i ≤ xs.length ∧ Same H H2 ∧ H2 D = some (.lst ys) ∧ ∃ qs : List Pt3, TupsT H2 ys (qs.map L3) ∧ Paired Rel (ps.take i) qs, ⟨_, rfl, Nat.zero_le _, Same.upd hD, upd_same, [], .nil, .nil⟩, ?_⟩
  rintro i m ys H2 ⟨rfl, hi, s2, hD2, qs, ty, pr⟩
  have hyl : ys.length = i := by
    rw [ty.len, List.length_map, ← paired_len pr, List.length_take]
    omega
  by_cases hlt : i < xs.length
  · refine .inr ⟨⟨xs, xs[i], SqL.of (s2 _ _ ha), by simp [hlt]⟩, small1000 (by omega), fun x H3 y => ?_⟩
    obtain ⟨e, y⟩ := y
    subst e
    have ex := y xs (SqL.of (s2 _ _ ha))
    obtain ⟨ns, hns, tv⟩ := tx.get' ex
    rw [List.getElem?_map] at hns
    cases hpi : ps[i]? with
    | none => rw [hpi] at hns; cases hns
    | some p =>
      rw [hpi] at hns
      have en : ns = L3 p := (Option.some.inj hns).symm
      subst en
      refine ⟨hk x, hs x p _ (List.mem_of_getElem? hpi) s2 (TupT.same tv s2) _ fun w H4 ⟨s4, q, aq, rq⟩ => ?_⟩
      have d4 := s4 _ _ hD2
      refine ⟨d4, xs.length - (i + 1), by omega, rfl, hlt, same_updNew (s2.trans s4) hD, upd_same, qs ++ [q], ?_, ?_⟩
      · rw [List.map_append]
        exact TupsT.lstUpd ((ty.mono fun _ _ x => x.same s4).snoc aq) d4
      · rw [List.take_succ, hpi]
        exact paired_snoc pr rq
  · have e : i = xs.length := by omega
    subst e
    rw [List.take_of_length_le (by omega)] at pr
    exact .inl ⟨⟨_, SqL.of (s2 _ _ ha), Nat.le_refl _⟩, g _ _ ⟨s2, D, qs, rfl, hD, ⟨ys, hD2, ty⟩, pr⟩⟩
/-- rows of points from rows of points -/
def RowR (Rel : Pt3 → Pt3 → Prop) (rs : List (List Pt3)) (H : Hp) (i : Nat) (p : Addr) : Prop := ∃ r, rs[i]? = some r ∧ ∃ q, LP H p q ∧ Paired Rel r q
theorem stays_rowR (Rel : Pt3 → Pt3 → Prop) (rs : List (List Pt3)) : Stays (RowR Rel rs) where
  same := fun ⟨r, e, q, h, z⟩ s => ⟨r, e, q, h.same s, z⟩
  but := fun ⟨r, e, q, h, z⟩ n d s => ⟨r, e, q, h.but n d s, z⟩
  here := fun ⟨r, e, q, ⟨ys, h, _⟩, _⟩ z => by rw [h] at z; cases z
theorem paired_two {α β γ : Type} {F : α → γ → Prop} {G : β → γ → Prop} : ∀ {as : List α} {bs : List β}, Paired (fun a b => ∃ c, F a c ∧ G b c) as bs → ∃ cs, Paired F as cs ∧ Paired G bs cs
  | _, _, .nil => ⟨[], .nil, .nil⟩
  | _, _, .cons ⟨c, h1, h2⟩ t => by
    obtain ⟨cs, g1, g2⟩ := paired_two t
    exact ⟨c :: cs, .cons h1 g1, .cons h2 g2⟩
theorem gv_rows {l : Addr} {rs : List (List Pt3)} (Rel : Pt3 → Pt3 → Prop) (hl : Pu tl σ H (.ref l)) (ha : RgL H l rs) (hz : rs.length ≤ 1000) (hk : ∀ x, KeepS (fr σ) ((fr σ).set k (some x)))
    (hs : ∀ a r H', r ∈ rs → Same H H' → LP H' a r → Gv te ((fr σ).set k (some (.ref a))) H' (fun v H'' => Same H' H'' ∧ ∃ D qs, v = .ref D ∧ H' D = none ∧ LP H'' D qs ∧ Paired Rel r qs)) :
    Gv (tComp (iList K tl) fr (gName k) te) σ H (fun v H' => Same H H' ∧ ∃ D qs, v = .ref D ∧ H D = none ∧ RgL H' D qs ∧ Paired (Paired Rel) rs qs) := by
  obtain ⟨as, ha, pr⟩ := ha
  have hal := paired_len pr
  refine (gv_compLG (stays_rowR Rel rs) hl ha (by rw [List.length_map]; omega) hk ?_).imp ?_
  · intro i x H' hx s
    rw [List.getElem?_map] at hx
    cases hai : as[i]? with
    | none => rw [hai] at hx; cases hx
    | some a =>
      rw [hai] at hx
      have ex : V.ref a = x := Option.some.inj hx
      subst ex
      obtain ⟨r, hri, hlp⟩ := paired_get pr hai
      exact (hs a r H' (List.mem_of_getElem? hri) s (hlp.same s)).imp fun v H'' ⟨s', D, qs, e, n, l, p⟩ => ⟨s', D, e, n, r, hri, qs, l, p⟩
  · rintro _ H' ⟨s, D, ps, rfl, hD, hD', hpl, hps⟩
    rw [List.length_map] at hpl
    obtain ⟨qs, g1, g2⟩ := paired_two (paired_of (F := fun a b => ∃ c, LP H' a c ∧ Paired Rel b c) (as := ps) (bs := rs) (by omega) fun i p hp => by
      obtain ⟨⟨r, e, q, h1, h2⟩, _⟩ := hps i p hp
      exact ⟨r, e, q, h1, h2⟩)
    exact ⟨s, D, qs, rfl, hD, ⟨ps, hD', g1⟩, g2⟩
theorem paired_map {α : Type} {f : α → α} : ∀ {as bs : List α}, Paired (fun a b => b = f a) as bs → bs = as.map f
  | _, _, .nil => rfl
  | _, _, .cons e t => by rw [List.map_cons, ← e, ← paired_map t]
theorem paired_all {α β : Type} {F : α → β → Prop} {P : β → Prop} (h : ∀ a b, F a b → P b) : ∀ {as : List α} {bs : List β}, Paired F as bs → ∀ b ∈ bs, P b
  | _, _, .nil => fun b hb => by simp at hb
  | _, _, .cons e t => fun b hb => by
    rcases List.mem_cons.mp hb with rfl | hb
    · exact h _ _ e
    · exact paired_all h t b hb
/-- for u, v in sides -/
theorem st_sides {tb : TS} {l : Addr} {xs : List (Pt3 × Pt3)} {i j : Nat} (ha : Pu te σ H (.ref l)) (hl : SdL H l xs) (Pv : Nat → St → Hp → Prop) (h0 : Pv 0 σ H) (hs0 : ∀ n σ' H', Pv n σ' H' → Same H H')
    (hs : ∀ n u v x σ' H', xs[n]? = some x → Pv n σ' H' → AtP H' u x.1 → AtP H' v x.2 → tb { D with nx := Pv (n + 1), ct := Pv (n + 1), bk := rest D } ((σ'.set i (some u)).set j (some v)) H') (hd : ∀ σ' H', Pv xs.length σ' H' → rest D σ' H') :
    tSeq (tFor (iList K te) (gTup K 2 (gCons (gName i) (gCons (gName j) gNil))) tb) rest D σ H := by
  obtain ⟨as, hl, pr⟩ := hl
  have hal := paired_len pr
  refine st_list (K := K) (xs := as.map V.ref) ha Pv h0 (fun n σ' H' _ p => SqL.of (hs0 n σ' H' p _ _ hl)) ?_ (fun σ' H' p => ?_)
  · intro n x σ' H' hx p
    rw [List.getElem?_map] at hx
    cases hai : as[n]? with
    | none => rw [hai] at hx; cases hx
    | some a =>
      rw [hai] at hx
      have ex : V.ref a = x := Option.some.inj hx
      subst ex
      obtain ⟨y, hy, u, v, hsd, hu, hv⟩ := paired_get pr hai
      have s := hs0 n σ' H' p
      exact ⟨a, [u, v], rfl, SqT.of (s _ _ hsd), rfl, u, [v], rfl, v, [], rfl, rfl, hs n u v y σ' H' hy p (TupT.same hu s) (TupT.same hv s)⟩
  · rw [List.length_map, hal] at p
    exact hd _ _ p
/-- a list of points read at a place -/
theorem LP.at {a : Addr} {ps : List Pt3} {i : Nat} {p : Pt3} (h : LP H a ps) (e : ps[i]? = some p) : ∃ xs v, H a = some (.lst xs) ∧ xs.length = ps.length ∧ xs[i]? = some v ∧ AtP H v p := by
  obtain ⟨xs, h1, tx⟩ := h
  obtain ⟨v, hv, tv⟩ := tx.get (i := i) (ns := L3 p) (by rw [List.getElem?_map, e]; rfl)
  exact ⟨xs, v, h1, by rw [tx.len, List.length_map], hv, tv⟩
end
end L2

set_option linter.all false
set_option maxRecDepth 100000
set_option maxHeartbeats 4000000
namespace L2
open PySem PySem.Spec PyProof.Rows
/-- the same but for two lists -/
def Same2 (a b : Addr) (H H' : Hp) : Prop := ∀ c o, H c = some o → c ≠ a → c ≠ b → H' c = some o
section
variable {H H1 H2 : Hp} {a b c l : Addr}
theorem Same2.refl : Same2 a b H H := fun _ _ h _ _ => h
theorem Same2.trans (h : Same2 a b H H1) (g : Same2 a b H1 H2) : Same2 a b H H2 := fun c o e n m => g c o (h c o e n m) n m
theorem SameB.two (h : SameB a H H1) : Same2 a b H H1 := fun c o e n _ => h c o e n
theorem Same.two (h : Same H H1) : Same2 a b H H1 := fun c o e _ _ => h c o e
theorem Same2.new {o : HO} (h : Same2 a b H H1) (n : H l = none) : Same2 a b H (upd H1 l o) := fun c u e n1 n2 => by
  have : c ≠ l := fun z => by subst z; rw [n] at e; cases e
  rw [upd_ne this]; exact h c u e n1 n2
theorem Same2.at {o : HO} (h : Same2 a b H H1) : Same2 a b H (upd H1 b o) := fun c u e n1 n2 => by
  rw [upd_ne n2]; exact h c u e n1 n2
theorem TupT.two {v : V} {ns : List Int} {ys zs : List V} (h : TupT H v ns) (ha : H a = some (.lst ys)) (hb : H b = some (.lst zs)) (s : Same2 a b H H1) : TupT H1 v ns := by
  obtain ⟨p, rfl, h⟩ := h
  exact ⟨p, rfl, s _ _ h (ne_of h ha (by intro z; cases z)) (ne_of h hb (by intro z; cases z))⟩
theorem LP.two {p : Addr} {r : List Pt3} {ys zs : List V} (h : LP H p r) (n1 : p ≠ a) (n2 : p ≠ b) (ha : H a = some (.lst ys)) (hb : H b = some (.lst zs)) (s : Same2 a b H H1) : LP H1 p r := by
  obtain ⟨xs, h, t⟩ := h
  exact ⟨xs, s _ _ h n1 n2, t.mono fun _ _ x => x.two ha hb s⟩
/-- one more point behind -/
theorem LP.snoc {ps : List Pt3} {v : V} {p : Pt3} (h : LP H l ps) (t : AtP H v p) : ∃ ys, H l = some (.lst ys) ∧ ys.length = ps.length ∧ LP (upd H l (.lst (ys ++ [v]))) l (ps ++ [p]) := by
  obtain ⟨ys, h, ty⟩ := h
  refine ⟨ys, h, by rw [ty.len, List.length_map], _, upd_same, ?_⟩
  rw [List.map_append]
  exact (ty.snoc t).lstUpd h
theorem LP.ls {ps : List Pt3} (h : LP H l ps) : ∃ ys, H l = some (.lst ys) ∧ ys.length = ps.length := by
  obtain ⟨ys, h, ty⟩ := h
  exact ⟨ys, h, by rw [ty.len, List.length_map]⟩
theorem LP.get {ps : List Pt3} {ys : List V} {i : Nat} {p : Pt3} (h : LP H l ps) (hl : H l = some (.lst ys)) (e : ps[i]? = some p) : ∃ v, ys[i]? = some v ∧ AtP H v p := by
  obtain ⟨zs, h, tz⟩ := h
  rw [h] at hl
  cases hl
  obtain ⟨v, hv, tv⟩ := tz.get (i := i) (ns := L3 p) (by rw [List.getElem?_map, e]; rfl)
  exact ⟨v, hv, tv⟩
theorem l3_inj {p q : Pt3} (h : L3 p = L3 q) : p = q := by
  have := congrArg unL3 h
  rwa [unL3_L3, unL3_L3] at this
/-- the while of a ring: what the measure does -/
theorem rgt_less {p r A B : Pt3} {m : Nat} (hp : 0 < p.z) (hA : 0 < A.z) (hB : 0 < B.z) (i : Is3 (p.x + p.z) p.y p.z r) (h : rgt p A + rgt p B ≤ m) (e : p = A ∨ p = B) : 1 ≤ m ∧ rgt r A + rgt r B ≤ m - 1 := by
  have h1 := rgt_step hp hA i
  have h2 := rgt_step hp hB i
  have h3 := rgt_self p
  have h4 := rgt_gone hp i
  rcases e with rfl | rfl
  · omega
  · omega
end
end L2

set_option linter.all false
set_option maxRecDepth 100000
set_option maxHeartbeats 4000000
namespace L2
open PySem PySem.Spec PyProof.Rows
theorem TupsT.reverse {H : Hp} : ∀ {vs : List V} {nss : List (List Int)}, TupsT H vs nss → TupsT H vs.reverse nss.reverse
  | _, _, .nil => .nil
  | _, _, .cons h t => by
    rw [List.reverse_cons, List.reverse_cons]
    exact TupsT.snoc (TupsT.reverse t) h
section
variable {σ : St} {H : Hp} {te tl : TE} {K : PySem.W.Frag} {l : Addr} {rs : List (List Pt3)}
/-- rows of a list from rows of a list, each laid anew -/
theorem gv_rowsF (f : List Pt3 → List Pt3) (hl : Pu tl σ H (.ref l)) (ha : RgL H l rs) (hz : rs.length ≤ 1000)
    (hs : ∀ a r H', r ∈ rs → LP H' a r → Gv te [some (.ref a)] H' (fun v H'' => Same H' H'' ∧ ∃ p, v = .ref p ∧ H' p = none ∧ LP H'' p (f r))) :
    Gv (tComp (iList K tl) (fun _ => [none]) (gName 0) te) σ H (fun v H' => Same H H' ∧ ∃ D, v = .ref D ∧ H D = none ∧ RgL H' D (rs.map f)) := by
  obtain ⟨as, ha, pr⟩ := ha
  have hal := paired_len pr
  refine (gv_compLG (stays_row (rs.map f)) hl ha (by rw [List.length_map]; omega) (fun _ => KeepS.none1) ?_).imp ?_
  · intro i x H' hx s
    rw [List.getElem?_map] at hx
    cases hai : as[i]? with
    | none => rw [hai] at hx; cases hx
    | some a =>
      rw [hai] at hx
      have ex : V.ref a = x := Option.some.inj hx
      subst ex
      obtain ⟨r, hri, hlp⟩ := paired_get pr hai
      exact (hs a r H' (List.mem_of_getElem? hri) (hlp.same s)).imp fun v H'' ⟨s', p, e, n, h⟩ => ⟨s', p, e, n, f r, by rw [List.getElem?_map, hri]; rfl, h⟩
  · rintro _ H' ⟨s, D, ps, rfl, hD, hD', hpl, hps⟩
    rw [List.length_map] at hpl
    exact ⟨s, D, rfl, hD, ps, hD', paired_of (by rw [List.length_map]; omega) fun i p hp => (hps i p hp).1⟩
/-- [r[::-1] for r in rings] -/
theorem gv_revs (hl : Pu tl σ H (.ref l)) (ha : RgL H l rs) (hz : rs.length ≤ 1000) :
    Gv (tComp (iList K tl) (fun _ => [none]) (gName 0) (tSl3 (rSlR K) (tVar 0) tNoPart tNoPart (tPart (tUn (rU fun i => .int (-i)) (tC (.int 1)))))) σ H (fun v H' => Same H H' ∧ ∃ D, v = .ref D ∧ H D = none ∧ RgL H' D (rs.map List.reverse)) :=
  gv_rowsF List.reverse hl ha hz fun a r H' hr ⟨xs, h1, tx⟩ => (gv_slR (pu_v rfl) h1).imp fun v H'' ⟨p, hp, e1, e2⟩ => by
    subst e1 e2
    refine ⟨Same.upd hp, p, rfl, hp, _, upd_same, ?_⟩
    rw [List.map_reverse]
    exact (tx.mono fun _ _ x => x.same (Same.upd hp)).reverse
/-- [list(r) for r in rings] -/
theorem gv_lists (hl : Pu tl σ H (.ref l)) (ha : RgL H l rs) (hz : rs.length ≤ 1000) :
    Gv (tComp (iList K tl) (fun _ => [none]) (gName 0) (tCB (fun xs H Q => ∃ p ys, xs = [.ref p] ∧ (SqL K H p ys ∨ SqT K H p ys) ∧ ∀ l, H l = none → Q (.ref l) (upd H l (.lst ys))) (tCons (tVar 0) tNil))) σ H (fun v H' => Same H H' ∧ ∃ D, v = .ref D ∧ H D = none ∧ RgL H' D rs) :=
  (gv_rowsF id hl ha hz fun a r H' hr ⟨xs, h1, tx⟩ => fun Q f => (pa_c (pu_v rfl) pa_n : PuA (tCons (tVar 0) tNil) _ _ [.ref a]) _ ⟨a, xs, rfl, .inl (SqL.of h1), fun p hp => f _ _ ⟨Same.upd hp, p, rfl, hp, xs, upd_same, tx.mono fun _ _ x => x.same (Same.upd hp)⟩⟩).imp fun v H' ⟨s, D, e, n, h⟩ => ⟨s, D, e, n, by rw [List.map_id] at h; exact h⟩
theorem SdL.same {H H' : Hp} {l : Addr} {xs : List (Pt3 × Pt3)} (h : SdL H l xs) (s : Same H H') : SdL H' l xs := by
  obtain ⟨as, h1, h2⟩ := h
  exact ⟨as, s _ _ h1, paired_mono h2 fun _ _ x => x.same s⟩
end
end L2

set_option maxHeartbeats 4000000
namespace My
open PySem PySem.Spec PyProof.Rows L2
def top (i : Nat) : Stmt := PySem.Challenge.pw_plymap_k22_sides_and_rounds.main.body.getD i (.Pass ⟨0, 0, 0, 0⟩)
def s_is_left_of : Stmt := top 1
def s_line_through : Stmt := top 3
def s_turn_from : Stmt := top 4
def s_turn : Stmt := top 5
def s_sides_of : Stmt := top 7
def s_goes_under : Stmt := top 8
def s_rounds_about : Stmt := top 9
def s_l_hand : Stmt := top 11
def s_l_next : Stmt := top 12
def s_l_take : Stmt := top 13
def s_l_draw : Stmt := top 14
def s_l_divisor : Stmt := top 15
def s_l_point : Stmt := top 16
def s_l_middle : Stmt := top 17
def s_l_ahead : Stmt := top 18
def s_l_turn : Stmt := top 19
def s_l_on : Stmt := top 20
def s_l_under : Stmt := top 21
def s_l_rounds : Stmt := top 22
def s_l_spot : Stmt := top 23
def s_l_ring : Stmt := top 24
def s_l_frame : Stmt := top 25
def s_l_framed : Stmt := top 26
def s_l_whole : Stmt := top 27
def s_l_sides : Stmt := top 28
def s_l_asked : Stmt := top 29
def s_l_quarter : Stmt := top 30
def s_l_right : Stmt := top 31
def s_law : Stmt := top 32
structure Adr where
  f_is_left_of : Addr
  d_is_left_of : FuncData
  f_line_through : Addr
  d_line_through : FuncData
  f_turn_from : Addr
  d_turn_from : FuncData
  f_turn : Addr
  d_turn : FuncData
  f_sides_of : Addr
  d_sides_of : FuncData
  f_goes_under : Addr
  d_goes_under : FuncData
  f_rounds_about : Addr
  d_rounds_about : FuncData
  f_l_hand : Addr
  d_l_hand : FuncData
  f_l_next : Addr
  d_l_next : FuncData
  f_l_take : Addr
  d_l_take : FuncData
  f_l_draw : Addr
  d_l_draw : FuncData
  f_l_divisor : Addr
  d_l_divisor : FuncData
  f_l_point : Addr
  d_l_point : FuncData
  f_l_middle : Addr
  d_l_middle : FuncData
  f_l_ahead : Addr
  d_l_ahead : FuncData
  f_l_turn : Addr
  d_l_turn : FuncData
  f_l_on : Addr
  d_l_on : FuncData
  f_l_under : Addr
  d_l_under : FuncData
  f_l_rounds : Addr
  d_l_rounds : FuncData
  f_l_spot : Addr
  d_l_spot : FuncData
  f_l_ring : Addr
  d_l_ring : FuncData
  f_l_frame : Addr
  d_l_frame : FuncData
  f_l_framed : Addr
  d_l_framed : FuncData
  f_l_whole : Addr
  d_l_whole : FuncData
  f_l_sides : Addr
  d_l_sides : FuncData
  f_l_asked : Addr
  d_l_asked : FuncData
  f_l_quarter : Addr
  d_l_quarter : FuncData
  f_l_right : Addr
  d_l_right : FuncData
  f_law : Addr
  d_law : FuncData
structure Txt (K : PySem.W.Frag) (mg : Str → Option Value) (t : Adr) : Prop where
  is_left_of : Fn K mg "is_left_of" s_is_left_of t.f_is_left_of t.d_is_left_of ["p", "q"]
  line_through : Fn K mg "line_through" s_line_through t.f_line_through t.d_line_through ["p", "q"]
  turn_from : Fn K mg "turn_from" s_turn_from t.f_turn_from t.d_turn_from ["line", "r"]
  turn : Fn K mg "turn" s_turn t.f_turn t.d_turn ["p", "q", "r"]
  sides_of : Fn K mg "sides_of" s_sides_of t.f_sides_of t.d_sides_of ["rings"]
  goes_under : Fn K mg "goes_under" s_goes_under t.f_goes_under t.d_goes_under ["u", "v", "p"]
  rounds_about : Fn K mg "rounds_about" s_rounds_about t.f_rounds_about t.d_rounds_about ["rings", "p"]
  l_hand : Fn K mg "_law_hand" s_l_hand t.f_l_hand t.d_l_hand ["_law_script"]
  l_next : Fn K mg "_law_next" s_l_next t.f_l_next t.d_l_next ["_law_hand_here"]
  l_take : Fn K mg "_law_take" s_l_take t.f_l_take t.d_l_take ["_law_hand_here"]
  l_draw : Fn K mg "_law_draw" s_l_draw t.f_l_draw t.d_l_draw ["_law_hand_here", "_law_many"]
  l_divisor : Fn K mg "_law_divisor" s_l_divisor t.f_l_divisor t.d_l_divisor ["_law_one", "_law_other"]
  l_point : Fn K mg "_law_point" s_l_point t.f_l_point t.d_l_point ["_law_a", "_law_b", "_law_c"]
  l_middle : Fn K mg "_law_middle" s_l_middle t.f_l_middle t.d_l_middle ["_law_p", "_law_q"]
  l_ahead : Fn K mg "_law_ahead" s_l_ahead t.f_l_ahead t.d_l_ahead ["_law_p", "_law_q"]
  l_turn : Fn K mg "_law_turn" s_l_turn t.f_l_turn t.d_l_turn ["_law_p", "_law_q", "_law_r"]
  l_on : Fn K mg "_law_on" s_l_on t.f_l_on t.d_l_on ["_law_p", "_law_a", "_law_b"]
  l_under : Fn K mg "_law_under" s_l_under t.f_l_under t.d_l_under ["_law_u", "_law_v", "_law_p"]
  l_rounds : Fn K mg "_law_rounds" s_l_rounds t.f_l_rounds t.d_l_rounds ["_law_rings", "_law_p"]
  l_spot : Fn K mg "_law_spot" s_l_spot t.f_l_spot t.d_l_spot ["_law_hand_here", "_law_seen", "_law_wide"]
  l_ring : Fn K mg "_law_ring" s_l_ring t.f_l_ring t.d_l_ring ["_law_hand_here", "_law_seen", "_law_wide", "_law_many"]
  l_frame : Fn K mg "_law_frame" s_l_frame t.f_l_frame t.d_l_frame ["_law_hand_here"]
  l_framed : Fn K mg "_law_framed" s_l_framed t.f_l_framed t.d_l_framed ["_law_frame_here", "_law_p"]
  l_whole : Fn K mg "_law_whole" s_l_whole t.f_l_whole t.d_l_whole ["_law_thing"]
  l_sides : Fn K mg "_law_sides" s_l_sides t.f_l_sides t.d_l_sides ["_law_rings"]
  l_asked : Fn K mg "_law_asked" s_l_asked t.f_l_asked t.d_l_asked ["_law_hand_here", "_law_seen"]
  l_quarter : Fn K mg "_law_quarter" s_l_quarter t.f_l_quarter t.d_l_quarter ["_law_p"]
  l_right : Fn K mg "_law_right" s_l_right t.f_l_right t.d_l_right ["_law_rings", "_law_sides_here", "_law_p"]
  law : Fn K mg "law" s_law t.f_law t.d_law ["_law_script"]
  b_abs : mg "abs" = none
  b_bool : mg "bool" = none
  b_int : mg "int" = none
  b_isinstance : mg "isinstance" = none
  b_len : mg "len" = none
  b_list : mg "list" = none
  b_range : mg "range" = none
  b_sum : mg "sum" = none
  b_tuple : mg "tuple" = none
  b_zip : mg "zip" = none
section
variable {P : Program} {w : World} {K : PySem.W.Frag} {mg : Str → Option Value} {base : Heap} {t : Adr}
def sp_is_left_of : Sp := fun vs H Q _ => ∃ v w p q, vs = [v, w] ∧ AtP H v p ∧ AtP H w q ∧ Sz 4000 p ∧ Sz 4000 q ∧ Q (.bl (decide (p.x * q.z < q.x * p.z))) H
theorem sc_is_left_of : FnScope ["p", "q"] ["p", "q"] (defScope s_is_left_of) := ⟨rfl, rfl, rfl, by decide +kernel, rfl, by decide +kernel, by decide +kernel⟩
theorem ok_is_left_of (T : Txt K mg t) : FnOk P w K mg base CX0 1 t.f_is_left_of t.d_is_left_of ["p", "q"] sp_is_left_of := by
  refine T.is_left_of.F.ok (k := 0) sc_is_left_of (fun vs H Q E h => ?_) (fun cdv A outer s H vs Q E hr h => ?_)
  · obtain ⟨v, w, p, q, rfl, _⟩ := h
    rfl
  · obtain ⟨v, w, p, q, rfl, ⟨a, rfl, ha⟩, ⟨b, rfl, hb⟩, zp, zq, k⟩ := h
    refine ⟨_, (@pss_one _ _ _ (@ps_ret _ _ _ _ (@pe_cmpR _ _ _ _ _ _ _ _ op_lt (@pe_op _ _ _ _ _ _ _ _ op_mulB (@pe_ix _ _ _ _ _ _ _ ix_tup (pv 0) (@pe_int _ _ _ _) (fun _ _ => rfl)) (@pe_ix _ _ _ _ _ _ _ ix_tup (pv 1) (@pe_int _ _ _ _) (fun _ _ => rfl))) (@pe_op _ _ _ _ _ _ _ _ op_mulB (@pe_ix _ _ _ _ _ _ _ ix_tup (pv 1) (@pe_int _ _ _ _) (fun _ _ => rfl)) (@pe_ix _ _ _ _ _ _ _ ix_tup (pv 0) (@pe_int _ _ _ _) (fun _ _ => rfl))) (nomark _)))), ?_⟩
    exact st_ret (pu_lt (pu_mul (pu_ixT (pu_v rfl) pu_c (SqT.of (ha)) rfl) (pu_ixT (pu_v rfl) pu_c (SqT.of (hb)) rfl) (mulOk_of (zp.x) (zq.z) (by decide))) (pu_mul (pu_ixT (pu_v rfl) pu_c (SqT.of (hb)) rfl) (pu_ixT (pu_v rfl) pu_c (SqT.of (ha)) rfl) (mulOk_of (zq.x) (zp.z) (by decide)))) k
def sp_line_through : Sp := fun vs H Q _ => ∃ v w p q, vs = [v, w] ∧ AtP H v p ∧ AtP H w q ∧ Sz 4000 p ∧ Sz 4000 q ∧ ∀ r H', Same H H' → TupT H' r [p.y * q.z - p.z * q.y, p.z * q.x - p.x * q.z, p.x * q.y - p.y * q.x] → Q r H'
theorem bd_line {p q : Pt3} (zp : Sz 4000 p) (zq : Sz 4000 q) : Bd 8001 (p.y * q.z - p.z * q.y) ∧ Bd 8001 (p.z * q.x - p.x * q.z) ∧ Bd 8001 (p.x * q.y - p.y * q.x) :=
  ⟨(zp.y.mul zq.z).sub (zp.z.mul zq.y), (zp.z.mul zq.x).sub (zp.x.mul zq.z), (zp.x.mul zq.y).sub (zp.y.mul zq.x)⟩
theorem gv_line {σ : L2.St} {H : Hp} {t : TA} {v w : V} {p q : Pt3} (ha : PuA t σ H [v, w]) (h1 : AtP H v p) (h2 : AtP H w q) (zp : Sz 4000 p) (zq : Sz 4000 q) : Gv (tCall sp_line_through [] E0 t) σ H (fun r H' => Same H H' ∧ TupT H' r [p.y * q.z - p.z * q.y, p.z * q.x - p.x * q.z, p.x * q.y - p.y * q.x]) :=
  gv_call ha fun Q f => ⟨v, w, p, q, rfl, h1, h2, zp, zq, fun r H' s t => f _ _ ⟨s, t⟩⟩
theorem sc_line_through : FnScope ["p", "q"] ["p", "q"] (defScope s_line_through) := ⟨rfl, rfl, rfl, by decide +kernel, rfl, by decide +kernel, by decide +kernel⟩
theorem ok_line_through (T : Txt K mg t) : FnOk P w K mg base CX0 1 t.f_line_through t.d_line_through ["p", "q"] sp_line_through := by
  refine T.line_through.F.ok (k := 0) sc_line_through (fun vs H Q E h => ?_) (fun cdv A outer s H vs Q E hr h => ?_)
  · obtain ⟨v, w, p, q, rfl, _⟩ := h
    rfl
  · obtain ⟨v, w, p, q, rfl, ⟨a, rfl, ha⟩, ⟨b, rfl, hb⟩, zp, zq, k⟩ := h
    refine ⟨_, (@pss_one _ _ _ (@ps_ret _ _ _ _ (@pe_tup _ _ _ _ _ (@pa_cons _ _ _ _ _ (@pe_op _ _ _ _ _ _ _ _ op_sub (@pe_op _ _ _ _ _ _ _ _ op_mulB (@pe_ix _ _ _ _ _ _ _ ix_tup (pv 0) (@pe_int _ _ _ _) (fun _ _ => rfl)) (@pe_ix _ _ _ _ _ _ _ ix_tup (pv 1) (@pe_int _ _ _ _) (fun _ _ => rfl))) (@pe_op _ _ _ _ _ _ _ _ op_mulB (@pe_ix _ _ _ _ _ _ _ ix_tup (pv 0) (@pe_int _ _ _ _) (fun _ _ => rfl)) (@pe_ix _ _ _ _ _ _ _ ix_tup (pv 1) (@pe_int _ _ _ _) (fun _ _ => rfl)))) (@pa_cons _ _ _ _ _ (@pe_op _ _ _ _ _ _ _ _ op_sub (@pe_op _ _ _ _ _ _ _ _ op_mulB (@pe_ix _ _ _ _ _ _ _ ix_tup (pv 0) (@pe_int _ _ _ _) (fun _ _ => rfl)) (@pe_ix _ _ _ _ _ _ _ ix_tup (pv 1) (@pe_int _ _ _ _) (fun _ _ => rfl))) (@pe_op _ _ _ _ _ _ _ _ op_mulB (@pe_ix _ _ _ _ _ _ _ ix_tup (pv 0) (@pe_int _ _ _ _) (fun _ _ => rfl)) (@pe_ix _ _ _ _ _ _ _ ix_tup (pv 1) (@pe_int _ _ _ _) (fun _ _ => rfl)))) (@pa_cons _ _ _ _ _ (@pe_op _ _ _ _ _ _ _ _ op_sub (@pe_op _ _ _ _ _ _ _ _ op_mulB (@pe_ix _ _ _ _ _ _ _ ix_tup (pv 0) (@pe_int _ _ _ _) (fun _ _ => rfl)) (@pe_ix _ _ _ _ _ _ _ ix_tup (pv 1) (@pe_int _ _ _ _) (fun _ _ => rfl))) (@pe_op _ _ _ _ _ _ _ _ op_mulB (@pe_ix _ _ _ _ _ _ _ ix_tup (pv 0) (@pe_int _ _ _ _) (fun _ _ => rfl)) (@pe_ix _ _ _ _ _ _ _ ix_tup (pv 1) (@pe_int _ _ _ _) (fun _ _ => rfl)))) (@pa_nil _) star_bin) star_bin) star_bin)))), ?_⟩
    refine st_retG (gv_tup (pa_c (pu_sub (pu_mul (pu_ixT (pu_v rfl) pu_c (SqT.of (ha)) rfl) (pu_ixT (pu_v rfl) pu_c (SqT.of (hb)) rfl) (mulOk_of (zp.y) (zq.z) (by decide))) (pu_mul (pu_ixT (pu_v rfl) pu_c (SqT.of (ha)) rfl) (pu_ixT (pu_v rfl) pu_c (SqT.of (hb)) rfl) (mulOk_of (zp.z) (zq.y) (by decide)))) (pa_c (pu_sub (pu_mul (pu_ixT (pu_v rfl) pu_c (SqT.of (ha)) rfl) (pu_ixT (pu_v rfl) pu_c (SqT.of (hb)) rfl) (mulOk_of (zp.z) (zq.x) (by decide))) (pu_mul (pu_ixT (pu_v rfl) pu_c (SqT.of (ha)) rfl) (pu_ixT (pu_v rfl) pu_c (SqT.of (hb)) rfl) (mulOk_of (zp.x) (zq.z) (by decide)))) (pa_c (pu_sub (pu_mul (pu_ixT (pu_v rfl) pu_c (SqT.of (ha)) rfl) (pu_ixT (pu_v rfl) pu_c (SqT.of (hb)) rfl) (mulOk_of (zp.x) (zq.y) (by decide))) (pu_mul (pu_ixT (pu_v rfl) pu_c (SqT.of (ha)) rfl) (pu_ixT (pu_v rfl) pu_c (SqT.of (hb)) rfl) (mulOk_of (zp.y) (zq.x) (by decide)))) pa_n))) (by show 3 ≤ sizeLine; decide)) ?_
    rintro _ _ ⟨r, hr, rfl, rfl⟩
    exact k _ _ (Same.upd hr) (TupT.of upd_same)
def sp_turn_from : Sp := fun vs H Q _ => ∃ v w l0 l1 l2 r, vs = [v, w] ∧ TupT H v [l0, l1, l2] ∧ AtP H w r ∧ Bd 8001 l0 ∧ Bd 8001 l1 ∧ Bd 8001 l2 ∧ Sz 4000 r ∧ Q (.int (sgn (l0 * r.x + l1 * r.y + l2 * r.z))) H
theorem sc_turn_from : FnScope ["line", "r", "lean"] ["line", "r"] (defScope s_turn_from) := ⟨rfl, rfl, rfl, by decide +kernel, rfl, by decide +kernel, by decide +kernel⟩
theorem ok_turn_from (T : Txt K mg t) : FnOk P w K mg base CX0 1 t.f_turn_from t.d_turn_from ["line", "r"] sp_turn_from := by
  refine T.turn_from.F.ok (k := 0) sc_turn_from (fun vs H Q E h => ?_) (fun cdv A outer s H vs Q E hr h => ?_)
  · obtain ⟨v, w, l0, l1, l2, r, rfl, _⟩ := h
    rfl
  · obtain ⟨v, w, l0, l1, l2, r, rfl, ⟨a, rfl, ha⟩, ⟨b, rfl, hb⟩, b0, b1, b2, zr, k⟩ := h
    refine ⟨_, (@pss_cons _ _ _ _ _ (@ps_set _ _ 2 _ _ _ _ sc_turn_from.nd rfl (Or.inl rfl) (@pe_op _ _ _ _ _ _ _ _ op_add (@pe_op _ _ _ _ _ _ _ _ op_add (@pe_op _ _ _ _ _ _ _ _ op_mulB (@pe_ix _ _ _ _ _ _ _ ix_tup (pv 0) (@pe_int _ _ _ _) (fun _ _ => rfl)) (@pe_ix _ _ _ _ _ _ _ ix_tup (pv 1) (@pe_int _ _ _ _) (fun _ _ => rfl))) (@pe_op _ _ _ _ _ _ _ _ op_mulB (@pe_ix _ _ _ _ _ _ _ ix_tup (pv 0) (@pe_int _ _ _ _) (fun _ _ => rfl)) (@pe_ix _ _ _ _ _ _ _ ix_tup (pv 1) (@pe_int _ _ _ _) (fun _ _ => rfl)))) (@pe_op _ _ _ _ _ _ _ _ op_mulB (@pe_ix _ _ _ _ _ _ _ ix_tup (pv 0) (@pe_int _ _ _ _) (fun _ _ => rfl)) (@pe_ix _ _ _ _ _ _ _ ix_tup (pv 1) (@pe_int _ _ _ _) (fun _ _ => rfl)))) (by rfl) (by first | exact .inl rfl | exact .inr rfl | assumption)) (@pss_cons _ _ _ _ _ (@ps_if _ _ _ _ _ _ _ _ (@pt_cmpR _ _ _ _ _ _ _ _ op_gt (pv 2) (@pe_int _ _ _ _) (nomark _)) (@pss_one _ _ _ (@ps_ret _ _ _ _ (@pe_int _ _ _ _))) (@pss_nil _)) (@pss_cons _ _ _ _ _ (@ps_if _ _ _ _ _ _ _ _ (@pt_cmpR _ _ _ _ _ _ _ _ op_lt (pv 2) (@pe_int _ _ _ _) (nomark _)) (@pss_one _ _ _ (@ps_ret _ _ _ _ (@pe_un _ _ _ _ _ _ un_neg (@pe_int _ _ _ _)))) (@pss_nil _)) (@pss_one _ _ _ (@ps_ret _ _ _ _ (@pe_int _ _ _ _)))))), ?_⟩
    refine st_set (pu_add (pu_add (pu_mul (pu_ixT (pu_v rfl) pu_c (SqT.of (ha)) rfl) (pu_ixT (pu_v rfl) pu_c (SqT.of (hb)) rfl) (mulOk_of (b0) (zr.x) (by decide))) (pu_mul (pu_ixT (pu_v rfl) pu_c (SqT.of (ha)) rfl) (pu_ixT (pu_v rfl) pu_c (SqT.of (hb)) rfl) (mulOk_of (b1) (zr.y) (by decide)))) (pu_mul (pu_ixT (pu_v rfl) pu_c (SqT.of (ha)) rfl) (pu_ixT (pu_v rfl) pu_c (SqT.of (hb)) rfl) (mulOk_of (b2) (zr.z) (by decide)))) ?_
    refine st_ifN (pt_t (pu_gt (pu_v rfl) pu_c)) (fun e => st_ret pu_c ?_) (fun e => st_ifN (pt_t (pu_lt (pu_v rfl) pu_c)) (fun e2 => st_ret (pu_neg pu_c) ?_) (fun e2 => st_ret pu_c ?_))
    · have e' : 0 < l0 * r.x + l1 * r.y + l2 * r.z := by simpa using e
      rw [sgn, if_pos e'] at k
      exact k
    · have e' : ¬ 0 < l0 * r.x + l1 * r.y + l2 * r.z := of_decide_eq_false e
      have e2' : l0 * r.x + l1 * r.y + l2 * r.z < 0 := of_decide_eq_true e2
      rw [sgn, if_neg e', if_pos e2'] at k
      exact k
    · have e' : ¬ 0 < l0 * r.x + l1 * r.y + l2 * r.z := of_decide_eq_false e
      have e2' : ¬ l0 * r.x + l1 * r.y + l2 * r.z < 0 := of_decide_eq_false e2
      rw [sgn, if_neg e', if_neg e2'] at k
      exact k
def sp_turn : Sp := fun vs H Q _ => ∃ v w u p q r, vs = [v, w, u] ∧ AtP H v p ∧ AtP H w q ∧ AtP H u r ∧ Sz 4000 p ∧ Sz 4000 q ∧ Sz 4000 r ∧ ∀ H', Same H H' → Q (.int (sgn (det p q r))) H'
theorem sc_turn : FnScope ["p", "q", "r"] ["p", "q", "r"] (defScope s_turn) := ⟨rfl, rfl, rfl, by decide +kernel, rfl, by decide +kernel, by decide +kernel⟩
theorem ok_turn (T : Txt K mg t) : FnOk P w K mg base CX0 2 t.f_turn t.d_turn ["p", "q", "r"] sp_turn := by
  refine T.turn.F.ok (k := 1) sc_turn (fun vs H Q E h => ?_) (fun cdv A outer s H vs Q E hr h => ?_)
  · obtain ⟨v, w, u, p, q, r, rfl, _⟩ := h
    rfl
  · obtain ⟨v, w, u, p, q, r, rfl, hp, hq, hr', zp, zq, zr, k⟩ := h
    refine ⟨_, (@pss_one _ _ _ (@ps_ret _ _ _ _ (@pe_fn _ _ _ _ _ _ _ _ _ _ _ _ _ _ T.turn_from (ok_turn_from T) hr (by decide) (@pa_cons _ _ _ _ _ (@pe_fn _ _ _ _ _ _ _ _ _ _ _ _ _ _ T.line_through (ok_line_through T) hr (by decide) (@pa_cons _ _ _ _ _ (pv 0) (@pa_cons _ _ _ _ _ (pv 1) (@pa_nil _) star_name) star_name) (by rfl) (by decide) (by rfl) (by rfl)) (@pa_cons _ _ _ _ _ (pv 2) (@pa_nil _) star_name) star_call) (by rfl) (by decide) (by rfl) (by rfl)))), ?_⟩
    refine st_retG (R := fun v H' => v = .int (sgn (det p q r)) ∧ Same H H') (gv_callA (ga_cons (gv_line (pa_c (pu_v rfl) (pa_c (pu_v rfl) pa_n)) hp hq zp zq) fun x H1 r1 => ga_cons (pu_v rfl).gv fun _ _ _ => ga_nil) ?_) ?_
    · rintro vs H2 ⟨x, H1, r', rfl, ⟨s1, t1⟩, y, H3, r2, rfl, ⟨rfl, rfl⟩, rfl, rfl⟩ Q f
      obtain ⟨b0, b1, b2⟩ := bd_line zp zq
      exact ⟨x, _, _, _, _, r, rfl, t1, TupT.same hr' s1, b0, b1, b2, zr, f _ _ ⟨rfl, s1⟩⟩
    · rintro _ H' ⟨rfl, s⟩
      exact k _ s
def sp_sides_of : Sp := fun vs H Q _ => ∃ l rs, vs = [.ref l] ∧ RgL H l rs ∧ rs.length ≤ 10 ∧ (∀ r ∈ rs, 1 ≤ r.length ∧ r.length ≤ 20) ∧ ∀ s H', H s = none → Same H H' → SdL H' s (rs.flatMap cyc) → Q (.ref s) H'
theorem sc_sides_of : FnScope ["rings", "sides", "ring"] ["rings"] (defScope s_sides_of) := ⟨rfl, rfl, rfl, by decide +kernel, rfl, by decide +kernel, by decide +kernel⟩
theorem ok_sides_of (T : Txt K mg t) : FnOk P w K mg base CX0 1 t.f_sides_of t.d_sides_of ["rings"] sp_sides_of := by
  refine T.sides_of.F.ok (k := 0) sc_sides_of (fun vs H Q E h => ?_) (fun cdv A outer s H vs Q E hr h => ?_)
  · obtain ⟨l, rs, rfl, _⟩ := h
    rfl
  · obtain ⟨l, rs, rfl, ⟨as, hl, pr⟩, hn, hr20, k⟩ := h
    refine ⟨_, (@pss_cons _ _ _ _ _ (@ps_set _ _ 1 _ _ _ _ sc_sides_of.nd rfl (Or.inl rfl) (@pe_lst _ _ _ _ (@pa_nil _)) (by rfl) (by first | exact .inl rfl | exact .inr rfl | assumption)) (@pss_cons _ _ _ _ _ (@ps_for _ _ _ _ _ _ _ _ PassesOwn.never rfl (@pi_list _ _ _ _ (pv 0)) (@pg_name _ _ 2 _ sc_sides_of.nd rfl (Or.inl rfl) (by first | exact .inl rfl | exact .inr rfl | assumption)) (@pss_one _ _ _ (@ps_expr _ _ _ _ (@pe_bm _ _ _ _ _ _ _ _ _ _ _ _ PySem.F.plainAttrs_list PySem.F.slot_list_extend PySem.F.type_list_extend mt_extend (pv 1) (@pa_cons _ _ _ _ _ (@pe_lcomp _ _ _ _ _ [] _ (["p", "q"]) _ (fun _ => [none, none]) _ _ rfl (@pi_zipLL _ _ _ _ _ _ _ _ _ rfl T.b_zip PyProof.Rows.Boot.«zip» (@pa_cons _ _ _ _ _ (pv 2) (@pa_cons _ _ _ _ _ (@pe_op _ _ _ _ _ _ _ _ op_cat (@pe_slice _ _ _ _ _ _ _ _ _ _ sl_list (pv 2) (@po_some _ _ _ (@pe_int _ _ _ _)) (@po_none _)) (@pe_slice _ _ _ _ _ _ _ _ _ _ sl_list (pv 2) (@po_none _) (@po_some _ _ _ (@pe_int _ _ _ _)))) (@pa_nil _) star_bin) star_name) (by rfl) (by rfl)) (fun _ _ _ _ => pg_tupK (K := K) (n := 2) rfl rfl (@pgs_cons _ _ _ _ _ (@pg_name _ _ 0 _ (show (["p", "q"] : List Str).Nodup from by decide +kernel) rfl (Or.inl rfl) (.inr rfl)) (@pgs_cons _ _ _ _ _ (@pg_name _ _ 1 _ (show (["p", "q"] : List Str).Nodup from by decide +kernel) rfl (Or.inl rfl) (.inr rfl)) (@pgs_nil _) (by rfl)) (by rfl)) rfl rfl) (fun _ _ _ _ => (@pe_tup _ _ _ _ _ (@pa_cons _ _ _ _ _ (pv 0) (@pa_cons _ _ _ _ _ (pv 1) (@pa_nil _) star_name) star_name))) (closureFor_none (by decide +kernel)) rfl (by decide +kernel) (by decide +kernel) (fun _ _ h => by cases h) (noCells (by rfl)) (fun _ _ => rfl) (fun _ i _ _ _ h => by rcases i with _ | _ | _ | i <;> simp at h) (by intro _; rfl)) (@pa_nil _) star_lc) (by rfl) (by rfl) (by rfl) (by rfl) (by rfl)) (by rfl))) (by intro _; rfl)) (@pss_one _ _ _ (@ps_ret _ _ _ _ (pv 1))))), ?_⟩
    have hal : as.length = rs.length := paired_len pr
    have lens : ∀ (ls : List (List Pt3)), (∀ r ∈ ls, r.length ≤ 20) → (ls.flatMap cyc).length ≤ 20 * ls.length := fun ls => by
      induction ls with
      | nil => simp
      | cons a ls ih =>
        intro h
        have h1 := h a (by simp)
        have h2 := ih fun r hr => h r (List.mem_cons_of_mem _ hr)
        have h3 : (cyc a).length ≤ 20 := by
          unfold cyc
          rw [List.length_zip]
          omega
        rw [List.flatMap_cons, List.length_append, List.length_cons]
        omega
    refine st_setG (gv_lst pa_n (by show 0 ≤ sizeLine; decide)) ?_
    rintro _ _ ⟨sl, hs0, rfl, rfl⟩
    refine st_list (K := K) (xs := as.map V.ref) (pu_v rfl) (fun i σ H' => ∃ z : Option V, σ = [some (.ref l), some (.ref sl), z] ∧ Same H H' ∧ SdL H' sl ((rs.take i).flatMap cyc)) ⟨none, rfl, Same.upd hs0, [], upd_same, .nil⟩ (fun i σ H' _ ⟨_, _, s, _⟩ => SqL.of (s _ _ hl)) ?_ ?_
    · rintro i x σ H2 hx ⟨z, rfl, s, bs, hb, pb⟩
      rw [List.getElem?_map] at hx
      cases hai : as[i]? with
      | none => rw [hai] at hx; cases hx
      | some a =>
        rw [hai] at hx
        have ex : V.ref a = x := Option.some.inj hx
        subst ex
        obtain ⟨r, hri, hlp⟩ := paired_get pr hai
        obtain ⟨ws, hw, tw⟩ := hlp.same s
        have hil : i < rs.length := (List.getElem?_eq_some_iff.mp hri).1
        obtain ⟨r1, r2⟩ := hr20 r (List.mem_of_getElem? hri)
        have hwl : ws.length = r.length := by rw [tw.len, List.length_map]
        have hbl : bs.length = ((rs.take i).flatMap cyc).length := paired_len pb
        have hbb := lens (rs.take i) fun r hr => (hr20 r (List.mem_of_mem_take hr)).2
        rw [List.length_take] at hbb
        have na : sl ≠ a := fun e => by
          subst e
          obtain ⟨_, h1, _⟩ := hlp
          rw [hs0] at h1
          cases h1
        refine st_extG1 (pu_v rfl) hb (gv_compZ2 (xs := ws) (ys := ws.drop 1 ++ ws.take 1) (stays_side (cyc r)) (ga_cons (Pu.gv (v := .ref a) (pu_v rfl)) fun u1 H3 e3 => ga_cons (R1 := fun v H' => Same H2 H' ∧ ∃ p, v = .ref p ∧ H2 p = none ∧ H' p = some (.lst (ws.drop 1 ++ ws.take 1))) ?_ fun _ _ _ => ga_nil) ?_ (by omega) ?_) ?_
        · obtain ⟨rfl, rfl⟩ := e3
          exact gv_rot (fun _ => pu_v rfl) hw (by omega) (by omega)
        · rintro vs H4 ⟨_, _, r', rfl, ⟨rfl, rfl⟩, _, H5, r2', rfl, ⟨s5, p, rfl, hp, hp5⟩, rfl, rfl⟩
          exact ⟨a, p, rfl, s5, s5 _ _ hw, hp5⟩
        · intro j x y H3 hx hy s3
          obtain ⟨nx, hnx, tx⟩ := tw.get' hx
          have tw2 : TupsT H2 (ws.drop 1 ++ ws.take 1) ((r.drop 1 ++ r.take 1).map L3) := by
            rw [List.map_append, List.map_drop, List.map_take]
            exact TupsT.app (tw.drop 1) (tw.take 1)
          obtain ⟨ny, hny, ty⟩ := tw2.get' hy
          rw [List.getElem?_map] at hnx hny
          cases hpx : r[j]? with
          | none => rw [hpx] at hnx; cases hnx
          | some px =>
          cases hpy : (r.drop 1 ++ r.take 1)[j]? with
          | none => rw [hpy] at hny; cases hny
          | some py =>
            rw [hpx] at hnx
            rw [hpy] at hny
            have e1 : nx = L3 px := (Option.some.inj hnx).symm
            have e2 : ny = L3 py := (Option.some.inj hny).symm
            subst e1 e2
            refine (gv_tup (pa_c (pu_v rfl) (pa_c (pu_v rfl) pa_n)) len2).imp ?_
            rintro v H'' ⟨p, hp, rfl, rfl⟩
            refine ⟨Same.upd hp, p, rfl, hp, (px, py), ?_, x, y, upd_same, TupT.same (TupT.same tx s3) (Same.upd hp), TupT.same (TupT.same ty s3) (Same.upd hp)⟩
            unfold cyc
            rw [List.getElem?_zip_eq_some]
            exact ⟨hpx, hpy⟩
        · rintro _ H3 ⟨s3, D, ps, rfl, hD, hD3, hpl, hps⟩
          have hb3 := s3 _ _ hb
          have hcl : (cyc r).length = min ws.length (ws.drop 1 ++ ws.take 1).length := by
            unfold cyc
            rw [List.length_zip, hwl]
            simp only [List.length_append, List.length_drop, List.length_take, hwl]
          have pn : Paired (SdAt H3) ps (cyc r) := paired_of (by omega) fun j p hp => (hps j p hp).1
          refine ⟨D, bs.map V.ref, ps.map V.ref, rfl, hb3, hD3, ?_, _, rfl, same_updNew (s.trans s3) hs0, bs ++ ps, by rw [upd_same, List.map_append], ?_⟩
          · rw [List.length_map, List.length_map, hpl]
            refine Nat.le_of_lt (small1000 ?_)
            simp only [List.length_append, List.length_drop, List.length_take]
            omega
          · rw [List.take_succ, hri]
            simp only [Option.toList_some, List.flatMap_append, List.flatMap_cons, List.flatMap_nil, List.append_nil]
            exact paired_app (paired_mono pb fun _ _ x => (x.same s3).but hb3 SameB.upd) (paired_mono pn fun _ _ x => x.but hb3 SameB.upd)
    · rintro σ H' ⟨z, rfl, s, sd⟩
      rw [List.length_map, hal, List.take_length] at sd
      exact st_ret (pu_v rfl) (k sl _ hs0 s sd)
def sp_goes_under : Sp := fun vs H Q _ => ∃ a b c u v p, vs = [a, b, c] ∧ AtP H a u ∧ AtP H b v ∧ AtP H c p ∧ Sz 4000 u ∧ Sz 4000 v ∧ Sz 4000 p ∧ ∀ H', Same H H' → Q (.int (undr u v p)) H'
theorem sgn_1 {d : Int} : sgn d = 1 ↔ 0 < d := by
  unfold sgn
  (repeat' split) <;> omega
theorem sgn_m1 {d : Int} : sgn d = -1 ↔ d < 0 := by
  unfold sgn
  (repeat' split) <;> omega
theorem sc_goes_under : FnScope ["u", "v", "p"] ["u", "v", "p"] (defScope s_goes_under) := ⟨rfl, rfl, rfl, by decide +kernel, rfl, by decide +kernel, by decide +kernel⟩
theorem ok_goes_under (T : Txt K mg t) : FnOk P w K mg base CX0 3 t.f_goes_under t.d_goes_under ["u", "v", "p"] sp_goes_under := by
  refine T.goes_under.F.ok (k := 2) sc_goes_under (fun vs H Q E h => ?_) (fun cdv A outer s H vs Q E hr h => ?_)
  · obtain ⟨a, b, c, u, v, p, rfl, _⟩ := h
    rfl
  · obtain ⟨a, b, c, u, v, p, rfl, ta, tb, tc, zu, zv, zp, k⟩ := h
    refine ⟨_, (@pss_cons _ _ _ _ _ (@ps_if _ _ _ _ _ _ _ _ (PW.pt (@pw_and _ _ _ _ _ _ _ (@pt_not _ _ _ _ (@pt_val _ _ _ (@pe_fn _ _ _ _ _ _ _ _ _ _ _ _ _ _ T.is_left_of (ok_is_left_of T) hr (by decide) (@pa_cons _ _ _ _ _ (pv 2) (@pa_cons _ _ _ _ _ (pv 0) (@pa_nil _) star_name) star_name) (by rfl) (by decide) (by rfl) (by rfl)) (by intro _; rfl))) (@pw_and1 _ _ _ _ (@pt_val _ _ _ (@pe_fn _ _ _ _ _ _ _ _ _ _ _ _ _ _ T.is_left_of (ok_is_left_of T) hr (by decide) (@pa_cons _ _ _ _ _ (pv 2) (@pa_cons _ _ _ _ _ (pv 1) (@pa_nil _) star_name) star_name) (by rfl) (by decide) (by rfl) (by rfl)) (by intro _; rfl))))) (@pss_one _ _ _ (@ps_ret _ _ _ _ (@pe_ifExp _ _ _ _ _ _ _ _ (@pt_cmpR _ _ _ _ _ _ _ _ op_eq (@pe_fn _ _ _ _ _ _ _ _ _ _ _ _ _ _ T.turn (ok_turn T) hr (by decide) (@pa_cons _ _ _ _ _ (pv 0) (@pa_cons _ _ _ _ _ (pv 1) (@pa_cons _ _ _ _ _ (pv 2) (@pa_nil _) star_name) star_name) star_name) (by rfl) (by decide) (by rfl) (by rfl)) (@pe_int _ _ _ _) (nomark _)) (@pe_int _ _ _ _) (@pe_int _ _ _ _)))) (@pss_nil _)) (@pss_cons _ _ _ _ _ (@ps_if _ _ _ _ _ _ _ _ (PW.pt (@pw_and _ _ _ _ _ _ _ (@pt_not _ _ _ _ (@pt_val _ _ _ (@pe_fn _ _ _ _ _ _ _ _ _ _ _ _ _ _ T.is_left_of (ok_is_left_of T) hr (by decide) (@pa_cons _ _ _ _ _ (pv 2) (@pa_cons _ _ _ _ _ (pv 1) (@pa_nil _) star_name) star_name) (by rfl) (by decide) (by rfl) (by rfl)) (by intro _; rfl))) (@pw_and1 _ _ _ _ (@pt_val _ _ _ (@pe_fn _ _ _ _ _ _ _ _ _ _ _ _ _ _ T.is_left_of (ok_is_left_of T) hr (by decide) (@pa_cons _ _ _ _ _ (pv 2) (@pa_cons _ _ _ _ _ (pv 0) (@pa_nil _) star_name) star_name) (by rfl) (by decide) (by rfl) (by rfl)) (by intro _; rfl))))) (@pss_one _ _ _ (@ps_ret _ _ _ _ (@pe_ifExp _ _ _ _ _ _ _ _ (@pt_cmpR _ _ _ _ _ _ _ _ op_eq (@pe_fn _ _ _ _ _ _ _ _ _ _ _ _ _ _ T.turn (ok_turn T) hr (by decide) (@pa_cons _ _ _ _ _ (pv 0) (@pa_cons _ _ _ _ _ (pv 1) (@pa_cons _ _ _ _ _ (pv 2) (@pa_nil _) star_name) star_name) star_name) (by rfl) (by decide) (by rfl) (by rfl)) (@pe_un _ _ _ _ _ _ un_neg (@pe_int _ _ _ _)) (nomark _)) (@pe_un _ _ _ _ _ _ un_neg (@pe_int _ _ _ _)) (@pe_int _ _ _ _)))) (@pss_nil _)) (@pss_one _ _ _ (@ps_ret _ _ _ _ (@pe_int _ _ _ _))))), ?_⟩
    have L : ∀ {σ : L2.St} {t : TA} {x y : V} {q r : Pt3}, AtP H x q → AtP H y r → Sz 4000 q → Sz 4000 r → PuA t σ H [x, y] → Pu (tCall sp_is_left_of [] E0 t) σ H (.bl (decide (q.x * r.z < r.x * q.z))) := fun {σ t x y q r} h1 h2 z1 z2 ha => pu_call ha fun Q f => ⟨x, y, q, r, rfl, h1, h2, z1, z2, f⟩
    have A2 : ∀ {σ : L2.St} {i j : Nat} {x y : V}, σ[i]? = some (some x) → σ[j]? = some (some y) → PuA (tCons (tVar i) (tCons (tVar j) tNil)) σ H [x, y] := fun h1 h2 => pa_c (pu_v h1) (pa_c (pu_v h2) pa_n)
    have TN : ∀ {σ : L2.St}, σ[0]? = some (some a) → σ[1]? = some (some b) → σ[2]? = some (some c) → Gv (tCall sp_turn [] E0 (tCons (tVar 0) (tCons (tVar 1) (tCons (tVar 2) tNil)))) σ H (fun w H' => Same H H' ∧ w = .int (sgn (det u v p))) := fun h0 h1 h2 => gv_call (pa_c (pu_v h0) (pa_c (pu_v h1) (pa_c (pu_v h2) pa_n))) fun Q f => ⟨a, b, c, u, v, p, rfl, ta, tb, tc, zu, zv, zp, fun H' s => f _ _ ⟨s, rfl⟩⟩
    refine st_ifN (pt_and (pt_n (pt_b (L tc ta zp zu (A2 rfl rfl)))) fun _ => pt_b (L tc tb zp zv (A2 rfl rfl))) (fun e => ?_) fun e => ?_
    · rw [Bool.and_eq_true, Bool.not_eq_true', decide_eq_false_iff_not, decide_eq_true_eq] at e
      have c1 : u.x * p.z - p.x * u.z ≤ 0 ∧ 0 < v.x * p.z - p.x * v.z := by omega
      refine st_retG (R := fun w H' => Same H H' ∧ w = .int (undr u v p)) (gv_ifEG (RB := fun t H' => Same H H' ∧ t = decide (sgn (det u v p) = 1)) (fun Q q => TN rfl rfl rfl _ fun w H' ⟨s, e⟩ => by subst e; exact pu_c _ ⟨rfl, _, rfl, q _ _ ⟨s, by rw [dec_int, Bool.beq_eq_decide_eq]⟩⟩) (fun H' r => pu_c.gv' ⟨r.1, ?_⟩) (fun H' r => pu_c.gv' ⟨r.1, ?_⟩)) ?_
      · have := sgn_1.mp (of_decide_eq_true r.2.symm)
        rw [undr, und, if_pos c1, if_pos this]
      · have := mt sgn_1.mpr (of_decide_eq_false r.2.symm)
        rw [undr, und, if_pos c1, if_neg this]
      · rintro _ H' ⟨s, rfl⟩
        exact k _ s
    have n1 : ¬ (u.x * p.z - p.x * u.z ≤ 0 ∧ 0 < v.x * p.z - p.x * v.z) := fun z => by
      have : (!decide (p.x * u.z < u.x * p.z) && decide (p.x * v.z < v.x * p.z)) = true := by
        rw [Bool.and_eq_true, Bool.not_eq_true', decide_eq_false_iff_not, decide_eq_true_eq]
        omega
      rw [e] at this
      cases this
    refine st_ifN (pt_and (pt_n (pt_b (L tc tb zp zv (A2 rfl rfl)))) fun _ => pt_b (L tc ta zp zu (A2 rfl rfl))) (fun e => ?_) fun e => ?_
    · rw [Bool.and_eq_true, Bool.not_eq_true', decide_eq_false_iff_not, decide_eq_true_eq] at e
      have c1 : v.x * p.z - p.x * v.z ≤ 0 ∧ 0 < u.x * p.z - p.x * u.z := by omega
      refine st_retG (R := fun w H' => Same H H' ∧ w = .int (undr u v p)) (gv_ifEG (RB := fun t H' => Same H H' ∧ t = decide (sgn (det u v p) = -1)) (fun Q q => TN rfl rfl rfl _ fun w H' ⟨s, e⟩ => by subst e; exact pu_neg pu_c _ ⟨rfl, _, rfl, q _ _ ⟨s, by rw [dec_int, Bool.beq_eq_decide_eq]⟩⟩) (fun H' r => (pu_neg pu_c).gv' ⟨r.1, ?_⟩) (fun H' r => pu_c.gv' ⟨r.1, ?_⟩)) ?_
      · have := sgn_m1.mp (of_decide_eq_true r.2.symm)
        rw [undr, und, if_neg n1, if_pos c1, if_pos this]
      · have := mt sgn_m1.mpr (of_decide_eq_false r.2.symm)
        rw [undr, und, if_neg n1, if_pos c1, if_neg this]
      · rintro _ H' ⟨s, rfl⟩
        exact k _ s
    have n2 : ¬ (v.x * p.z - p.x * v.z ≤ 0 ∧ 0 < u.x * p.z - p.x * u.z) := fun z => by
      have : (!decide (p.x * v.z < v.x * p.z) && decide (p.x * u.z < u.x * p.z)) = true := by
        rw [Bool.and_eq_true, Bool.not_eq_true', decide_eq_false_iff_not, decide_eq_true_eq]
        omega
      rw [e] at this
      cases this
    refine st_ret pu_c ?_
    have := k H Same.rfl'
    rw [undr, und, if_neg n1, if_neg n2] at this
    exact this
def sp_rounds_about : Sp := fun vs H Q _ => ∃ l rs v p, vs = [.ref l, v] ∧ RgL H l rs ∧ AtP H v p ∧ Sz 4000 p ∧ rs.length ≤ 10 ∧ (∀ r ∈ rs, 1 ≤ r.length ∧ r.length ≤ 20) ∧ (∀ r ∈ rs, ∀ q ∈ r, Sz 4000 q) ∧ ∀ H', Same H H' → Q (.int (rnd rs p)) H'
theorem rnd_flat (p : Pt3) : ∀ (rs : List (List Pt3)), ((rs.flatMap cyc).map fun x => undr x.1 x.2 p).sum = rnd rs p
  | [] => rfl
  | r :: rs => by
    rw [List.flatMap_cons, List.map_append, List.sum_append, rnd_flat p rs, cyc_sum (fun u v => undr u v p)]
    simp only [rnd, List.map_cons, List.sum_cons, rnd1]
theorem flat_len : ∀ (ls : List (List Pt3)), (∀ r ∈ ls, r.length ≤ 20) → (ls.flatMap cyc).length ≤ 20 * ls.length := fun ls => by
  induction ls with
  | nil => simp
  | cons a ls ih =>
    intro h
    have h1 := h a (by simp)
    have h2 := ih fun r hr => h r (List.mem_cons_of_mem _ hr)
    have h3 : (cyc a).length ≤ 20 := by
      unfold cyc
      rw [List.length_zip]
      omega
    rw [List.flatMap_cons, List.length_append, List.length_cons]
    omega
theorem sc_rounds_about : FnScope ["rings", "p"] ["rings", "p"] (defScope s_rounds_about) := ⟨rfl, rfl, rfl, by decide +kernel, rfl, by decide +kernel, by decide +kernel⟩
theorem ok_rounds_about (T : Txt K mg t) : FnOk P w K mg base CX0 4 t.f_rounds_about t.d_rounds_about ["rings", "p"] sp_rounds_about := by
  refine T.rounds_about.F.ok (k := 3) sc_rounds_about (fun vs H Q E h => ?_) (fun cdv A outer s H vs Q E hr h => ?_)
  · obtain ⟨l, rs, v, p, rfl, _⟩ := h
    rfl
  · obtain ⟨l, rs, v, p, rfl, hrg, tv, zp, hn, h20, hsz, k⟩ := h
    refine ⟨_, (@pss_one _ _ _ (@ps_ret _ _ _ _ (@pe_callB _ _ _ _ _ _ _ _ _ (call_sumI rfl) (by rfl) T.b_sum PyProof.Rows.boot_sum (@pa_cons _ _ _ _ _ (@pe_lcompC2 _ "u" "v" "p" _ _ _ _ _ _ _ _ _ 1 rfl (@pi_list _ _ _ _ (@pe_fn _ _ _ _ _ _ _ _ _ _ _ _ _ _ T.sides_of (ok_sides_of T) hr (by decide) (@pa_cons _ _ _ _ _ (pv 0) (@pa_nil _) star_name) (by rfl) (by decide) (by rfl) (by rfl))) (fun _ _ _ _ => pg_tupK (K := K) (n := 2) rfl rfl (@pgs_cons _ _ _ _ _ (@pg_name _ _ 0 _ (show (["u", "v", "p"] : List Str).Nodup from by decide +kernel) rfl (Or.inl rfl) (.inr rfl)) (@pgs_cons _ _ _ _ _ (@pg_name _ _ 1 _ (show (["u", "v", "p"] : List Str).Nodup from by decide +kernel) rfl (Or.inl rfl) (.inr rfl)) (@pgs_nil _) (by rfl)) (by rfl)) rfl rfl) (fun _ _ _ _ => (@pe_fn _ _ _ _ _ _ _ _ _ _ _ _ _ _ T.goes_under (ok_goes_under T) hr (by decide) (@pa_cons _ _ _ _ _ (pv 0) (@pa_cons _ _ _ _ _ (pv 1) (@pa_cons _ _ _ _ _ (pv 2) (@pa_nil _) star_name) star_name) star_name) (by rfl) (by decide) (by rfl) (by rfl))) rfl rfl (by decide +kernel) (by decide +kernel) rfl rfl rfl rfl rfl (by intro _; rfl)) (@pa_nil _) star_lc) (by decide) (by decide) (by rfl) (by rfl)))), ?_⟩
    have hfl := flat_len rs fun r hr => (h20 r hr).2
    refine st_retG (R := fun w H' => Same H H' ∧ w = .int (rnd rs p)) (gv_cb1 (gv_compPI (f := some v) (xs := rs.flatMap cyc) (fun x => undr x.1 x.2 p) rfl (gv_call (R := fun w H' => ∃ s, w = .ref s ∧ Same H H' ∧ SdL H' s (rs.flatMap cyc)) (pa_c (pu_v rfl) pa_n) fun Q f => ⟨l, rs, rfl, hrg, hn, h20, fun s H' _ s' sd => f _ _ ⟨s, rfl, s', sd⟩⟩) (fun w H1 r => r) (by omega) ?_) ?_) ?_
    · intro a b x H' hx s ta tb
      obtain ⟨r, hr, hxr⟩ := List.mem_flatMap.mp hx
      obtain ⟨m1, m2⟩ := cyc_mem hxr
      exact gv_call (pa_c (pu_v rfl) (pa_c (pu_v rfl) (pa_c (pu_v rfl) pa_n))) fun Q f => ⟨a, b, v, x.1, x.2, p, rfl, ta, tb, TupT.same tv s, hsz r hr _ m1, hsz r hr _ m2, zp, fun H'' s' => f _ _ ⟨s', rfl⟩⟩
    · rintro _ H' ⟨s, D, rfl, hD, hD'⟩ Q f
      refine ⟨D, _, rfl, hD', fun m hm => ?_, by rw [List.length_map]; omega, f _ _ ⟨s, by rw [rnd_flat]⟩⟩
      obtain ⟨x, _, rfl⟩ := List.mem_map.mp hm
      exact undr_small _ _ _
    · rintro _ H' ⟨s, rfl⟩
      exact k _ s
def sp_l_hand (K : PySem.W.Frag) : Sp := fun vs H Q _ => ∃ (a : Addr) (ns : List Int), vs = [.ref a] ∧ SqL K H a (ns.map V.int) ∧ ∀ hd sc H', Same H H' → H hd = none → HandAt H' hd sc → Q (.ref hd) H'
theorem sc_l_hand : FnScope ["_law_script"] ["_law_script"] (defScope s_l_hand) := ⟨rfl, rfl, rfl, by decide +kernel, rfl, by decide +kernel, by decide +kernel⟩
theorem ok_l_hand (T : Txt K mg t) : FnOk P w K mg base CX0 1 t.f_l_hand t.d_l_hand ["_law_script"] (sp_l_hand K) := by
  refine T.l_hand.F.ok (k := 0) sc_l_hand (fun vs H Q E h => ?_) (fun cdv A outer s H vs Q E hr h => ?_)
  · obtain ⟨a, ns, rfl, _⟩ := h
    rfl
  · obtain ⟨a, ns, rfl, hS, k⟩ := h
    refine ⟨_, (@pss_one _ _ _ (@ps_ret _ _ _ _ (@pe_lst _ _ _ _ (@pa_cons _ _ _ _ _ (@pe_callTy _ _ _ _ _ _ _ _ _ call_list_of (by rfl) T.b_list PyProof.Rows.boot_list (@pa_cons _ _ _ _ _ (@pe_slice _ _ _ _ _ _ _ _ _ _ sl_list (pv 0) (@po_none _) (@po_some _ _ _ (@pe_int _ _ _ _))) (@pa_nil _) star_sub) (by decide) (by decide) (by rfl) (by rfl)) (@pa_cons _ _ _ _ _ (@pe_int _ _ _ _) (@pa_cons _ _ _ _ _ (@pe_int _ _ _ _) (@pa_cons _ _ _ _ _ (@pe_int _ _ _ _) (@pa_cons _ _ _ _ _ (@pe_int _ _ _ _) (@pa_cons _ _ _ _ _ (@pe_int _ _ _ _) (@pa_nil _) star_con) star_con) star_con) star_con) star_con) star_call)))), ?_⟩
    refine ⟨_, rfl, 63, rfl, a, _, rfl, hS, fun p hp => ?_⟩
    refine ⟨p, _, rfl, .inl (SqL.of upd_same), fun l hl => ⟨by show 6 ≤ sizeLine; decide, fun hd hh => ?_⟩⟩
    have s1 : Same H (upd H p (.lst (cutV (ns.map V.int) none (some 63)))) := Same.upd hp
    have s2 : Same (upd H p (.lst (cutV (ns.map V.int) none (some 63)))) _ := Same.upd (o := .lst (cutV (ns.map V.int) none (some 63))) hl
    have s3 := s1.trans (s2.trans (Same.upd (o := .lst [.ref l, .int 0, .int 0, .int 0, .int 20011, .int 40009]) hh))
    refine k hd l _ s3 (s1.free (s2.free hh)) ⟨(ns.drop (HT.sIx (ns.map V.int).length 0 none)).take (HT.sIx (ns.map V.int).length (ns.map V.int).length (some 63) - HT.sIx (ns.map V.int).length 0 none), 0, 0, 0, 20011, 40009, upd_same, ?_, by decide⟩
    rw [upd_ne (ne_of_none upd_same hh), upd_same, List.map_take, List.map_drop]
    rfl
def sp_l_next : Sp := fun vs H Q _ => ∃ hd sc, vs = [.ref hd] ∧ HandAt H hd sc ∧ ∀ (n : Int) H', HandAt H' hd sc → SameB hd H H' → Q (.int n) H'
theorem sc_l_next : FnScope ["_law_hand_here"] ["_law_hand_here"] (defScope s_l_next) := ⟨rfl, rfl, rfl, by decide +kernel, rfl, by decide +kernel, by decide +kernel⟩
theorem ok_l_next (T : Txt K mg t) : FnOk P w K mg base CX0 1 t.f_l_next t.d_l_next ["_law_hand_here"] sp_l_next := by
  refine T.l_next.F.ok (k := 0) sc_l_next (fun vs H Q E h => ?_) (fun cdv A outer s H vs Q E hr h => ?_)
  · obtain ⟨hd, sc, rfl, _⟩ := h
    rfl
  · obtain ⟨hd, sc, rfl, ⟨ns, i, b, c, p, q, h1, h2, h0⟩, k⟩ := h
    have nsc := HandAt.ne h1 h2
    refine ⟨_, (@pss_cons _ _ _ _ _ (@ps_asg _ _ _ _ _ _ (@pe_op _ _ _ _ _ _ _ _ op_modN (@pe_op _ _ _ _ _ _ _ _ op_mulB (@pe_ix _ _ _ _ _ _ _ ix_list (pv 0) (@pe_int _ _ _ _) (fun _ _ => rfl)) (@pe_int _ _ _ _)) (@pe_int _ _ _ _)) (@pg_sub _ _ _ _ _ _ _ (pv 0) (@pe_int _ _ _ _) set_list (by intro _; rfl)) (by rfl) (by rfl) (by rfl)) (@pss_cons _ _ _ _ _ (@ps_asg _ _ _ _ _ _ (@pe_op _ _ _ _ _ _ _ _ op_modN (@pe_op _ _ _ _ _ _ _ _ op_mulB (@pe_ix _ _ _ _ _ _ _ ix_list (pv 0) (@pe_int _ _ _ _) (fun _ _ => rfl)) (@pe_int _ _ _ _)) (@pe_int _ _ _ _)) (@pg_sub _ _ _ _ _ _ _ (pv 0) (@pe_int _ _ _ _) set_list (by intro _; rfl)) (by rfl) (by rfl) (by rfl)) (@pss_one _ _ _ (@ps_ret _ _ _ _ (@pe_op _ _ _ _ _ _ _ _ op_add (@pe_ix _ _ _ _ _ _ _ ix_list (pv 0) (@pe_int _ _ _ _) (fun _ _ => rfl)) (@pe_ix _ _ _ _ _ _ _ ix_list (pv 0) (@pe_int _ _ _ _) (fun _ _ => rfl))))))), ?_⟩
    refine st_put (pu_mod (pu_mul (pu_ixL (pu_v rfl) pu_c (SqL.of h1) rfl) pu_c (IntMulOk.of_right (by decide))) pu_c (by decide)) (pu_v rfl) pu_c h1 rfl ?_
    refine st_put (pu_mod (pu_mul (pu_ixL (pu_v rfl) pu_c (SqL.of upd_same) rfl) pu_c (IntMulOk.of_right (by decide))) pu_c (by decide)) (pu_v rfl) pu_c upd_same rfl ?_
    refine st_ret (pu_add (pu_ixL (pu_v rfl) pu_c (SqL.of upd_same) rfl) (pu_ixL (pu_v rfl) pu_c (SqL.of upd_same) rfl)) ?_
    exact k _ _ ⟨ns, i, b, c, _, _, upd_same, by rw [upd_ne nsc, upd_ne nsc]; exact h2, h0⟩ (SameB.upd.trans SameB.upd)
def sp_l_take : Sp := fun vs H Q _ => ∃ hd sc, vs = [.ref hd] ∧ HandAt H hd sc ∧ ∀ H', HandAt H' hd sc → SameB hd H H' → Q .non H'
theorem sc_l_take : FnScope ["_law_hand_here", "_law_cell"] ["_law_hand_here"] (defScope s_l_take) := ⟨rfl, rfl, rfl, by decide +kernel, rfl, by decide +kernel, by decide +kernel⟩
theorem ok_l_take (T : Txt K mg t) : FnOk P w K mg base CX0 2 t.f_l_take t.d_l_take ["_law_hand_here"] sp_l_take := by
  refine T.l_take.F.ok (k := 1) sc_l_take (fun vs H Q E h => ?_) (fun cdv A outer s H vs Q E hr h => ?_)
  · obtain ⟨hd, sc, rfl, _⟩ := h
    rfl
  · obtain ⟨hd, sc, rfl, ⟨ns, i, b, c, p, q, h1, h2, h0⟩, k⟩ := h
    have nsc := HandAt.ne h1 h2
    refine ⟨_, (@pss_cons _ _ _ _ _ (@ps_set _ _ 1 _ _ _ _ sc_l_take.nd rfl (Or.inl rfl) (@pe_int _ _ _ _) (by rfl) (by first | exact .inl rfl | exact .inr rfl | assumption)) (@pss_cons _ _ _ _ _ (@ps_if _ _ _ _ _ _ _ _ (@pt_cmpR _ _ _ _ _ _ _ _ op_lt (@pe_ix _ _ _ _ _ _ _ ix_list (pv 0) (@pe_int _ _ _ _) (fun _ _ => rfl)) (@pe_callB _ _ _ _ _ _ _ _ _ call_len_seq (by rfl) T.b_len PySem.boot_len (@pa_cons _ _ _ _ _ (@pe_ix _ _ _ _ _ _ _ ix_list (pv 0) (@pe_int _ _ _ _) (fun _ _ => rfl)) (@pa_nil _) star_sub) (by decide) (by decide) (by rfl) (by rfl)) (nomark _)) (@pss_one _ _ _ (@ps_set _ _ 1 _ _ _ _ sc_l_take.nd rfl (Or.inl rfl) (@pe_callB _ _ _ _ _ _ _ _ _ call_abs (by rfl) T.b_abs PyProof.Rows.boot_abs (@pa_cons _ _ _ _ _ (@pe_ix _ _ _ _ _ _ _ ix_list (@pe_ix _ _ _ _ _ _ _ ix_list (pv 0) (@pe_int _ _ _ _) (fun _ _ => rfl)) (@pe_ix _ _ _ _ _ _ _ ix_list (pv 0) (@pe_int _ _ _ _) (fun _ _ => rfl)) (fun _ _ => rfl)) (@pa_nil _) star_sub) (by decide) (by decide) (by rfl) (by rfl)) (by rfl) (by first | exact .inl rfl | exact .inr rfl | assumption))) (@pss_nil _)) (@pss_cons _ _ _ _ _ (@ps_augS _ _ _ _ _ _ _ _ _ _ _ _ _ (pv 0) (@pe_int _ _ _ _) get_list (@pe_int _ _ _ _) ip_add set_list (by intros; rfl)) (@pss_cons _ _ _ _ _ (@ps_if _ _ _ _ _ _ _ _ (@pt_cmpR _ _ _ _ _ _ _ _ op_ge (pv 1) (@pe_op _ _ _ _ _ _ _ _ op_pow (@pe_int _ _ _ _) (@pe_int _ _ _ _)) (nomark _)) (@pss_one _ _ _ (@ps_asg _ _ _ _ _ _ (pv 1) (@pg_sub _ _ _ _ _ _ _ (pv 0) (@pe_int _ _ _ _) set_list (by intro _; rfl)) (by rfl) (by rfl) (by rfl))) (@pss_one _ _ _ (@ps_asg _ _ _ _ _ _ (@pe_int _ _ _ _) (@pg_sub _ _ _ _ _ _ _ (pv 0) (@pe_int _ _ _ _) set_list (by intro _; rfl)) (by rfl) (by rfl) (by rfl)))) (@pss_cons _ _ _ _ _ (@ps_asg _ _ _ _ _ _ (@pe_op _ _ _ _ _ _ _ _ op_add (@pe_op _ _ _ _ _ _ _ _ op_modN (@pe_op _ _ _ _ _ _ _ _ op_add (@pe_ix _ _ _ _ _ _ _ ix_list (pv 0) (@pe_int _ _ _ _) (fun _ _ => rfl)) (@pe_op _ _ _ _ _ _ _ _ op_modN (pv 1) (@pe_int _ _ _ _))) (@pe_int _ _ _ _)) (@pe_int _ _ _ _)) (@pg_sub _ _ _ _ _ _ _ (pv 0) (@pe_int _ _ _ _) set_list (by intro _; rfl)) (by rfl) (by rfl) (by rfl)) (@pss_cons _ _ _ _ _ (@ps_asg _ _ _ _ _ _ (@pe_op _ _ _ _ _ _ _ _ op_add (@pe_op _ _ _ _ _ _ _ _ op_modN (@pe_op _ _ _ _ _ _ _ _ op_add (@pe_op _ _ _ _ _ _ _ _ op_mulB (@pe_ix _ _ _ _ _ _ _ ix_list (pv 0) (@pe_int _ _ _ _) (fun _ _ => rfl)) (@pe_int _ _ _ _)) (@pe_op _ _ _ _ _ _ _ _ op_modN (pv 1) (@pe_int _ _ _ _))) (@pe_int _ _ _ _)) (@pe_int _ _ _ _)) (@pg_sub _ _ _ _ _ _ _ (pv 0) (@pe_int _ _ _ _) set_list (by intro _; rfl)) (by rfl) (by rfl) (by rfl)) (@pss_cons _ _ _ _ _ (@ps_expr _ _ _ _ (@pe_fn _ _ _ _ _ _ _ _ _ _ _ _ _ _ T.l_next (ok_l_next T) hr (by decide) (@pa_cons _ _ _ _ _ (pv 0) (@pa_nil _) star_name) (by rfl) (by decide) (by rfl) (by rfl)) (by rfl)) (@pss_one _ _ _ (@ps_expr _ _ _ _ (@pe_fn _ _ _ _ _ _ _ _ _ _ _ _ _ _ T.l_next (ok_l_next T) hr (by decide) (@pa_cons _ _ _ _ _ (pv 0) (@pa_nil _) star_name) (by rfl) (by decide) (by rfl) (by rfl)) (by rfl)))))))))), ?_⟩
    refine st_set pu_c ?_
    refine st_ifSet (R := fun v H' => H = H' ∧ ∃ cell : Int, v = .int cell) (v0 := .int 0) (pt_t (pu_lt (pu_ixL (pu_v rfl) pu_c (SqL.of h1) rfl) (pu_lenL (pa_c (pu_ixL (pu_v rfl) pu_c (SqL.of h1) rfl) pa_n) (SqL.of h2)))) (fun e => ?_) rfl (fun _ => ⟨rfl, 0, rfl⟩) ?_
    · have e' : i < ((ns.map V.int).length : Int) := by simpa using e
      rw [List.length_map] at e'
      obtain ⟨m, hm⟩ : ∃ m, ns[i.toNat]? = some m := ⟨_, List.getElem?_eq_getElem (by omega)⟩
      have hat : atI (ns.map V.int) i = some (.int m) := by
        have := atI_nat (xs := ns.map V.int) (j := i.toNat) (v := .int m) (by rw [List.getElem?_map, hm]; rfl)
        rwa [show ((i.toNat : Nat) : Int) = i by omega] at this
      exact (pu_abs (pa_c (pu_ixL (pu_ixL (pu_v rfl) pu_c (SqL.of h1) rfl) (pu_ixL (pu_v rfl) pu_c (SqL.of h1) rfl) (SqL.of h2) hat) pa_n)).gv' ⟨rfl, _, rfl⟩
    rintro v H' ⟨rfl, cell, rfl⟩
    refine st_augI (pu_v rfl) pu_c (by decide) h1 rfl pu_c rfl ?_
    refine st_if (pt_t (pu_ge (pu_v rfl) (pu_pow pu_c pu_c ⟨by decide, by decide, by decide⟩))) (fun _ => st_put1 (pu_v rfl) (pu_v rfl) pu_c upd_same rfl ?_) (fun _ => st_put1 pu_c (pu_v rfl) pu_c upd_same rfl ?_)
    all_goals
      refine st_put (pu_add (pu_mod (pu_add (pu_ixL (pu_v rfl) pu_c (SqL.of upd_same) rfl) (pu_mod (pu_v rfl) pu_c (by decide))) pu_c (by decide)) pu_c) (pu_v rfl) pu_c upd_same rfl ?_
      refine st_put (pu_add (pu_mod (pu_add (pu_mul (pu_ixL (pu_v rfl) pu_c (SqL.of upd_same) rfl) pu_c (IntMulOk.of_right (by decide))) (pu_mod (pu_v rfl) pu_c (by decide))) pu_c (by decide)) pu_c) (pu_v rfl) pu_c upd_same rfl ?_
      refine st_exprG (R := fun _ H' => HandAt H' hd sc ∧ SameB hd H H') (gv_call (pa_c (pu_v rfl) pa_n) fun Q f => ⟨hd, sc, rfl, ⟨ns, _, _, _, _, _, upd_same, by rw [upd_ne nsc, upd_ne nsc, upd_ne nsc, upd_ne nsc]; exact h2, (by omega : 0 ≤ i + 1)⟩, fun n H' a s => f _ _ ⟨a, ((SameB.upd.trans SameB.upd).trans (SameB.upd.trans SameB.upd)).trans s⟩⟩) ?_
      rintro _ H1 ⟨a1, s1⟩
      refine st_exprG1 (R := fun _ H' => HandAt H' hd sc ∧ SameB hd H H') (gv_call (pa_c (pu_v rfl) pa_n) fun Q f => ⟨hd, sc, rfl, a1, fun n H' a s => f _ _ ⟨a, s1.trans s⟩⟩) ?_
      rintro _ H2 ⟨a2, s2⟩
      exact k _ a2 s2
def sp_l_draw : Sp := fun vs H Q _ => ∃ hd sc m, vs = [.ref hd, .int m] ∧ HandAt H hd sc ∧ 0 < m ∧ Bd 9000 m ∧ ∀ (n : Int) H', 0 ≤ n → n < m → HandAt H' hd sc → SameB hd H H' → Q (.int n) H'
/-- draw(hand, m), m known -/
theorem gv_draw {σ : L2.St} {H : Hp} {hd sc : Addr} {t : TA} {m : Int} (hh : HandAt H hd sc) (ha : PuA t σ H [.ref hd, .int m]) (h0 : 0 < m) (hb : Bd 9000 m) : Gv (tCall sp_l_draw [] E0 t) σ H (fun v H' => (∃ n : Int, v = .int n ∧ 0 ≤ n ∧ n < m) ∧ HandAt H' hd sc ∧ SameB hd H H') :=
  gv_call ha fun Q f => ⟨hd, sc, m, rfl, hh, h0, hb, fun n H' z0 z1 a s => f _ _ ⟨⟨n, rfl, z0, z1⟩, a, s⟩⟩
theorem pick_of {xs : List V} {ys : List Int} {m : Int} (e : xs = ys.map V.int) (h : ∀ y ∈ ys, 0 < y ∧ y ≤ m) {n : Int} (h0 : 0 ≤ n) (h1 : n < ys.length) : ∃ y : Int, atI xs n = some (.int y) ∧ 0 < y ∧ y ≤ m := by
  subst e
  have hl : n.toNat < ys.length := by omega
  refine ⟨ys[n.toNat], ?_, h _ (List.getElem_mem hl)⟩
  have := atI_nat (xs := ys.map V.int) (j := n.toNat) (v := .int ys[n.toNat]) (by simp [hl])
  rwa [show ((n.toNat : Nat) : Int) = n by omega] at this
/-- [..][draw(hand, so many)] -/
theorem gv_pick {K : PySem.W.Frag} {σ : L2.St} {H : Hp} {hd sc : Addr} {t ta : TA} {ys : List Int} {m : Int} (hh : HandAt H hd sc) (hl : PuA ta σ H (ys.map V.int)) (hz : ys.length ≤ 1000) (h0 : 0 < ys.length) (hy : ∀ y ∈ ys, 0 < y ∧ y ≤ m)
    (ha : ∀ H', PuA t σ H' [.ref hd, .int (ys.length : Nat)]) : Gv (tOp (rIxL K) (tLst ta) (tCall sp_l_draw [] E0 t)) σ H (fun v H' => (∃ n : Int, v = .int n ∧ 0 < n ∧ n ≤ m) ∧ HandAt H' hd sc ∧ SameB hd H H') := by
  intro Q f
  refine gv_lst hl (by rw [List.length_map]; exact Nat.le_of_lt (small1000 hz)) _ ?_
  rintro _ _ ⟨p, hp, rfl, rfl⟩
  have s0 := Same.upd (o := .lst (ys.map V.int)) hp
  refine gv_draw (hh.same s0) (ha _) (by omega) (Bd.small (by omega)) _ ?_
  rintro _ H1 ⟨⟨n, rfl, z0, z1⟩, hh1, s1⟩
  obtain ⟨y, ey, y0, y1⟩ := pick_of (xs := ys.map V.int) rfl hy z0 z1
  obtain ⟨zs, hzs⟩ := hh.ls
  exact ⟨p, _, n, .int y, rfl, rfl, SqL.of (s1 _ _ upd_same (Ne.symm (ne_of_none hzs hp))), ey, f _ _ ⟨⟨y, rfl, y0, y1⟩, hh1, s0.b.trans s1⟩⟩
theorem sc_l_draw : FnScope ["_law_hand_here", "_law_many", "_law_got", "_law_value", "_law_size"] ["_law_hand_here", "_law_many"] (defScope s_l_draw) := ⟨rfl, rfl, rfl, by decide +kernel, rfl, by decide +kernel, by decide +kernel⟩
theorem ok_l_draw (T : Txt K mg t) : FnOk P w K mg base CX0 3 t.f_l_draw t.d_l_draw ["_law_hand_here", "_law_many"] sp_l_draw := by
  refine T.l_draw.F.ok (k := 2) sc_l_draw (fun vs H Q E h => ?_) (fun cdv A outer s H vs Q E hr h => ?_)
  · obtain ⟨hd, sc, m, rfl, _⟩ := h
    rfl
  · obtain ⟨hd, sc, m, rfl, hh, hm, hB, k⟩ := h
    refine ⟨_, (@pss_cons _ _ _ _ _ (@ps_if _ _ _ _ _ _ _ _ (PW.pt (@pw_and _ _ _ _ _ _ _ (@pt_cmpR _ _ _ _ _ _ _ _ op_eq (@pe_ix _ _ _ _ _ _ _ ix_list (pv 0) (@pe_int _ _ _ _) (fun _ _ => rfl)) (@pe_int _ _ _ _) (nomark _)) (@pw_and1 _ _ _ _ (@pt_cmpR _ _ _ _ _ _ _ _ op_eq (@pe_ix _ _ _ _ _ _ _ ix_list (pv 0) (@pe_int _ _ _ _) (fun _ _ => rfl)) (@pe_int _ _ _ _) (nomark _))))) (@pss_one _ _ _ (@ps_expr _ _ _ _ (@pe_fn _ _ _ _ _ _ _ _ _ _ _ _ _ _ T.l_take (ok_l_take T) hr (by decide) (@pa_cons _ _ _ _ _ (pv 0) (@pa_nil _) star_name) (by rfl) (by decide) (by rfl) (by rfl)) (by rfl))) (@pss_nil _)) (@pss_cons _ _ _ _ _ (@ps_if _ _ _ _ _ _ _ _ (@pt_cmpR _ _ _ _ _ _ _ _ op_gt (@pe_ix _ _ _ _ _ _ _ ix_list (pv 0) (@pe_int _ _ _ _) (fun _ _ => rfl)) (@pe_int _ _ _ _) (nomark _)) (@pss_cons _ _ _ _ _ (@ps_set _ _ 2 _ _ _ _ sc_l_draw.nd rfl (Or.inl rfl) (@pe_op _ _ _ _ _ _ _ _ op_modN (@pe_ix _ _ _ _ _ _ _ ix_list (pv 0) (@pe_int _ _ _ _) (fun _ _ => rfl)) (pv 1)) (by rfl) (by first | exact .inl rfl | exact .inr rfl | assumption)) (@pss_cons _ _ _ _ _ (@ps_asg _ _ _ _ _ _ (@pe_op _ _ _ _ _ _ _ _ op_fdivB (@pe_ix _ _ _ _ _ _ _ ix_list (pv 0) (@pe_int _ _ _ _) (fun _ _ => rfl)) (pv 1)) (@pg_sub _ _ _ _ _ _ _ (pv 0) (@pe_int _ _ _ _) set_list (by intro _; rfl)) (by rfl) (by rfl) (by rfl)) (@pss_one _ _ _ (@ps_ret _ _ _ _ (pv 2))))) (@pss_nil _)) (@pss_cons _ _ _ _ _ (@ps_augS _ _ _ _ _ _ _ _ _ _ _ _ _ (pv 0) (@pe_int _ _ _ _) get_list (@pe_int _ _ _ _) ip_sub set_list (by intros; rfl)) (@pss_cons _ _ _ _ _ (@ps_set _ _ 3 _ _ _ _ sc_l_draw.nd rfl (Or.inl rfl) (@pe_fn _ _ _ _ _ _ _ _ _ _ _ _ _ _ T.l_next (ok_l_next T) hr (by decide) (@pa_cons _ _ _ _ _ (pv 0) (@pa_nil _) star_name) (by rfl) (by decide) (by rfl) (by rfl)) (by rfl) (by first | exact .inl rfl | exact .inr rfl | assumption)) (@pss_cons _ _ _ _ _ (@ps_set _ _ 4 _ _ _ _ sc_l_draw.nd rfl (Or.inl rfl) (@pe_int _ _ _ _) (by rfl) (by first | exact .inl rfl | exact .inr rfl | assumption)) (@pss_cons _ _ _ _ _ (@ps_while _ _ _ _ _ _ PassesOwn.never (@pt_cmpR _ _ _ _ _ _ _ _ op_lt (pv 4) (pv 1) (nomark _)) (@pss_cons _ _ _ _ _ (@ps_set _ _ 3 _ _ _ _ sc_l_draw.nd rfl (Or.inl rfl) (@pe_op _ _ _ _ _ _ _ _ op_add (@pe_op _ _ _ _ _ _ _ _ op_mulB (pv 3) (@pe_int _ _ _ _)) (@pe_fn _ _ _ _ _ _ _ _ _ _ _ _ _ _ T.l_next (ok_l_next T) hr (by decide) (@pa_cons _ _ _ _ _ (pv 0) (@pa_nil _) star_name) (by rfl) (by decide) (by rfl) (by rfl))) (by rfl) (by first | exact .inl rfl | exact .inr rfl | assumption)) (@pss_one _ _ _ (@ps_set _ _ 4 _ _ _ _ sc_l_draw.nd rfl (Or.inl rfl) (@pe_op _ _ _ _ _ _ _ _ op_mulB (pv 4) (@pe_int _ _ _ _)) (by rfl) (by first | exact .inl rfl | exact .inr rfl | assumption))))) (@pss_one _ _ _ (@ps_ret _ _ _ _ (@pe_op _ _ _ _ _ _ _ _ op_modN (pv 3) (pv 1)))))))))), ?_⟩
    refine (show ∀ (H1 : Hp) (rest : TS) (D : Ends) (σ : L2.St) (tc : TT) (te : TE), (∃ b, PuT tc σ H b ∧ (b = true → Gv te σ H (fun _ H' => HandAt H' hd sc ∧ SameB hd H H'))) → (∀ H', HandAt H' hd sc → SameB hd H H' → rest D σ H') → tSeq (tIfS tc (tDrop te) tNext) rest D σ H from fun H1 rest D σ tc te ⟨b, hc, he⟩ q => st_if hc (fun e => st_exprG1 (he e) fun v H' r => q H' r.1 r.2) fun _ => q H hh (SameB.refl _ _)) H _ _ _ _ _ ?_ ?_
    · obtain ⟨ns, i, b, c, p, q, h1, h2, h0⟩ := id hh
      exact ⟨_, pt_and (pt_t (pu_eqI (pu_ixL (pu_v rfl) pu_c (SqL.of h1) rfl) pu_c)) fun _ => pt_t (pu_eqI (pu_ixL (pu_v rfl) pu_c (SqL.of h1) rfl) pu_c), fun _ => gv_call (pa_c (pu_v rfl) pa_n) fun Q f => ⟨hd, sc, rfl, hh, fun H' a s => f _ _ ⟨a, s⟩⟩⟩
    intro H1 hh1 s1
    obtain ⟨ns, i, b, c, p, q, h1, h2, h0⟩ := id hh1
    have nsc := HandAt.ne h1 h2
    refine st_if (pt_t (pu_gt (pu_ixL (pu_v rfl) pu_c (SqL.of h1) rfl) pu_c)) (fun _ => ?_) fun _ => ?_
    · refine st_set (pu_mod (pu_ixL (pu_v rfl) pu_c (SqL.of h1) rfl) (pu_v rfl) (by omega)) ?_
      refine st_put (pu_fdiv (pu_ixL (pu_v rfl) pu_c (SqL.of h1) rfl) (pu_v rfl) ⟨by omega, hB⟩) (pu_v rfl) pu_c h1 rfl ?_
      refine st_ret (pu_v rfl) ?_
      have hl := fmod_lt (x := b) hm
      exact k _ _ hl.1 hl.2 ⟨ns, i, _, c, p, q, upd_same, by rw [upd_ne nsc]; exact h2, h0⟩ (s1.trans SameB.upd)
    · refine st_augI (pu_v rfl) pu_c (by decide) h1 rfl pu_c rfl ?_
      have hh2 : HandAt (upd H1 hd (.lst [.ref sc, .int i, .int b, .int (c - 1), .int p, .int q])) hd sc := ⟨ns, i, b, c - 1, p, q, upd_same, by rw [upd_ne nsc]; exact h2, h0⟩
      refine st_setG (R := fun v H' => (∃ n : Int, v = .int n) ∧ HandAt H' hd sc ∧ SameB hd H H') (gv_call (pa_c (pu_v rfl) pa_n) fun Q f => ⟨hd, sc, rfl, hh2, fun n H' a s => f _ _ ⟨⟨n, rfl⟩, a, s1.trans (SameB.upd.trans s)⟩⟩) ?_
      rintro _ H3 ⟨⟨n, rfl⟩, hh3, s3⟩
      refine st_set pu_c ?_
      refine st_while (fun σ H' => HandAt H' hd sc ∧ SameB hd H H' ∧ ∃ (x y : Int) (r : Option V), σ = [some (.ref hd), some (.int m), r, some (.int x), some (.int y)] ∧ 0 < y) (fun σ _ => match σ with | [_, _, _, _, some (.int y)] => (m - y).toNat | _ => 0)
        ⟨hh3, s3, n, 4294967296, _, rfl, by decide⟩ ?_
      rintro σ H4 ⟨hh4, s4, x, y, r, rfl, hy⟩
      refine ⟨_, pt_t (pu_lt (pu_v rfl) (pu_v rfl)), fun e => ?_, fun e => ?_⟩
      · have e' : y < m := by simpa using e
        refine st_setG (R := fun v H' => (∃ n : Int, v = .int n) ∧ HandAt H' hd sc ∧ SameB hd H H') (fun Q f => pu_mul (pu_v rfl) pu_c (IntMulOk.of_right (by decide)) _ ?_) ?_
        · exact gv_call (sp := sp_l_next) (E := E0) (R := fun v H' => (∃ n : Int, v = .int n) ∧ HandAt H' hd sc ∧ SameB hd H H') (pa_c (pu_v rfl) pa_n) (fun Q f => ⟨hd, sc, rfl, hh4, fun n H' a s => f _ _ ⟨⟨n, rfl⟩, a, s4.trans s⟩⟩) _ fun v H' ⟨⟨n, e⟩, a, s⟩ => by
            subst e
            exact ⟨_, n, rfl, rfl, f _ _ ⟨⟨_, rfl⟩, a, s⟩⟩
        rintro _ H5 ⟨⟨z, rfl⟩, hh5, s5⟩
        refine st_set1 (pu_mul (pu_v rfl) pu_c (IntMulOk.of_right (by decide))) ?_
        exact ⟨⟨hh5, s5, z, y * 4294967296, r, rfl, by omega⟩, by show (m - y * 4294967296).toNat < (m - y).toNat; omega⟩
      · refine st_ret (pu_mod (pu_v rfl) (pu_v rfl) (by omega)) ?_
        have hl := fmod_lt (x := x) hm
        exact k _ _ hl.1 hl.2 hh4 s4
def sp_l_divisor : Sp := fun vs H Q _ => ∃ a b : Int, vs = [.int a, .int b] ∧ Q (.int (Int.gcd a b)) H
theorem sc_l_divisor : FnScope ["_law_one", "_law_other"] ["_law_one", "_law_other"] (defScope s_l_divisor) := ⟨rfl, rfl, rfl, by decide +kernel, rfl, by decide +kernel, by decide +kernel⟩
theorem ok_l_divisor (T : Txt K mg t) : FnOk P w K mg base CX0 1 t.f_l_divisor t.d_l_divisor ["_law_one", "_law_other"] sp_l_divisor := by
  refine T.l_divisor.F.ok (k := 0) sc_l_divisor (fun vs H Q E h => ?_) (fun cdv A outer s H vs Q E hr h => ?_)
  · obtain ⟨a, b, rfl, _⟩ := h
    rfl
  · obtain ⟨a, b, rfl, k⟩ := h
    refine ⟨_, (@pss_cons _ _ _ _ _ (@ps_set _ _ 0 _ _ _ _ sc_l_divisor.nd rfl (Or.inl rfl) (@pe_callB _ _ _ _ _ _ _ _ _ call_abs (by rfl) T.b_abs PyProof.Rows.boot_abs (@pa_cons _ _ _ _ _ (pv 0) (@pa_nil _) star_name) (by decide) (by decide) (by rfl) (by rfl)) (by rfl) (by first | exact .inl rfl | exact .inr rfl | assumption)) (@pss_cons _ _ _ _ _ (@ps_set _ _ 1 _ _ _ _ sc_l_divisor.nd rfl (Or.inl rfl) (@pe_callB _ _ _ _ _ _ _ _ _ call_abs (by rfl) T.b_abs PyProof.Rows.boot_abs (@pa_cons _ _ _ _ _ (pv 1) (@pa_nil _) star_name) (by decide) (by decide) (by rfl) (by rfl)) (by rfl) (by first | exact .inl rfl | exact .inr rfl | assumption)) (@pss_cons _ _ _ _ _ (@ps_while _ _ _ _ _ _ PassesOwn.never (@pt_cmpR _ _ _ _ _ _ _ _ op_gt (pv 1) (@pe_int _ _ _ _) (nomark _)) (@pss_one _ _ _ (@ps_par _ _ 0 1 _ _ _ _ _ _ _ _ _ _ _ rfl sc_l_divisor.nd rfl rfl (by decide) rfl rfl (@pa_cons _ _ _ _ _ (pv 1) (@pa_cons _ _ _ _ _ (@pe_op _ _ _ _ _ _ _ _ op_modN (pv 0) (pv 1)) (@pa_nil _) star_bin) star_name) (by rfl) (by rfl)))) (@pss_one _ _ _ (@ps_ret _ _ _ _ (pv 0)))))), ?_⟩
    refine st_set (pu_abs (pa_c (pu_v rfl) pa_n)) ?_
    refine st_set (pu_abs (pa_c (pu_v rfl) pa_n)) ?_
    refine st_while (fun σ H' => H' = H ∧ ∃ (x y : Int), σ = [some (.int x), some (.int y)] ∧ 0 ≤ x ∧ 0 ≤ y ∧ Int.gcd x y = Int.gcd a b) (fun σ _ => match σ with | [_, some (.int y)] => y.toNat | _ => 0)
      ⟨rfl, a.natAbs, b.natAbs, rfl, by omega, by omega, rfl⟩ ?_
    rintro σ H' ⟨rfl, x, y, rfl, hx, hy, hg⟩
    refine ⟨_, pt_t (pu_gt (pu_v rfl) pu_c), fun e => ?_, fun e => ?_⟩
    · have e' : 0 < y := by simpa using e
      have hm := fmod_lt (x := x) e'
      refine pa_c (pu_v rfl) (pa_c (pu_mod (pu_v rfl) (pu_v rfl) (by omega)) pa_n) _ ?_
      exact ⟨_, _, rfl, ⟨rfl, y, x.fmod y, rfl, hy, hm.1, by rw [gcd_step hx hy]; exact hg⟩, by show (x.fmod y).toNat < y.toNat; omega⟩
    · have e' : ¬ 0 < y := by simpa using e
      have e'' : y = 0 := by omega
      subst e''
      refine st_ret (pu_v rfl) ?_
      rw [← hg, gcd_zero x hx] at k
      exact k
def sp_l_point : Sp := fun vs H Q _ => ∃ a b c : Int, vs = [.int a, .int b, .int c] ∧ 0 < c ∧ Bd 9000 c ∧ ∀ v H' r, Same H H' → AtP H' v r → Is3 a b c r → Q v H'
theorem gv_point {σ : L2.St} {H : Hp} {t : TA} {a b c : Int} (ha : PuA t σ H [.int a, .int b, .int c]) (hc : 0 < c) (hb : Bd 9000 c) : Gv (tCall sp_l_point [] E0 t) σ H (fun v H' => Same H H' ∧ ∃ r, AtP H' v r ∧ Is3 a b c r) :=
  gv_call ha fun Q f => ⟨a, b, c, rfl, hc, hb, fun v H' r s t i => f _ _ ⟨s, r, t, i⟩⟩
theorem sc_l_point : FnScope ["_law_a", "_law_b", "_law_c", "_law_d"] ["_law_a", "_law_b", "_law_c"] (defScope s_l_point) := ⟨rfl, rfl, rfl, by decide +kernel, rfl, by decide +kernel, by decide +kernel⟩
theorem ok_l_point (T : Txt K mg t) : FnOk P w K mg base CX0 2 t.f_l_point t.d_l_point ["_law_a", "_law_b", "_law_c"] sp_l_point := by
  refine T.l_point.F.ok (k := 1) sc_l_point (fun vs H Q E h => ?_) (fun cdv A outer s H vs Q E hr h => ?_)
  · obtain ⟨a, b, c, rfl, _⟩ := h
    rfl
  · obtain ⟨a, b, c, rfl, hc, hB, k⟩ := h
    refine ⟨_, (@pss_cons _ _ _ _ _ (@ps_set _ _ 3 _ _ _ _ sc_l_point.nd rfl (Or.inl rfl) (@pe_fn _ _ _ _ _ _ _ _ _ _ _ _ _ _ T.l_divisor (ok_l_divisor T) hr (by decide) (@pa_cons _ _ _ _ _ (@pe_fn _ _ _ _ _ _ _ _ _ _ _ _ _ _ T.l_divisor (ok_l_divisor T) hr (by decide) (@pa_cons _ _ _ _ _ (pv 2) (@pa_cons _ _ _ _ _ (pv 0) (@pa_nil _) star_name) star_name) (by rfl) (by decide) (by rfl) (by rfl)) (@pa_cons _ _ _ _ _ (pv 1) (@pa_nil _) star_name) star_call) (by rfl) (by decide) (by rfl) (by rfl)) (by rfl) (by first | exact .inl rfl | exact .inr rfl | assumption)) (@pss_one _ _ _ (@ps_ret _ _ _ _ (@pe_tup _ _ _ _ _ (@pa_cons _ _ _ _ _ (@pe_op _ _ _ _ _ _ _ _ op_fdivB (pv 0) (pv 3)) (@pa_cons _ _ _ _ _ (@pe_op _ _ _ _ _ _ _ _ op_fdivB (pv 1) (pv 3)) (@pa_cons _ _ _ _ _ (@pe_op _ _ _ _ _ _ _ _ op_fdivB (pv 2) (pv 3)) (@pa_nil _) star_bin) star_bin) star_bin))))), ?_⟩
    obtain ⟨hi, hd⟩ := pt_has (a := a) (b := b) hc
    have hdB : Bd 9000 (Int.gcd (Int.gcd c a) b : Int) := by
      refine hB.le ?_
      have : (Int.gcd (Int.gcd c a) b : Nat) ≤ c.natAbs := by
        refine Nat.le_of_dvd (by omega) ?_
        refine Nat.dvd_trans (Int.gcd_dvd_natAbs_left _ _) ?_
        rw [Int.natAbs_natCast]
        exact Int.gcd_dvd_natAbs_left c a
      exact this
    refine st_set (pu_call (pa_c (pu_call (pa_c (pu_v rfl) (pa_c (pu_v rfl) pa_n)) (fun Q q => ⟨c, a, rfl, q⟩)) (pa_c (pu_v rfl) pa_n)) (fun Q q => ⟨_, b, rfl, q⟩)) ?_
    refine st_retG (gv_tup (pa_c (pu_fdiv (pu_v rfl) (pu_v rfl) ⟨by omega, hdB⟩) (pa_c (pu_fdiv (pu_v rfl) (pu_v rfl) ⟨by omega, hdB⟩) (pa_c (pu_fdiv (pu_v rfl) (pu_v rfl) ⟨by omega, hdB⟩) pa_n))) (by show 3 ≤ sizeLine; decide)) ?_
    rintro _ _ ⟨p, hp, rfl, rfl⟩
    exact k _ _ _ (Same.upd hp) (TupT.of upd_same) hi
def midA (p q : Pt3) : Int := p.x * q.z + q.x * p.z
def midB (p q : Pt3) : Int := p.y * q.z + q.y * p.z
def midC (p q : Pt3) : Int := 2 * p.z * q.z
theorem midC_pos {p q : Pt3} (hp : 0 < p.z) (hq : 0 < q.z) : 0 < midC p q := Int.mul_pos (Int.mul_pos (by decide) hp) hq
theorem midC_bd {p q : Pt3} {m n : Nat} (zp : Bd m p.z) (zq : Bd n q.z) : Bd (2 + m + n) (midC p q) := by
  have b2 : Bd 2 (2 : Int) := by unfold Bd; decide
  exact (b2.mul zp).mul zq
def sp_l_middle : Sp := fun vs H Q _ => ∃ v w p q, vs = [v, w] ∧ AtP H v p ∧ AtP H w q ∧ Sz 4000 p ∧ Sz 4000 q ∧ 0 < p.z ∧ 0 < q.z ∧ ∀ v H' r, Same H H' → AtP H' v r → Is3 (midA p q) (midB p q) (midC p q) r → Q v H'
theorem gv_mid {σ : L2.St} {H : Hp} {t : TA} {v w : V} {p q : Pt3} (ha : PuA t σ H [v, w]) (h1 : AtP H v p) (h2 : AtP H w q) (zp : Sz 4000 p) (zq : Sz 4000 q) (hp : 0 < p.z) (hq : 0 < q.z) : Gv (tCall sp_l_middle [] E0 t) σ H (fun v H' => Same H H' ∧ ∃ r, AtP H' v r ∧ Is3 (midA p q) (midB p q) (midC p q) r) :=
  gv_call ha fun Q f => ⟨v, w, p, q, rfl, h1, h2, zp, zq, hp, hq, fun v H' r s t i => f _ _ ⟨s, r, t, i⟩⟩
theorem sc_l_middle : FnScope ["_law_p", "_law_q"] ["_law_p", "_law_q"] (defScope s_l_middle) := ⟨rfl, rfl, rfl, by decide +kernel, rfl, by decide +kernel, by decide +kernel⟩
theorem ok_l_middle (T : Txt K mg t) : FnOk P w K mg base CX0 3 t.f_l_middle t.d_l_middle ["_law_p", "_law_q"] sp_l_middle := by
  refine T.l_middle.F.ok (k := 2) sc_l_middle (fun vs H Q E h => ?_) (fun cdv A outer s H vs Q E hr h => ?_)
  · obtain ⟨v, w, p, q, rfl, _⟩ := h
    rfl
  · obtain ⟨v, w, p, q, rfl, ⟨a, rfl, ha⟩, ⟨b, rfl, hb⟩, zp, zq, hp, hq, k⟩ := h
    refine ⟨_, (@pss_one _ _ _ (@ps_ret _ _ _ _ (@pe_fn _ _ _ _ _ _ _ _ _ _ _ _ _ _ T.l_point (ok_l_point T) hr (by decide) (@pa_cons _ _ _ _ _ (@pe_op _ _ _ _ _ _ _ _ op_add (@pe_op _ _ _ _ _ _ _ _ op_mulB (@pe_ix _ _ _ _ _ _ _ ix_tup (pv 0) (@pe_int _ _ _ _) (fun _ _ => rfl)) (@pe_ix _ _ _ _ _ _ _ ix_tup (pv 1) (@pe_int _ _ _ _) (fun _ _ => rfl))) (@pe_op _ _ _ _ _ _ _ _ op_mulB (@pe_ix _ _ _ _ _ _ _ ix_tup (pv 1) (@pe_int _ _ _ _) (fun _ _ => rfl)) (@pe_ix _ _ _ _ _ _ _ ix_tup (pv 0) (@pe_int _ _ _ _) (fun _ _ => rfl)))) (@pa_cons _ _ _ _ _ (@pe_op _ _ _ _ _ _ _ _ op_add (@pe_op _ _ _ _ _ _ _ _ op_mulB (@pe_ix _ _ _ _ _ _ _ ix_tup (pv 0) (@pe_int _ _ _ _) (fun _ _ => rfl)) (@pe_ix _ _ _ _ _ _ _ ix_tup (pv 1) (@pe_int _ _ _ _) (fun _ _ => rfl))) (@pe_op _ _ _ _ _ _ _ _ op_mulB (@pe_ix _ _ _ _ _ _ _ ix_tup (pv 1) (@pe_int _ _ _ _) (fun _ _ => rfl)) (@pe_ix _ _ _ _ _ _ _ ix_tup (pv 0) (@pe_int _ _ _ _) (fun _ _ => rfl)))) (@pa_cons _ _ _ _ _ (@pe_op _ _ _ _ _ _ _ _ op_mulB (@pe_op _ _ _ _ _ _ _ _ op_mulB (@pe_int _ _ _ _) (@pe_ix _ _ _ _ _ _ _ ix_tup (pv 0) (@pe_int _ _ _ _) (fun _ _ => rfl))) (@pe_ix _ _ _ _ _ _ _ ix_tup (pv 1) (@pe_int _ _ _ _) (fun _ _ => rfl))) (@pa_nil _) star_bin) star_bin) star_bin) (by rfl) (by decide) (by rfl) (by rfl)))), ?_⟩
    have b2 : Bd 2 (2 : Int) := by unfold Bd; decide
    refine st_retG (gv_point (pa_c (pu_add (pu_mul (pu_ixT (pu_v rfl) pu_c (SqT.of (ha)) rfl) (pu_ixT (pu_v rfl) pu_c (SqT.of (hb)) rfl) (mulOk_of (zp.x) (zq.z) (by decide))) (pu_mul (pu_ixT (pu_v rfl) pu_c (SqT.of (hb)) rfl) (pu_ixT (pu_v rfl) pu_c (SqT.of (ha)) rfl) (mulOk_of (zq.x) (zp.z) (by decide)))) (pa_c (pu_add (pu_mul (pu_ixT (pu_v rfl) pu_c (SqT.of (ha)) rfl) (pu_ixT (pu_v rfl) pu_c (SqT.of (hb)) rfl) (mulOk_of (zp.y) (zq.z) (by decide))) (pu_mul (pu_ixT (pu_v rfl) pu_c (SqT.of (hb)) rfl) (pu_ixT (pu_v rfl) pu_c (SqT.of (ha)) rfl) (mulOk_of (zq.y) (zp.z) (by decide)))) (pa_c (pu_mul (pu_mul pu_c (pu_ixT (pu_v rfl) pu_c (SqT.of (ha)) rfl) (mulOk_of (b2) (zp.z) (by decide))) (pu_ixT (pu_v rfl) pu_c (SqT.of (hb)) rfl) (mulOk_of (b2.mul zp.z) (zq.z) (by decide))) pa_n))) (midC_pos hp hq) ((midC_bd zp.z zq.z).mono (by decide))) ?_
    rintro v H' ⟨s, r, t, i⟩
    exact k v H' r s t i
def sp_l_ahead : Sp := fun vs H Q _ => ∃ v w p q, vs = [v, w] ∧ AtP H v p ∧ AtP H w q ∧ Sz 4000 p ∧ Sz 4000 q ∧ Q (.bl (ahd p q)) H
theorem sc_l_ahead : FnScope ["_law_p", "_law_q"] ["_law_p", "_law_q"] (defScope s_l_ahead) := ⟨rfl, rfl, rfl, by decide +kernel, rfl, by decide +kernel, by decide +kernel⟩
theorem ok_l_ahead (T : Txt K mg t) : FnOk P w K mg base CX0 1 t.f_l_ahead t.d_l_ahead ["_law_p", "_law_q"] sp_l_ahead := by
  refine T.l_ahead.F.ok (k := 0) sc_l_ahead (fun vs H Q E h => ?_) (fun cdv A outer s H vs Q E hr h => ?_)
  · obtain ⟨v, w, p, q, rfl, _⟩ := h
    rfl
  · obtain ⟨v, w, p, q, rfl, ⟨a, rfl, ha⟩, ⟨b, rfl, hb⟩, zp, zq, k⟩ := h
    refine ⟨_, (@pss_cons _ _ _ _ _ (@ps_if _ _ _ _ _ _ _ _ (@pt_cmpR _ _ _ _ _ _ _ _ op_ne (@pe_op _ _ _ _ _ _ _ _ op_mulB (@pe_ix _ _ _ _ _ _ _ ix_tup (pv 0) (@pe_int _ _ _ _) (fun _ _ => rfl)) (@pe_ix _ _ _ _ _ _ _ ix_tup (pv 1) (@pe_int _ _ _ _) (fun _ _ => rfl))) (@pe_op _ _ _ _ _ _ _ _ op_mulB (@pe_ix _ _ _ _ _ _ _ ix_tup (pv 1) (@pe_int _ _ _ _) (fun _ _ => rfl)) (@pe_ix _ _ _ _ _ _ _ ix_tup (pv 0) (@pe_int _ _ _ _) (fun _ _ => rfl))) (nomark _)) (@pss_one _ _ _ (@ps_ret _ _ _ _ (@pe_cmpR _ _ _ _ _ _ _ _ op_lt (@pe_op _ _ _ _ _ _ _ _ op_mulB (@pe_ix _ _ _ _ _ _ _ ix_tup (pv 0) (@pe_int _ _ _ _) (fun _ _ => rfl)) (@pe_ix _ _ _ _ _ _ _ ix_tup (pv 1) (@pe_int _ _ _ _) (fun _ _ => rfl))) (@pe_op _ _ _ _ _ _ _ _ op_mulB (@pe_ix _ _ _ _ _ _ _ ix_tup (pv 1) (@pe_int _ _ _ _) (fun _ _ => rfl)) (@pe_ix _ _ _ _ _ _ _ ix_tup (pv 0) (@pe_int _ _ _ _) (fun _ _ => rfl))) (nomark _)))) (@pss_nil _)) (@pss_one _ _ _ (@ps_ret _ _ _ _ (@pe_cmpR _ _ _ _ _ _ _ _ op_lt (@pe_op _ _ _ _ _ _ _ _ op_mulB (@pe_ix _ _ _ _ _ _ _ ix_tup (pv 0) (@pe_int _ _ _ _) (fun _ _ => rfl)) (@pe_ix _ _ _ _ _ _ _ ix_tup (pv 1) (@pe_int _ _ _ _) (fun _ _ => rfl))) (@pe_op _ _ _ _ _ _ _ _ op_mulB (@pe_ix _ _ _ _ _ _ _ ix_tup (pv 1) (@pe_int _ _ _ _) (fun _ _ => rfl)) (@pe_ix _ _ _ _ _ _ _ ix_tup (pv 0) (@pe_int _ _ _ _) (fun _ _ => rfl))) (nomark _))))), ?_⟩
    refine st_ifN (pt_t (pu_neI (pu_mul (pu_ixT (pu_v rfl) pu_c (SqT.of (ha)) rfl) (pu_ixT (pu_v rfl) pu_c (SqT.of (hb)) rfl) (mulOk_of (zp.x) (zq.z) (by decide))) (pu_mul (pu_ixT (pu_v rfl) pu_c (SqT.of (hb)) rfl) (pu_ixT (pu_v rfl) pu_c (SqT.of (ha)) rfl) (mulOk_of (zq.x) (zp.z) (by decide))))) (fun e => st_ret (pu_lt (pu_mul (pu_ixT (pu_v rfl) pu_c (SqT.of (ha)) rfl) (pu_ixT (pu_v rfl) pu_c (SqT.of (hb)) rfl) (mulOk_of (zp.x) (zq.z) (by decide))) (pu_mul (pu_ixT (pu_v rfl) pu_c (SqT.of (hb)) rfl) (pu_ixT (pu_v rfl) pu_c (SqT.of (ha)) rfl) (mulOk_of (zq.x) (zp.z) (by decide)))) ?_) (fun e => st_ret (pu_lt (pu_mul (pu_ixT (pu_v rfl) pu_c (SqT.of (ha)) rfl) (pu_ixT (pu_v rfl) pu_c (SqT.of (hb)) rfl) (mulOk_of (zp.y) (zq.z) (by decide))) (pu_mul (pu_ixT (pu_v rfl) pu_c (SqT.of (hb)) rfl) (pu_ixT (pu_v rfl) pu_c (SqT.of (ha)) rfl) (mulOk_of (zq.y) (zp.z) (by decide)))) ?_)
    · have e' : ¬ p.x * q.z = q.x * p.z := by simpa using e
      rw [ahd, if_neg e'] at k
      exact k
    · have e' : p.x * q.z = q.x * p.z := by simpa using e
      rw [ahd, if_pos e'] at k
      exact k
def sp_l_turn : Sp := fun vs H Q _ => ∃ v w u p q r, vs = [v, w, u] ∧ AtP H v p ∧ AtP H w q ∧ AtP H u r ∧ Sz 4000 p ∧ Sz 4000 q ∧ Sz 4000 r ∧ 0 < p.z ∧ Q (.int (sgn (det p q r))) H
theorem pu_int {σ : L2.St} {H : Hp} {t : TA} {c : Bool} (ha : PuA t σ H [.bl c]) : Pu (tCB (fun xs H Q => (∃ i, xs = [.int i] ∧ Q (.int i) H) ∨ ∃ k, xs = [.bl k] ∧ Q (.int (if k then 1 else 0)) H) t) σ H (.int (if c then 1 else 0)) := fun _ q => ha _ (.inr ⟨c, rfl, q⟩)
theorem sgn_cmp (x y : Int) : (if decide (y < x) = true then (1 : Int) else 0) - (if decide (x < y) = true then 1 else 0) = sgn (x - y) := by
  unfold sgn
  by_cases h1 : y < x
  · rw [if_pos (decide_eq_true h1), if_neg (by rw [decide_eq_true_iff]; omega), if_pos (by omega)]; rfl
  · by_cases h2 : x < y
    · rw [if_neg (by rw [decide_eq_true_iff]; exact h1), if_pos (decide_eq_true h2), if_neg (by omega), if_pos (by omega)]; rfl
    · rw [if_neg (by rw [decide_eq_true_iff]; exact h1), if_neg (by rw [decide_eq_true_iff]; exact h2), if_neg (by omega), if_neg (by omega)]; rfl
theorem sc_l_turn : FnScope ["_law_p", "_law_q", "_law_r", "_law_one", "_law_other"] ["_law_p", "_law_q", "_law_r"] (defScope s_l_turn) := ⟨rfl, rfl, rfl, by decide +kernel, rfl, by decide +kernel, by decide +kernel⟩
theorem ok_l_turn (T : Txt K mg t) : FnOk P w K mg base CX0 1 t.f_l_turn t.d_l_turn ["_law_p", "_law_q", "_law_r"] sp_l_turn := by
  refine T.l_turn.F.ok (k := 0) sc_l_turn (fun vs H Q E h => ?_) (fun cdv A outer s H vs Q E hr h => ?_)
  · obtain ⟨v, w, u, p, q, r, rfl, _⟩ := h
    rfl
  · obtain ⟨v, w, u, p, q, r, rfl, ⟨a, rfl, ha⟩, ⟨b, rfl, hb⟩, ⟨c, rfl, hc⟩, zp, zq, zr, hp, k⟩ := h
    have d1 := (zq.x.mul zp.z).sub (zp.x.mul zq.z)
    have d2 := (zr.y.mul zp.z).sub (zp.y.mul zr.z)
    have d3 := (zq.y.mul zp.z).sub (zp.y.mul zq.z)
    have d4 := (zr.x.mul zp.z).sub (zp.x.mul zr.z)
    refine ⟨_, (@pss_cons _ _ _ _ _ (@ps_set _ _ 3 _ _ _ _ sc_l_turn.nd rfl (Or.inl rfl) (@pe_op _ _ _ _ _ _ _ _ op_mulB (@pe_op _ _ _ _ _ _ _ _ op_sub (@pe_op _ _ _ _ _ _ _ _ op_mulB (@pe_ix _ _ _ _ _ _ _ ix_tup (pv 1) (@pe_int _ _ _ _) (fun _ _ => rfl)) (@pe_ix _ _ _ _ _ _ _ ix_tup (pv 0) (@pe_int _ _ _ _) (fun _ _ => rfl))) (@pe_op _ _ _ _ _ _ _ _ op_mulB (@pe_ix _ _ _ _ _ _ _ ix_tup (pv 0) (@pe_int _ _ _ _) (fun _ _ => rfl)) (@pe_ix _ _ _ _ _ _ _ ix_tup (pv 1) (@pe_int _ _ _ _) (fun _ _ => rfl)))) (@pe_op _ _ _ _ _ _ _ _ op_sub (@pe_op _ _ _ _ _ _ _ _ op_mulB (@pe_ix _ _ _ _ _ _ _ ix_tup (pv 2) (@pe_int _ _ _ _) (fun _ _ => rfl)) (@pe_ix _ _ _ _ _ _ _ ix_tup (pv 0) (@pe_int _ _ _ _) (fun _ _ => rfl))) (@pe_op _ _ _ _ _ _ _ _ op_mulB (@pe_ix _ _ _ _ _ _ _ ix_tup (pv 0) (@pe_int _ _ _ _) (fun _ _ => rfl)) (@pe_ix _ _ _ _ _ _ _ ix_tup (pv 2) (@pe_int _ _ _ _) (fun _ _ => rfl))))) (by rfl) (by first | exact .inl rfl | exact .inr rfl | assumption)) (@pss_cons _ _ _ _ _ (@ps_set _ _ 4 _ _ _ _ sc_l_turn.nd rfl (Or.inl rfl) (@pe_op _ _ _ _ _ _ _ _ op_mulB (@pe_op _ _ _ _ _ _ _ _ op_sub (@pe_op _ _ _ _ _ _ _ _ op_mulB (@pe_ix _ _ _ _ _ _ _ ix_tup (pv 1) (@pe_int _ _ _ _) (fun _ _ => rfl)) (@pe_ix _ _ _ _ _ _ _ ix_tup (pv 0) (@pe_int _ _ _ _) (fun _ _ => rfl))) (@pe_op _ _ _ _ _ _ _ _ op_mulB (@pe_ix _ _ _ _ _ _ _ ix_tup (pv 0) (@pe_int _ _ _ _) (fun _ _ => rfl)) (@pe_ix _ _ _ _ _ _ _ ix_tup (pv 1) (@pe_int _ _ _ _) (fun _ _ => rfl)))) (@pe_op _ _ _ _ _ _ _ _ op_sub (@pe_op _ _ _ _ _ _ _ _ op_mulB (@pe_ix _ _ _ _ _ _ _ ix_tup (pv 2) (@pe_int _ _ _ _) (fun _ _ => rfl)) (@pe_ix _ _ _ _ _ _ _ ix_tup (pv 0) (@pe_int _ _ _ _) (fun _ _ => rfl))) (@pe_op _ _ _ _ _ _ _ _ op_mulB (@pe_ix _ _ _ _ _ _ _ ix_tup (pv 0) (@pe_int _ _ _ _) (fun _ _ => rfl)) (@pe_ix _ _ _ _ _ _ _ ix_tup (pv 2) (@pe_int _ _ _ _) (fun _ _ => rfl))))) (by rfl) (by first | exact .inl rfl | exact .inr rfl | assumption)) (@pss_one _ _ _ (@ps_ret _ _ _ _ (@pe_op _ _ _ _ _ _ _ _ op_sub (@pe_callTy _ _ _ _ _ _ _ _ _ call_int1 (by rfl) T.b_int PyProof.Rows.boot_int (@pa_cons _ _ _ _ _ (@pe_cmpR _ _ _ _ _ _ _ _ op_gt (pv 3) (pv 4) (nomark _)) (@pa_nil _) star_cmp) (by decide) (by decide) (by rfl) (by rfl)) (@pe_callTy _ _ _ _ _ _ _ _ _ call_int1 (by rfl) T.b_int PyProof.Rows.boot_int (@pa_cons _ _ _ _ _ (@pe_cmpR _ _ _ _ _ _ _ _ op_lt (pv 3) (pv 4) (nomark _)) (@pa_nil _) star_cmp) (by decide) (by decide) (by rfl) (by rfl))))))), ?_⟩
    refine st_set (pu_mul (pu_sub (pu_mul (pu_ixT (pu_v rfl) pu_c (SqT.of (hb)) rfl) (pu_ixT (pu_v rfl) pu_c (SqT.of (ha)) rfl) (mulOk_of (zq.x) (zp.z) (by decide))) (pu_mul (pu_ixT (pu_v rfl) pu_c (SqT.of (ha)) rfl) (pu_ixT (pu_v rfl) pu_c (SqT.of (hb)) rfl) (mulOk_of (zp.x) (zq.z) (by decide)))) (pu_sub (pu_mul (pu_ixT (pu_v rfl) pu_c (SqT.of (hc)) rfl) (pu_ixT (pu_v rfl) pu_c (SqT.of (ha)) rfl) (mulOk_of (zr.y) (zp.z) (by decide))) (pu_mul (pu_ixT (pu_v rfl) pu_c (SqT.of (ha)) rfl) (pu_ixT (pu_v rfl) pu_c (SqT.of (hc)) rfl) (mulOk_of (zp.y) (zr.z) (by decide)))) (mulOk_of (d1) (d2) (by decide))) ?_
    refine st_set (pu_mul (pu_sub (pu_mul (pu_ixT (pu_v rfl) pu_c (SqT.of (hb)) rfl) (pu_ixT (pu_v rfl) pu_c (SqT.of (ha)) rfl) (mulOk_of (zq.y) (zp.z) (by decide))) (pu_mul (pu_ixT (pu_v rfl) pu_c (SqT.of (ha)) rfl) (pu_ixT (pu_v rfl) pu_c (SqT.of (hb)) rfl) (mulOk_of (zp.y) (zq.z) (by decide)))) (pu_sub (pu_mul (pu_ixT (pu_v rfl) pu_c (SqT.of (hc)) rfl) (pu_ixT (pu_v rfl) pu_c (SqT.of (ha)) rfl) (mulOk_of (zr.x) (zp.z) (by decide))) (pu_mul (pu_ixT (pu_v rfl) pu_c (SqT.of (ha)) rfl) (pu_ixT (pu_v rfl) pu_c (SqT.of (hc)) rfl) (mulOk_of (zp.x) (zr.z) (by decide)))) (mulOk_of (d3) (d4) (by decide))) ?_
    refine st_ret (pu_sub (pu_int (pa_c (pu_gt (pu_v rfl) (pu_v rfl)) pa_n)) (pu_int (pa_c (pu_lt (pu_v rfl) (pu_v rfl)) pa_n))) ?_
    rw [sgn_cmp, det_turn, sgn_scale hp]
    exact k
def sp_l_on : Sp := fun vs H Q _ => ∃ v w u p a b, vs = [v, w, u] ∧ AtP H v p ∧ AtP H w a ∧ AtP H u b ∧ Sz 4000 p ∧ Sz 4000 a ∧ Sz 4000 b ∧ 0 < a.z ∧ Q (.bl (onB p a b)) H
theorem pu_lahd {σ : L2.St} {H : Hp} {t : TA} {v w : V} {p q : Pt3} (ha : PuA t σ H [v, w]) (h1 : AtP H v p) (h2 : AtP H w q) (zp : Sz 4000 p) (zq : Sz 4000 q) : Pu (tCall sp_l_ahead [] E0 t) σ H (.bl (ahd p q)) :=
  pu_call ha fun Q f => ⟨v, w, p, q, rfl, h1, h2, zp, zq, f⟩
theorem sc_l_on : FnScope ["_law_p", "_law_a", "_law_b"] ["_law_p", "_law_a", "_law_b"] (defScope s_l_on) := ⟨rfl, rfl, rfl, by decide +kernel, rfl, by decide +kernel, by decide +kernel⟩
theorem ok_l_on (T : Txt K mg t) : FnOk P w K mg base CX0 2 t.f_l_on t.d_l_on ["_law_p", "_law_a", "_law_b"] sp_l_on := by
  refine T.l_on.F.ok (k := 1) sc_l_on (fun vs H Q E h => ?_) (fun cdv A outer s H vs Q E hr h => ?_)
  · obtain ⟨v, w, u, p, a, b, rfl, _⟩ := h
    rfl
  · obtain ⟨v, w, u, p, a, b, rfl, hp, ha, hb, zp, za, zb, h0, k⟩ := h
    refine ⟨_, (@pss_cons _ _ _ _ _ (@ps_if _ _ _ _ _ _ _ _ (@pt_cmpR _ _ _ _ _ _ _ _ op_ne (@pe_fn _ _ _ _ _ _ _ _ _ _ _ _ _ _ T.l_turn (ok_l_turn T) hr (by decide) (@pa_cons _ _ _ _ _ (pv 1) (@pa_cons _ _ _ _ _ (pv 2) (@pa_cons _ _ _ _ _ (pv 0) (@pa_nil _) star_name) star_name) star_name) (by rfl) (by decide) (by rfl) (by rfl)) (@pe_int _ _ _ _) (nomark _)) (@pss_one _ _ _ (@ps_ret _ _ _ _ (@pe_bl _ _ _ _))) (@pss_nil _)) (@pss_cons _ _ _ _ _ (@ps_if _ _ _ _ _ _ _ _ (@pt_val _ _ _ (@pe_fn _ _ _ _ _ _ _ _ _ _ _ _ _ _ T.l_ahead (ok_l_ahead T) hr (by decide) (@pa_cons _ _ _ _ _ (pv 1) (@pa_cons _ _ _ _ _ (pv 2) (@pa_nil _) star_name) star_name) (by rfl) (by decide) (by rfl) (by rfl)) (by intro _; rfl)) (@pss_one _ _ _ (@ps_ret _ _ _ _ (@pe_and _ _ _ _ _ _ _ (@pe_not _ _ _ _ (@pe_fn _ _ _ _ _ _ _ _ _ _ _ _ _ _ T.l_ahead (ok_l_ahead T) hr (by decide) (@pa_cons _ _ _ _ _ (pv 0) (@pa_cons _ _ _ _ _ (pv 1) (@pa_nil _) star_name) star_name) (by rfl) (by decide) (by rfl) (by rfl))) (@pe_one _ _ _ _ _ (@pe_not _ _ _ _ (@pe_fn _ _ _ _ _ _ _ _ _ _ _ _ _ _ T.l_ahead (ok_l_ahead T) hr (by decide) (@pa_cons _ _ _ _ _ (pv 2) (@pa_cons _ _ _ _ _ (pv 0) (@pa_nil _) star_name) star_name) (by rfl) (by decide) (by rfl) (by rfl))))))) (@pss_nil _)) (@pss_one _ _ _ (@ps_ret _ _ _ _ (@pe_and _ _ _ _ _ _ _ (@pe_not _ _ _ _ (@pe_fn _ _ _ _ _ _ _ _ _ _ _ _ _ _ T.l_ahead (ok_l_ahead T) hr (by decide) (@pa_cons _ _ _ _ _ (pv 0) (@pa_cons _ _ _ _ _ (pv 2) (@pa_nil _) star_name) star_name) (by rfl) (by decide) (by rfl) (by rfl))) (@pe_one _ _ _ _ _ (@pe_not _ _ _ _ (@pe_fn _ _ _ _ _ _ _ _ _ _ _ _ _ _ T.l_ahead (ok_l_ahead T) hr (by decide) (@pa_cons _ _ _ _ _ (pv 1) (@pa_cons _ _ _ _ _ (pv 0) (@pa_nil _) star_name) star_name) (by rfl) (by decide) (by rfl) (by rfl))))))))), ?_⟩
    refine st_ifN (pt_t (pu_neI (pu_call (pa_c (pu_v rfl) (pa_c (pu_v rfl) (pa_c (pu_v rfl) pa_n))) (fun Q f => ⟨_, _, _, a, b, p, rfl, ha, hb, hp, za, zb, zp, h0, f⟩)) pu_c)) (fun e => st_ret pu_c ?_) (fun e => ?_)
    · have e' : ¬ det a b p = 0 := by
        intro z
        rw [z] at e
        exact absurd e (by decide)
      rw [onB, if_neg e'] at k
      exact k
    have e' : det a b p = 0 := by
      rw [Bool.not_eq_false', decide_eq_true_iff] at e
      exact sgn_eq0.mp e
    rw [onB, if_pos e'] at k
    refine st_ifN (pt_b (pu_lahd (pa_c (pu_v rfl) (pa_c (pu_v rfl) pa_n)) ha hb za zb)) (fun z => st_ret (pu_and (pu_not (pu_lahd (pa_c (pu_v rfl) (pa_c (pu_v rfl) pa_n)) hp ha zp za)) fun _ => pu_not (pu_lahd (pa_c (pu_v rfl) (pa_c (pu_v rfl) pa_n)) hb hp zb zp)) ?_) (fun z => st_ret (pu_and (pu_not (pu_lahd (pa_c (pu_v rfl) (pa_c (pu_v rfl) pa_n)) hp hb zp zb)) fun _ => pu_not (pu_lahd (pa_c (pu_v rfl) (pa_c (pu_v rfl) pa_n)) ha hp za zp)) ?_)
    · rw [if_pos z] at k
      exact k
    · rw [if_neg (by rw [z]; decide)] at k
      exact k
def sp_l_under : Sp := fun vs H Q _ => ∃ a b c u v p, vs = [a, b, c] ∧ AtP H a u ∧ AtP H b v ∧ AtP H c p ∧ Sz 4000 u ∧ Sz 4000 v ∧ Sz 4000 p ∧ 0 < u.z ∧ Q (.int (undr u v p)) H
theorem sc_l_under : FnScope ["_law_u", "_law_v", "_law_p", "_law_one", "_law_other"] ["_law_u", "_law_v", "_law_p"] (defScope s_l_under) := ⟨rfl, rfl, rfl, by decide +kernel, rfl, by decide +kernel, by decide +kernel⟩
theorem ok_l_under (T : Txt K mg t) : FnOk P w K mg base CX0 2 t.f_l_under t.d_l_under ["_law_u", "_law_v", "_law_p"] sp_l_under := by
  refine T.l_under.F.ok (k := 1) sc_l_under (fun vs H Q E h => ?_) (fun cdv A outer s H vs Q E hr h => ?_)
  · obtain ⟨a, b, c, u, v, p, rfl, _⟩ := h
    rfl
  · obtain ⟨a, b, c, u, v, p, rfl, ta, tb, tc, zu, zv, zp, hu, k⟩ := h
    refine ⟨_, (@pss_cons _ _ _ _ _ (@ps_set _ _ 3 _ _ _ _ sc_l_under.nd rfl (Or.inl rfl) (@pe_cmpR _ _ _ _ _ _ _ _ op_le (@pe_op _ _ _ _ _ _ _ _ op_mulB (@pe_ix _ _ _ _ _ _ _ ix_tup (pv 0) (@pe_int _ _ _ _) (fun _ _ => rfl)) (@pe_ix _ _ _ _ _ _ _ ix_tup (pv 2) (@pe_int _ _ _ _) (fun _ _ => rfl))) (@pe_op _ _ _ _ _ _ _ _ op_mulB (@pe_ix _ _ _ _ _ _ _ ix_tup (pv 2) (@pe_int _ _ _ _) (fun _ _ => rfl)) (@pe_ix _ _ _ _ _ _ _ ix_tup (pv 0) (@pe_int _ _ _ _) (fun _ _ => rfl))) (nomark _)) (by rfl) (by first | exact .inl rfl | exact .inr rfl | assumption)) (@pss_cons _ _ _ _ _ (@ps_set _ _ 4 _ _ _ _ sc_l_under.nd rfl (Or.inl rfl) (@pe_cmpR _ _ _ _ _ _ _ _ op_le (@pe_op _ _ _ _ _ _ _ _ op_mulB (@pe_ix _ _ _ _ _ _ _ ix_tup (pv 1) (@pe_int _ _ _ _) (fun _ _ => rfl)) (@pe_ix _ _ _ _ _ _ _ ix_tup (pv 2) (@pe_int _ _ _ _) (fun _ _ => rfl))) (@pe_op _ _ _ _ _ _ _ _ op_mulB (@pe_ix _ _ _ _ _ _ _ ix_tup (pv 2) (@pe_int _ _ _ _) (fun _ _ => rfl)) (@pe_ix _ _ _ _ _ _ _ ix_tup (pv 1) (@pe_int _ _ _ _) (fun _ _ => rfl))) (nomark _)) (by rfl) (by first | exact .inl rfl | exact .inr rfl | assumption)) (@pss_cons _ _ _ _ _ (@ps_if _ _ _ _ _ _ _ _ (PW.pt (@pw_and _ _ _ _ _ _ _ (@pt_val _ _ _ (pv 3) (by intro _; rfl)) (@pw_and _ _ _ _ _ _ _ (@pt_not _ _ _ _ (@pt_val _ _ _ (pv 4) (by intro _; rfl))) (@pw_and1 _ _ _ _ (@pt_cmpR _ _ _ _ _ _ _ _ op_gt (@pe_fn _ _ _ _ _ _ _ _ _ _ _ _ _ _ T.l_turn (ok_l_turn T) hr (by decide) (@pa_cons _ _ _ _ _ (pv 0) (@pa_cons _ _ _ _ _ (pv 1) (@pa_cons _ _ _ _ _ (pv 2) (@pa_nil _) star_name) star_name) star_name) (by rfl) (by decide) (by rfl) (by rfl)) (@pe_int _ _ _ _) (nomark _)))))) (@pss_one _ _ _ (@ps_ret _ _ _ _ (@pe_int _ _ _ _))) (@pss_nil _)) (@pss_cons _ _ _ _ _ (@ps_if _ _ _ _ _ _ _ _ (PW.pt (@pw_and _ _ _ _ _ _ _ (@pt_val _ _ _ (pv 4) (by intro _; rfl)) (@pw_and _ _ _ _ _ _ _ (@pt_not _ _ _ _ (@pt_val _ _ _ (pv 3) (by intro _; rfl))) (@pw_and1 _ _ _ _ (@pt_cmpR _ _ _ _ _ _ _ _ op_lt (@pe_fn _ _ _ _ _ _ _ _ _ _ _ _ _ _ T.l_turn (ok_l_turn T) hr (by decide) (@pa_cons _ _ _ _ _ (pv 0) (@pa_cons _ _ _ _ _ (pv 1) (@pa_cons _ _ _ _ _ (pv 2) (@pa_nil _) star_name) star_name) star_name) (by rfl) (by decide) (by rfl) (by rfl)) (@pe_int _ _ _ _) (nomark _)))))) (@pss_one _ _ _ (@ps_ret _ _ _ _ (@pe_un _ _ _ _ _ _ un_neg (@pe_int _ _ _ _)))) (@pss_nil _)) (@pss_one _ _ _ (@ps_ret _ _ _ _ (@pe_int _ _ _ _))))))), ?_⟩
    obtain ⟨xa, rfl, ha⟩ := id ta
    obtain ⟨xb, rfl, hb⟩ := id tb
    obtain ⟨xc, rfl, hc⟩ := id tc
    refine st_set (pu_le (pu_mul (pu_ixT (pu_v rfl) pu_c (SqT.of (ha)) rfl) (pu_ixT (pu_v rfl) pu_c (SqT.of (hc)) rfl) (mulOk_of (zu.x) (zp.z) (by decide))) (pu_mul (pu_ixT (pu_v rfl) pu_c (SqT.of (hc)) rfl) (pu_ixT (pu_v rfl) pu_c (SqT.of (ha)) rfl) (mulOk_of (zp.x) (zu.z) (by decide)))) ?_
    refine st_set (pu_le (pu_mul (pu_ixT (pu_v rfl) pu_c (SqT.of (hb)) rfl) (pu_ixT (pu_v rfl) pu_c (SqT.of (hc)) rfl) (mulOk_of (zv.x) (zp.z) (by decide))) (pu_mul (pu_ixT (pu_v rfl) pu_c (SqT.of (hc)) rfl) (pu_ixT (pu_v rfl) pu_c (SqT.of (hb)) rfl) (mulOk_of (zp.x) (zv.z) (by decide)))) ?_
    have TN : ∀ {σ : L2.St}, σ[0]? = some (some (.ref xa)) → σ[1]? = some (some (.ref xb)) → σ[2]? = some (some (.ref xc)) → Pu (tCall sp_l_turn [] E0 (tCons (tVar 0) (tCons (tVar 1) (tCons (tVar 2) tNil)))) σ H (.int (sgn (det u v p))) := fun h0 h1 h2 => pu_call (pa_c (pu_v h0) (pa_c (pu_v h1) (pa_c (pu_v h2) pa_n))) fun Q f => ⟨_, _, _, u, v, p, rfl, ta, tb, tc, zu, zv, zp, hu, f⟩
    have sp1 : 0 < sgn (det u v p) ↔ 0 < det u v p := by
      unfold sgn
      (repeat' split) <;> omega
    have sp2 : sgn (det u v p) < 0 ↔ det u v p < 0 := by
      unfold sgn
      (repeat' split) <;> omega
    refine st_ifN (pt_and (pt_b (pu_v rfl)) fun _ => pt_and (pt_n (pt_b (pu_v rfl))) fun _ => pt_t (pu_gt (TN rfl rfl rfl) pu_c)) (fun e => st_ret pu_c ?_) fun e => ?_
    · simp only [Bool.and_eq_true, Bool.not_eq_true', decide_eq_true_eq, decide_eq_false_iff_not, sp1] at e
      rw [undr, und, if_pos (by omega), if_pos e.2.2] at k
      exact k
    refine st_ifN (pt_and (pt_b (pu_v rfl)) fun _ => pt_and (pt_n (pt_b (pu_v rfl))) fun _ => pt_t (pu_lt (TN rfl rfl rfl) pu_c)) (fun e2 => st_ret (pu_neg pu_c) ?_) fun e2 => st_ret pu_c ?_
    · simp only [Bool.and_eq_true, Bool.not_eq_true', decide_eq_true_eq, decide_eq_false_iff_not, sp2] at e2
      rw [undr, und, if_neg (by omega), if_pos (by omega), if_pos e2.2.2] at k
      exact k
    · have f1 : ¬ (u.x * p.z ≤ p.x * u.z ∧ ¬ v.x * p.z ≤ p.x * v.z ∧ 0 < det u v p) := fun z => by
        rw [Bool.eq_false_iff] at e
        exact e (by simp only [Bool.and_eq_true, Bool.not_eq_true', decide_eq_true_eq, decide_eq_false_iff_not, sp1]; exact z)
      have f2 : ¬ (v.x * p.z ≤ p.x * v.z ∧ ¬ u.x * p.z ≤ p.x * u.z ∧ det u v p < 0) := fun z => by
        rw [Bool.eq_false_iff] at e2
        exact e2 (by simp only [Bool.and_eq_true, Bool.not_eq_true', decide_eq_true_eq, decide_eq_false_iff_not, sp2]; exact z)
      have e0 : undr u v p = 0 := by
        unfold undr und
        (repeat' split) <;> omega
      rw [e0] at k
      exact k
def sp_l_rounds : Sp := fun vs H Q _ => ∃ l rs v p, vs = [.ref l, v] ∧ RgL H l rs ∧ AtP H v p ∧ Sz 4000 p ∧ rs.length ≤ 10 ∧ (∀ r ∈ rs, 1 ≤ r.length ∧ r.length ≤ 20) ∧ (∀ r ∈ rs, ∀ q ∈ r, Sz 4000 q ∧ 0 < q.z) ∧ Q (.int (rnd rs p)) H
theorem sc_l_rounds : FnScope ["_law_rings", "_law_p", "_law_many", "_law_ring_here", "_law_k"] ["_law_rings", "_law_p"] (defScope s_l_rounds) := ⟨rfl, rfl, rfl, by decide +kernel, rfl, by decide +kernel, by decide +kernel⟩
theorem ok_l_rounds (T : Txt K mg t) : FnOk P w K mg base CX0 3 t.f_l_rounds t.d_l_rounds ["_law_rings", "_law_p"] sp_l_rounds := by
  refine T.l_rounds.F.ok (k := 2) sc_l_rounds (fun vs H Q E h => ?_) (fun cdv A outer s H vs Q E hr h => ?_)
  · obtain ⟨l, rs, v, p, rfl, _⟩ := h
    rfl
  · obtain ⟨l, rs, v, p, rfl, ⟨as, hl, pr⟩, tv, zp, hn, h20, hsz, k⟩ := h
    refine ⟨_, (@pss_cons _ _ _ _ _ (@ps_set _ _ 2 _ _ _ _ sc_l_rounds.nd rfl (Or.inl rfl) (@pe_int _ _ _ _) (by rfl) (by first | exact .inl rfl | exact .inr rfl | assumption)) (@pss_cons _ _ _ _ _ (@ps_for _ _ _ _ _ _ _ _ PassesOwn.never rfl (@pi_list _ _ _ _ (pv 0)) (@pg_name _ _ 3 _ sc_l_rounds.nd rfl (Or.inl rfl) (by first | exact .inl rfl | exact .inr rfl | assumption)) (@pss_one _ _ _ (@ps_for _ _ _ _ _ _ _ _ PassesOwn.never rfl (@pi_range1 _ _ _ _ _ _ rfl T.b_range (@pa_cons _ _ _ _ _ (@pe_callB _ _ _ _ _ _ _ _ _ call_len_seq (by rfl) T.b_len PySem.boot_len (@pa_cons _ _ _ _ _ (pv 3) (@pa_nil _) star_name) (by decide) (by decide) (by rfl) (by rfl)) (@pa_nil _) star_call) (by rfl)) (@pg_name _ _ 4 _ sc_l_rounds.nd rfl (Or.inl rfl) (by first | exact .inl rfl | exact .inr rfl | assumption)) (@pss_one _ _ _ (@ps_aug _ _ 2 _ _ _ _ _ _ sc_l_rounds.nd rfl (Or.inl rfl) (@pe_fn _ _ _ _ _ _ _ _ _ _ _ _ _ _ T.l_under (ok_l_under T) hr (by decide) (@pa_cons _ _ _ _ _ (@pe_ix _ _ _ _ _ _ _ ix_list (pv 3) (@pe_op _ _ _ _ _ _ _ _ op_sub (pv 4) (@pe_int _ _ _ _)) (fun _ _ => rfl)) (@pa_cons _ _ _ _ _ (@pe_ix _ _ _ _ _ _ _ ix_list (pv 3) (pv 4) (fun _ _ => rfl)) (@pa_cons _ _ _ _ _ (pv 1) (@pa_nil _) star_name) star_sub) star_sub) (by rfl) (by decide) (by rfl) (by rfl)) ip_add (by first | exact .inl rfl | exact .inr rfl | assumption))) (by intro _; rfl))) (by intro _; rfl)) (@pss_one _ _ _ (@ps_ret _ _ _ _ (pv 2))))), ?_⟩
    have hal : as.length = rs.length := paired_len pr
    refine st_set pu_c ?_
    refine st_list (K := K) (xs := as.map V.ref) (pu_v rfl) (fun i σ H' => H' = H ∧ ∃ z w : Option V, σ = [some (.ref l), some v, some (.int (rnd (rs.take i) p)), z, w]) ⟨rfl, none, none, rfl⟩ (fun i σ H' _ ⟨e, _⟩ => by rw [e]; exact SqL.of hl) ?_ ?_
    · rintro i x σ H' hx ⟨rfl, z, w, rfl⟩
      rw [List.getElem?_map] at hx
      cases hai : as[i]? with
      | none => rw [hai] at hx; cases hx
      | some a =>
        rw [hai] at hx
        have ex : V.ref a = x := Option.some.inj hx
        subst ex
        obtain ⟨r, hri, hlp⟩ := paired_get pr hai
        have hrm := List.mem_of_getElem? hri
        obtain ⟨xs, hxs, tx⟩ := id hlp
        have hxl : xs.length = r.length := by rw [tx.len, List.length_map]
        have hr20 := h20 r hrm
        refine st_range1 (n := (xs.length : Int)) (pa_c (pu_lenL (pa_c (pu_v rfl) pa_n) (SqL.of hxs)) pa_n) (by omega) (by omega) (fun j σ H'' => H'' = H' ∧ ∃ w : Option V, σ = [some (.ref l), some v, some (.int (rnd (rs.take i) p + prevS (fun u v => undr u v p) r r.length j)), some (.ref a), w]) ⟨rfl, w, by show _ = _; rw [prevS, Int.add_zero]; rfl⟩ ?_ ?_
        · rintro j σ _ hj ⟨rfl, w, rfl⟩
          have hj' : j < r.length := by omega
          have hjx : j < xs.length := by omega
          obtain ⟨ep, hp1⟩ := atI_prv (xs := xs) hjx
          rw [hxl] at ep hp1
          obtain ⟨m1, g1⟩ := getD_mem (ps := r) hp1
          obtain ⟨m2, g2⟩ := getD_mem (ps := r) hj'
          obtain ⟨u1, e1, t1⟩ := tx.get (i := prv r.length j) (ns := L3 _) (by rw [List.getElem?_map, g1]; rfl)
          obtain ⟨u2, e2, t2⟩ := tx.get (i := j) (ns := L3 _) (by rw [List.getElem?_map, g2]; rfl)
          rw [e1] at ep
          refine ⟨_, rfl, ?_⟩
          refine pu_call (sp := sp_l_under) (pa_c (pu_ixL (pu_v rfl) (pu_sub (pu_v rfl) pu_c) (SqL.of hxs) (by rw [Int.zero_add]; exact ep)) (pa_c (pu_ixL (pu_v rfl) (pu_v rfl) (SqL.of hxs) (by rw [Int.zero_add]; exact atI_nat e2)) (pa_c (pu_v rfl) pa_n))) (fun Q f => ⟨_, _, _, _, _, p, rfl, t1, t2, tv, (hsz r hrm _ m1).1, (hsz r hrm _ m2).1, zp, (hsz r hrm _ m1).2, f⟩) _ ?_
          refine ⟨_, _, rfl, rfl, rfl, some (.int (0 + j)), ?_⟩
          show _ = _
          rw [prevS, ← Int.add_assoc]
          rfl
        · rintro σ _ ⟨rfl, w, rfl⟩
          refine ⟨rfl, some (.ref a), w, ?_⟩
          rw [show ((xs.length : Int)).toNat = r.length by omega, prevS_cyc, List.take_succ, hri]
          simp only [rnd, rnd1, Option.toList_some, List.map_append, List.map_cons, List.map_nil, List.sum_append, List.sum_cons, List.sum_nil, Int.add_zero]
    · rintro σ _ ⟨rfl, z, w, rfl⟩
      rw [List.length_map, hal, List.take_length]
      exact st_ret (pu_v rfl) k
def sp_l_spot : Sp := fun vs H Q _ => ∃ hd sc sl ps w k m, vs = [.ref hd, .ref sl, .int w] ∧ HandAt H hd sc ∧ LP H sl ps ∧ sl ≠ hd ∧ ps.length ≤ 100 ∧ (∀ p ∈ ps, Dr k m p) ∧ k ≤ 69 ∧ m ≤ 900 ∧ 9 ≤ m ∧ 0 < w ∧ w ≤ 9 ∧ ∀ v H' r, HandAt H' hd sc → SameB hd H H' → AtP H' v r → Dr (k + 1) m r → Q v H'
/-- seen[draw(hand, len(seen))] -/
theorem gv_seen {K : PySem.W.Frag} {σ : L2.St} {H : Hp} {hd sc sl : Addr} {ps : List Pt3} {to : TE} {t : TA} {n : Int} (hh : HandAt H hd sc) (lp : LP H sl ps) (ns : sl ≠ hd) (h0 : 0 < ps.length) (hz : ps.length ≤ 1000) (hn : n = (ps.length : Int)) (ho : Pu to σ H (.ref sl)) (ha : PuA t σ H [.ref hd, .int n]) :
    Gv (tOp (rIxL K) to (tCall sp_l_draw [] E0 t)) σ H (fun v H' => HandAt H' hd sc ∧ SameB hd H H' ∧ ∃ p, p ∈ ps ∧ AtP H' v p) := by
  subst hn
  intro Q f
  refine ho _ ?_
  refine gv_draw hh ha (by omega) (Bd.small (by omega)) _ ?_
  rintro _ H1 ⟨⟨j, rfl, j0, j1⟩, hh1, s1⟩
  obtain ⟨ys, hys⟩ := hh.ls
  have lp1 := lp.but ns hys s1
  obtain ⟨p, hp⟩ : ∃ p, ps[j.toNat]? = some p := ⟨_, List.getElem?_eq_getElem (by omega)⟩
  obtain ⟨xs, v, e1, e2, e3, e4⟩ := lp1.at hp
  have ea := atI_nat e3
  rw [show ((j.toNat : Nat) : Int) = j by omega] at ea
  exact ⟨sl, xs, j, v, rfl, rfl, SqL.of e1, ea, f _ _ ⟨hh1, s1, p, List.mem_of_getElem? hp, e4⟩⟩
/-- c + draw(hand, n) -/
theorem gv_addDraw {σ : L2.St} {H : Hp} {hd sc : Addr} {t : TA} {ta : TE} {n c : Int} (hh : HandAt H hd sc) (hc : Pu ta σ H (.int c)) (ha : PuA t σ H [.ref hd, .int n]) (h0 : 0 < n) (hb : Bd 9000 n) :
    Gv (tOp (rI0 fun i j => .int (i + j)) ta (tCall sp_l_draw [] E0 t)) σ H (fun v H' => (∃ j : Int, v = .int (c + j) ∧ 0 ≤ j ∧ j < n) ∧ HandAt H' hd sc ∧ SameB hd H H') := by
  intro Q f
  refine hc _ ?_
  refine gv_draw hh ha h0 hb _ ?_
  rintro _ H1 ⟨⟨j, rfl, j0, j1⟩, hh1, s1⟩
  exact ⟨c, j, rfl, rfl, f _ _ ⟨⟨j, rfl, j0, j1⟩, hh1, s1⟩⟩
/-- draw(hand, n) - c -/
theorem gv_drawSub {σ : L2.St} {H : Hp} {hd sc : Addr} {t : TA} {ta : TE} {n c : Int} (hh : HandAt H hd sc) (hc : ∀ H', Pu ta σ H' (.int c)) (ha : PuA t σ H [.ref hd, .int n]) (h0 : 0 < n) (hb : Bd 9000 n) :
    Gv (tOp (rI0 fun i j => .int (i - j)) (tCall sp_l_draw [] E0 t) ta) σ H (fun v H' => (∃ j : Int, v = .int (j - c) ∧ 0 ≤ j ∧ j < n) ∧ HandAt H' hd sc ∧ SameB hd H H') := by
  intro Q f
  refine gv_draw hh ha h0 hb _ ?_
  rintro _ H1 ⟨⟨j, rfl, j0, j1⟩, hh1, s1⟩
  exact hc _ _ ⟨j, c, rfl, rfl, f _ _ ⟨⟨j, rfl, j0, j1⟩, hh1, s1⟩⟩
theorem sc_l_spot : FnScope ["_law_hand_here", "_law_seen", "_law_wide", "_law_way", "_law_at", "_law_c", "_law_a"] ["_law_hand_here", "_law_seen", "_law_wide"] (defScope s_l_spot) := ⟨rfl, rfl, rfl, by decide +kernel, rfl, by decide +kernel, by decide +kernel⟩
theorem ok_l_spot (T : Txt K mg t) : FnOk P w K mg base CX0 4 t.f_l_spot t.d_l_spot ["_law_hand_here", "_law_seen", "_law_wide"] sp_l_spot := by
  refine T.l_spot.F.ok (k := 3) sc_l_spot (fun vs H Q E h => ?_) (fun cdv A outer s H vs Q E hr h => ?_)
  · obtain ⟨hd, sc, sl, ps, w, k', m, rfl, _⟩ := h
    rfl
  · obtain ⟨hd, sc, sl, ps, w, kk, m, rfl, hh, lp, nsl, hpl, hdr, hk, hm, hm9, w0, w9, k⟩ := h
    refine ⟨_, (@pss_cons _ _ _ _ _ (@ps_set _ _ 3 _ _ _ _ sc_l_spot.nd rfl (Or.inl rfl) (@pe_fn _ _ _ _ _ _ _ _ _ _ _ _ _ _ T.l_draw (ok_l_draw T) hr (by decide) (@pa_cons _ _ _ _ _ (pv 0) (@pa_cons _ _ _ _ _ (@pe_int _ _ _ _) (@pa_nil _) star_con) star_name) (by rfl) (by decide) (by rfl) (by rfl)) (by rfl) (by first | exact .inl rfl | exact .inr rfl | assumption)) (@pss_cons _ _ _ _ _ (@ps_if _ _ _ _ _ _ _ _ (PW.pt (@pw_and _ _ _ _ _ _ _ (@pt_cmpR _ _ _ _ _ _ _ _ op_eq (pv 3) (@pe_int _ _ _ _) (nomark _)) (@pw_and1 _ _ _ _ (@pt_cmpR _ _ _ _ _ _ _ _ op_gt (@pe_callB _ _ _ _ _ _ _ _ _ call_len_seq (by rfl) T.b_len PySem.boot_len (@pa_cons _ _ _ _ _ (pv 1) (@pa_nil _) star_name) (by decide) (by decide) (by rfl) (by rfl)) (@pe_int _ _ _ _) (nomark _))))) (@pss_one _ _ _ (@ps_ret _ _ _ _ (@pe_ix _ _ _ _ _ _ _ ix_list (pv 1) (@pe_fn _ _ _ _ _ _ _ _ _ _ _ _ _ _ T.l_draw (ok_l_draw T) hr (by decide) (@pa_cons _ _ _ _ _ (pv 0) (@pa_cons _ _ _ _ _ (@pe_callB _ _ _ _ _ _ _ _ _ call_len_seq (by rfl) T.b_len PySem.boot_len (@pa_cons _ _ _ _ _ (pv 1) (@pa_nil _) star_name) (by decide) (by decide) (by rfl) (by rfl)) (@pa_nil _) star_call) star_name) (by rfl) (by decide) (by rfl) (by rfl)) (fun _ _ => rfl)))) (@pss_nil _)) (@pss_cons _ _ _ _ _ (@ps_if _ _ _ _ _ _ _ _ (PW.pt (@pw_and _ _ _ _ _ _ _ (@pt_cmpR _ _ _ _ _ _ _ _ op_eq (pv 3) (@pe_int _ _ _ _) (nomark _)) (@pw_and1 _ _ _ _ (@pt_cmpR _ _ _ _ _ _ _ _ op_gt (@pe_callB _ _ _ _ _ _ _ _ _ call_len_seq (by rfl) T.b_len PySem.boot_len (@pa_cons _ _ _ _ _ (pv 1) (@pa_nil _) star_name) (by decide) (by decide) (by rfl) (by rfl)) (@pe_int _ _ _ _) (nomark _))))) (@pss_cons _ _ _ _ _ (@ps_set _ _ 4 _ _ _ _ sc_l_spot.nd rfl (Or.inl rfl) (@pe_fn _ _ _ _ _ _ _ _ _ _ _ _ _ _ T.l_draw (ok_l_draw T) hr (by decide) (@pa_cons _ _ _ _ _ (pv 0) (@pa_cons _ _ _ _ _ (@pe_op _ _ _ _ _ _ _ _ op_sub (@pe_callB _ _ _ _ _ _ _ _ _ call_len_seq (by rfl) T.b_len PySem.boot_len (@pa_cons _ _ _ _ _ (pv 1) (@pa_nil _) star_name) (by decide) (by decide) (by rfl) (by rfl)) (@pe_int _ _ _ _)) (@pa_nil _) star_bin) star_name) (by rfl) (by decide) (by rfl) (by rfl)) (by rfl) (by first | exact .inl rfl | exact .inr rfl | assumption)) (@pss_one _ _ _ (@ps_ret _ _ _ _ (@pe_fn _ _ _ _ _ _ _ _ _ _ _ _ _ _ T.l_middle (ok_l_middle T) hr (by decide) (@pa_cons _ _ _ _ _ (@pe_ix _ _ _ _ _ _ _ ix_list (pv 1) (pv 4) (fun _ _ => rfl)) (@pa_cons _ _ _ _ _ (@pe_ix _ _ _ _ _ _ _ ix_list (pv 1) (@pe_op _ _ _ _ _ _ _ _ op_add (pv 4) (@pe_int _ _ _ _)) (fun _ _ => rfl)) (@pa_nil _) star_sub) star_sub) (by rfl) (by decide) (by rfl) (by rfl))))) (@pss_nil _)) (@pss_cons _ _ _ _ _ (@ps_set _ _ 5 _ _ _ _ sc_l_spot.nd rfl (Or.inl rfl) (@pe_int _ _ _ _) (by rfl) (by first | exact .inl rfl | exact .inr rfl | assumption)) (@pss_cons _ _ _ _ _ (@ps_if _ _ _ _ _ _ _ _ (@pt_cmpR _ _ _ _ _ _ _ _ op_eq (pv 3) (@pe_int _ _ _ _) (nomark _)) (@pss_one _ _ _ (@ps_set _ _ 5 _ _ _ _ sc_l_spot.nd rfl (Or.inl rfl) (@pe_op _ _ _ _ _ _ _ _ op_add (@pe_int _ _ _ _) (@pe_fn _ _ _ _ _ _ _ _ _ _ _ _ _ _ T.l_draw (ok_l_draw T) hr (by decide) (@pa_cons _ _ _ _ _ (pv 0) (@pa_cons _ _ _ _ _ (@pe_int _ _ _ _) (@pa_nil _) star_con) star_name) (by rfl) (by decide) (by rfl) (by rfl))) (by rfl) (by first | exact .inl rfl | exact .inr rfl | assumption))) (@pss_nil _)) (@pss_cons _ _ _ _ _ (@ps_set _ _ 6 _ _ _ _ sc_l_spot.nd rfl (Or.inl rfl) (@pe_fn _ _ _ _ _ _ _ _ _ _ _ _ _ _ T.l_draw (ok_l_draw T) hr (by decide) (@pa_cons _ _ _ _ _ (pv 0) (@pa_cons _ _ _ _ _ (pv 2) (@pa_nil _) star_name) star_name) (by rfl) (by decide) (by rfl) (by rfl)) (by rfl) (by first | exact .inl rfl | exact .inr rfl | assumption)) (@pss_one _ _ _ (@ps_ret _ _ _ _ (@pe_fn _ _ _ _ _ _ _ _ _ _ _ _ _ _ T.l_point (ok_l_point T) hr (by decide) (@pa_cons _ _ _ _ _ (pv 6) (@pa_cons _ _ _ _ _ (@pe_fn _ _ _ _ _ _ _ _ _ _ _ _ _ _ T.l_draw (ok_l_draw T) hr (by decide) (@pa_cons _ _ _ _ _ (pv 0) (@pa_cons _ _ _ _ _ (pv 2) (@pa_nil _) star_name) star_name) (by rfl) (by decide) (by rfl) (by rfl)) (@pa_cons _ _ _ _ _ (pv 5) (@pa_nil _) star_name) star_call) star_name) (by rfl) (by decide) (by rfl) (by rfl)))))))))), ?_⟩
    refine st_setG (gv_draw hh (pa_c (pu_v rfl) (pa_c pu_c pa_n)) (by decide) Bd.small) ?_
    rintro _ H1 ⟨⟨n, rfl, n0, n1⟩, hh1, s1⟩
    obtain ⟨ys, hys⟩ := hh.ls
    obtain ⟨ys1, hys1⟩ := hh1.ls
    have lp1 := lp.but nsl hys s1
    obtain ⟨xs, hx1, hxl⟩ := lp1.ls
    refine st_ifN (pt_and (pt_t (pu_eqI (pu_v rfl) pu_c)) fun _ => pt_t (pu_gt (pu_lenL (pa_c (pu_v rfl) pa_n) (SqL.of hx1)) pu_c)) (fun e => ?_) fun _ => ?_
    · rw [Bool.and_eq_true, decide_eq_true_eq, decide_eq_true_eq] at e
      refine st_retG (gv_seen hh1 lp1 nsl (by omega) (by omega) (by rw [hxl]) (pu_v rfl) (pa_c (pu_v rfl) (pa_c (pu_lenL (pa_c (pu_v rfl) pa_n) (SqL.of hx1)) pa_n))) ?_
      rintro v H2 ⟨hh2, s2, p, hp, tp⟩
      exact k v H2 p hh2 (s1.trans s2) tp ((hdr p hp).mono (by omega) (Nat.le_refl _))
    refine st_ifN (pt_and (pt_t (pu_eqI (pu_v rfl) pu_c)) fun _ => pt_t (pu_gt (pu_lenL (pa_c (pu_v rfl) pa_n) (SqL.of hx1)) pu_c)) (fun e => ?_) fun _ => ?_
    · rw [Bool.and_eq_true, decide_eq_true_eq, decide_eq_true_eq] at e
      refine st_setG (gv_draw hh1 (pa_c (pu_v rfl) (pa_c (pu_sub (pu_lenL (pa_c (pu_v rfl) pa_n) (SqL.of hx1)) pu_c) pa_n)) (by omega) (Bd.small (by omega))) ?_
      rintro _ H2 ⟨⟨j, rfl, j0, j1⟩, hh2, s2⟩
      have lp2 := lp1.but nsl hys1 s2
      obtain ⟨xs2, hx2, hxl2⟩ := lp2.ls
      obtain ⟨p, hp⟩ : ∃ p, ps[j.toNat]? = some p := ⟨_, List.getElem?_eq_getElem (by omega)⟩
      obtain ⟨q, hq⟩ : ∃ q, ps[j.toNat + 1]? = some q := ⟨_, List.getElem?_eq_getElem (by omega)⟩
      obtain ⟨vp, ep, tp⟩ := lp2.get hx2 hp
      obtain ⟨vq, eq, tq⟩ := lp2.get hx2 hq
      have ap := atI_nat ep
      have aq := atI_nat eq
      rw [show ((j.toNat : Nat) : Int) = j by omega] at ap
      rw [show ((j.toNat + 1 : Nat) : Int) = j + 1 by omega] at aq
      have dp := hdr p (List.mem_of_getElem? hp)
      have dq := hdr q (List.mem_of_getElem? hq)
      refine st_retG (gv_mid (pa_c (pu_ixL (pu_v rfl) (pu_v rfl) (SqL.of hx2) ap) (pa_c (pu_ixL (pu_v rfl) (pu_add (pu_v rfl) pu_c) (SqL.of hx2) aq) pa_n)) tp tq ((dp.sz (by omega) (by omega)).mono (by decide)) ((dq.sz (by omega) (by omega)).mono (by decide)) dp.pos dq.pos) ?_
      rintro v H3 ⟨s3, r, tr, ir⟩
      exact k v H3 r (hh2.same s3) ((s1.trans s2).trans s3.b) tr (dp.mid dq ir)
    refine st_set pu_c ?_
    refine st_ifSet (R := fun v H' => (∃ c : Int, v = .int c ∧ 1 ≤ c ∧ c ≤ 3) ∧ HandAt H' hd sc ∧ SameB hd H H') (v0 := .int 1) (pt_t (pu_eqI (pu_v rfl) pu_c)) (fun _ => (gv_addDraw hh1 pu_c (pa_c (pu_v rfl) (pa_c pu_c pa_n)) (by decide) Bd.small).imp ?_) rfl (fun _ => ⟨⟨1, rfl, by decide, by decide⟩, hh1, s1⟩) ?_
    · rintro _ H' ⟨⟨j, rfl, j0, j1⟩, a, b⟩
      exact ⟨⟨_, rfl, by omega, by omega⟩, a, s1.trans b⟩
    rintro _ H2 ⟨⟨c, rfl, c1, c3⟩, hh2, s2⟩
    have bw : Bd 9000 w := Bd.small (by omega)
    refine st_setG (gv_draw hh2 (pa_c (pu_v rfl) (pa_c (pu_v rfl) pa_n)) w0 bw) ?_
    rintro _ H3 ⟨⟨a, rfl, a0, a1⟩, hh3, s3⟩
    refine st_retG (R := fun v H' => HandAt H' hd sc ∧ SameB hd H H' ∧ ∃ r, AtP H' v r ∧ Dr (kk + 1) m r) (gv_callA (ga_cons (pu_v rfl).gv fun x Hx ex => ga_cons (R1 := fun v H' => (∃ b : Int, v = .int b ∧ 0 ≤ b ∧ b < w) ∧ HandAt H' hd sc ∧ SameB hd H H') ?_ fun y Hy ey => ga_cons (pu_v rfl).gv fun _ _ _ => ga_nil) ?_) ?_
    · obtain ⟨rfl, rfl⟩ := ex
      exact (gv_draw hh3 (pa_c (pu_v rfl) (pa_c (pu_v rfl) pa_n)) w0 bw).imp fun v H' ⟨a, b, c⟩ => ⟨a, b, (s2.trans s3).trans c⟩
    · rintro vs H4 ⟨x, H5, r, rfl, ⟨rfl, rfl⟩, y, H6, r2, rfl, ⟨⟨b, rfl, b0, b1⟩, hh6, s6⟩, z, H7, r3, rfl, ⟨rfl, rfl⟩, rfl, rfl⟩ Q f
      exact ⟨a, b, c, rfl, by omega, Bd.small (by omega), fun v H' r s t i => f _ _ ⟨hh6.same s, s6.trans s.b, r, t, (Dr.fresh (kk + 1) i ⟨a0, by omega⟩ ⟨b0, by omega⟩ ⟨c1, c3⟩).mono (Nat.le_refl _) hm9⟩⟩
    · rintro v H' ⟨a, s, r, t, d⟩
      exact k v H' r a s t d
def sp_l_ring : Sp := fun vs H Q _ => ∃ hd sc sl ps w, ∃ n : Nat, vs = [.ref hd, .ref sl, .int w, .int n] ∧ HandAt H hd sc ∧ LP H sl ps ∧ sl ≠ hd ∧ sl ≠ sc ∧ (∀ p ∈ ps, Dr ps.length (9 + 2 * ps.length) p) ∧ ps.length + n ≤ 60 ∧ 0 < w ∧ w ≤ 9 ∧ ∀ rl H' r, H rl = none → HandAt H' hd sc → Same2 hd sl H H' → LP H' rl r → r.length = n → LP H' sl (ps ++ r) → (∀ p ∈ ps ++ r, Dr (ps.length + n) (9 + 2 * (ps.length + n)) p) → Q (.ref rl) H'
theorem sc_l_ring : FnScope ["_law_hand_here", "_law_seen", "_law_wide", "_law_many", "_law_ring_here", "_law_k", "_law_p"] ["_law_hand_here", "_law_seen", "_law_wide", "_law_many"] (defScope s_l_ring) := ⟨rfl, rfl, rfl, by decide +kernel, rfl, by decide +kernel, by decide +kernel⟩
theorem ok_l_ring (T : Txt K mg t) : FnOk P w K mg base CX0 5 t.f_l_ring t.d_l_ring ["_law_hand_here", "_law_seen", "_law_wide", "_law_many"] sp_l_ring := by
  refine T.l_ring.F.ok (k := 4) sc_l_ring (fun vs H Q E h => ?_) (fun cdv A outer s H vs Q E hr h => ?_)
  · obtain ⟨hd, sc, sl, ps, w, n, rfl, _⟩ := h
    rfl
  · obtain ⟨hd, sc, sl, ps, w, n, rfl, hh, lp, nsl, nsc, hdr, hpn, w0, w9, k⟩ := h
    refine ⟨_, (@pss_cons _ _ _ _ _ (@ps_set _ _ 4 _ _ _ _ sc_l_ring.nd rfl (Or.inl rfl) (@pe_lst _ _ _ _ (@pa_nil _)) (by rfl) (by first | exact .inl rfl | exact .inr rfl | assumption)) (@pss_cons _ _ _ _ _ (@ps_for _ _ _ _ _ _ _ _ PassesOwn.never rfl (@pi_range1 _ _ _ _ _ _ rfl T.b_range (@pa_cons _ _ _ _ _ (pv 3) (@pa_nil _) star_name) (by rfl)) (@pg_name _ _ 5 _ sc_l_ring.nd rfl (Or.inl rfl) (by first | exact .inl rfl | exact .inr rfl | assumption)) (@pss_cons _ _ _ _ _ (@ps_set _ _ 6 _ _ _ _ sc_l_ring.nd rfl (Or.inl rfl) (@pe_fn _ _ _ _ _ _ _ _ _ _ _ _ _ _ T.l_spot (ok_l_spot T) hr (by decide) (@pa_cons _ _ _ _ _ (pv 0) (@pa_cons _ _ _ _ _ (pv 1) (@pa_cons _ _ _ _ _ (pv 2) (@pa_nil _) star_name) star_name) star_name) (by rfl) (by decide) (by rfl) (by rfl)) (by rfl) (by first | exact .inl rfl | exact .inr rfl | assumption)) (@pss_cons _ _ _ _ _ (@ps_while _ _ _ _ _ _ PassesOwn.never (PW.pt (@pw_and _ _ _ _ _ _ _ (@pt_cmpR _ _ _ _ _ _ _ _ op_gt (pv 5) (@pe_int _ _ _ _) (nomark _)) (@pw_and1 _ _ _ _ (PW.pt (@pw_or _ _ _ _ _ _ _ (@pt_cmpR _ _ _ _ _ _ _ _ (op_eqTI hr.units) (pv 6) (@pe_ix _ _ _ _ _ _ _ ix_list (pv 4) (@pe_op _ _ _ _ _ _ _ _ op_sub (pv 5) (@pe_int _ _ _ _)) (fun _ _ => rfl)) (nomark _)) (@pw_or1 _ _ _ _ (PW.pt (@pw_and _ _ _ _ _ _ _ (@pt_cmpR _ _ _ _ _ _ _ _ op_eq (pv 5) (@pe_op _ _ _ _ _ _ _ _ op_sub (pv 3) (@pe_int _ _ _ _)) (nomark _)) (@pw_and1 _ _ _ _ (@pt_cmpR _ _ _ _ _ _ _ _ (op_eqTI hr.units) (pv 6) (@pe_ix _ _ _ _ _ _ _ ix_list (pv 4) (@pe_int _ _ _ _) (fun _ _ => rfl)) (nomark _))))))))))) (@pss_one _ _ _ (@ps_set _ _ 6 _ _ _ _ sc_l_ring.nd rfl (Or.inl rfl) (@pe_fn _ _ _ _ _ _ _ _ _ _ _ _ _ _ T.l_point (ok_l_point T) hr (by decide) (@pa_cons _ _ _ _ _ (@pe_op _ _ _ _ _ _ _ _ op_add (@pe_ix _ _ _ _ _ _ _ ix_tup (pv 6) (@pe_int _ _ _ _) (fun _ _ => rfl)) (@pe_ix _ _ _ _ _ _ _ ix_tup (pv 6) (@pe_int _ _ _ _) (fun _ _ => rfl))) (@pa_cons _ _ _ _ _ (@pe_ix _ _ _ _ _ _ _ ix_tup (pv 6) (@pe_int _ _ _ _) (fun _ _ => rfl)) (@pa_cons _ _ _ _ _ (@pe_ix _ _ _ _ _ _ _ ix_tup (pv 6) (@pe_int _ _ _ _) (fun _ _ => rfl)) (@pa_nil _) star_sub) star_sub) star_bin) (by rfl) (by decide) (by rfl) (by rfl)) (by rfl) (by first | exact .inl rfl | exact .inr rfl | assumption)))) (@pss_cons _ _ _ _ _ (@ps_expr _ _ _ _ (@pe_bm _ _ _ _ _ _ _ _ _ _ _ _ PySem.F.plainAttrs_list PySem.F.slot_list_append PySem.F.type_list_append mt_append (pv 4) (@pa_cons _ _ _ _ _ (pv 6) (@pa_nil _) star_name) (by rfl) (by rfl) (by rfl) (by rfl) (by rfl)) (by rfl)) (@pss_one _ _ _ (@ps_expr _ _ _ _ (@pe_bm _ _ _ _ _ _ _ _ _ _ _ _ PySem.F.plainAttrs_list PySem.F.slot_list_append PySem.F.type_list_append mt_append (pv 1) (@pa_cons _ _ _ _ _ (pv 6) (@pa_nil _) star_name) (by rfl) (by rfl) (by rfl) (by rfl) (by rfl)) (by rfl)))))) (by intro _; rfl)) (@pss_one _ _ _ (@ps_ret _ _ _ _ (pv 4))))), ?_⟩
    refine st_setG (gv_lst pa_n (by show 0 ≤ sizeLine; decide)) ?_
    rintro _ _ ⟨rl, hr0, rfl, rfl⟩
    obtain ⟨hys0, ehys0⟩ := hh.ls
    obtain ⟨sys0, esys0, _⟩ := lp.ls
    obtain ⟨nrh, nrc⟩ := hh.fresh hr0
    have nrs : rl ≠ sl := fun e => by subst e; rw [esys0] at hr0; cases hr0
    refine st_range (n := (n : Int)) (pa_c (pu_v rfl) pa_n) (by omega) (by omega) (fun j σ H' => ∃ (r : List Pt3) (z1 z2 : Option V), σ = [some (.ref hd), some (.ref sl), some (.int w), some (.int n), some (.ref rl), z1, z2] ∧ HandAt H' hd sc ∧ Same2 hd sl H H' ∧ LP H' rl r ∧ r.length = j ∧ LP H' sl (ps ++ r) ∧ ∀ p ∈ ps ++ r, Dr (ps.length + j) (9 + 2 * (ps.length + j)) p) ⟨[], none, none, rfl, hh.upd ⟨nrh, nrc⟩, Same2.refl.new hr0, ⟨[], upd_same, .nil⟩, rfl, by rw [List.append_nil]; exact lp.same (Same.upd hr0), by rw [List.append_nil]; exact hdr⟩ ?_ ?_
    · rintro j σ H1 hj ⟨r, z1, z2, rfl, hh1, s1, lr1, hrl, ls1, hd1⟩
      have hj' : j < n := by omega
      refine st_setG (R := fun v H' => HandAt H' hd sc ∧ SameB hd H1 H' ∧ ∃ p, AtP H' v p ∧ Dr (ps.length + j + 1) (9 + 2 * (ps.length + j)) p) (gv_call (pa_c (pu_v rfl) (pa_c (pu_v rfl) (pa_c (pu_v rfl) pa_n))) fun Q f => ⟨hd, sc, sl, ps ++ r, w, ps.length + j, 9 + 2 * (ps.length + j), rfl, hh1, ls1, nsl, by rw [List.length_append]; omega, hd1, by omega, by omega, by omega, w0, w9, fun v H' p a s t d => f _ _ ⟨a, s, p, t, d⟩⟩) ?_
      rintro v H2 ⟨hh2, s2, p, tp, dp⟩
      obtain ⟨ys1, eys1⟩ := hh1.ls
      have lr2 := lr1.but nrh eys1 s2
      have ls2 := ls1.but nsl eys1 s2
      have hpos : ∀ q ∈ r, 0 < q.z := fun q hq => (hd1 q (List.mem_append_right _ hq)).pos
      have gpos : ∀ i, 0 < (r.getD i pt0).z := fun i => by
        by_cases h : i < r.length
        · exact hpos _ (getD_mem h).1
        · rw [List.getD_eq_getElem?_getD, List.getElem?_eq_none (by omega)]
          decide
      refine st_whileN (fun m σ' H' => ∃ v p, σ' = [some (.ref hd), some (.ref sl), some (.int w), some (.int n), some (.ref rl), some (.int (0 + j)), some v] ∧ Same H2 H' ∧ AtP H' v p ∧ m ≤ 2 ∧ Dr (ps.length + j + 1) (9 + 2 * (ps.length + j) + 2 - m) p ∧ rgt p (r.getD (j - 1) pt0) + rgt p (r.getD 0 pt0) ≤ m) ⟨2, v, p, rfl, Same.rfl', tp, Nat.le_refl _, dp.mono (Nat.le_refl _) (by omega), by have := rgt_le p (r.getD (j - 1) pt0); have := rgt_le p (r.getD 0 pt0); omega⟩ ?_
      rintro m _ H3 ⟨v, p, rfl, s3, tp, hm, dp, hmu⟩
      have lr3 := lr2.same s3
      have ls3 := ls2.same s3
      have hh3 := hh2.same s3
      obtain ⟨zs, hz3, hzl⟩ := lr3.ls
      by_cases j0 : j = 0
      · refine ⟨fun b H' => b = false ∧ H3 = H', (pt_and (b := false) (c := false) (put_cast (pt_t (pu_gt (pu_v rfl) pu_c)) (by rw [j0]; rfl)) fun e => by cases e).gt ⟨rfl, rfl⟩, fun H' e => (by cases e.1), ?_⟩
        rintro _ ⟨_, rfl⟩
        obtain ⟨zs', hz', hzl', lr4⟩ := lr3.snoc tp
        refine st_app (R := fun v' H' => v = v' ∧ H3 = H') (pu_v rfl) hz' (fun Q f => (pu_v rfl : Pu (tVar 6) _ _ v) _ (f _ _ ⟨rfl, rfl⟩)) ?_
        rintro _ _ ⟨rfl, rfl⟩
        refine ⟨zs', hz', small1000 (by omega), ?_⟩
        have tp4 : AtP (upd H3 rl (.lst (zs' ++ [v]))) v p := TupT.upd tp hz'
        have ls4 := ls3.but (Ne.symm nrs) hz' (SameB.upd (o := .lst (zs' ++ [v])))
        obtain ⟨ss, hss, hssl, ls5⟩ := ls4.snoc tp4
        refine st_app1 (R := fun v' H' => v = v' ∧ upd H3 rl (.lst (zs' ++ [v])) = H') (pu_v rfl) hss (fun Q f => (pu_v rfl : Pu (tVar 6) _ _ v) _ (f _ _ ⟨rfl, rfl⟩)) ?_
        rintro _ _ ⟨rfl, rfl⟩
        refine ⟨ss, hss, small1000 (by rw [hssl, List.length_append]; omega), r ++ [p], _, _, rfl, (hh3.upd ⟨nrh, nrc⟩).upd ⟨nsl, nsc⟩, (((s1.trans s2.two).trans s3.two).new hr0).at, lr4.but nrs hss SameB.upd, by rw [List.length_append, hrl]; rfl, by rw [← List.append_assoc]; exact ls5, ?_⟩
        rw [← List.append_assoc]
        intro q hq
        rcases List.mem_append.mp hq with hq | hq
        · exact (hd1 q hq).mono (by omega) (by omega)
        · rw [List.mem_singleton] at hq
          subst hq
          exact dp.mono (by omega) (by omega)
      · obtain ⟨_, g1⟩ := getD_mem (ps := r) (k := j - 1) (by omega)
        obtain ⟨_, g2⟩ := getD_mem (ps := r) (k := 0) (by omega)
        obtain ⟨u1, e1, t1⟩ := lr3.get hz3 g1
        obtain ⟨u2, e2, t2⟩ := lr3.get hz3 g2
        have a1 : atI zs (0 + (j : Int) - 1) = some u1 := by
          have := atI_nat e1
          rw [show ((j - 1 : Nat) : Int) = 0 + (j : Int) - 1 by omega] at this
          exact this
        have tst := pt_and (pt_t (pu_gt (σ := [some (.ref hd), some (.ref sl), some (.int w), some (.int n), some (.ref rl), some (.int (0 + j)), some v]) (H := H3) (pu_v (k := 5) rfl) (pu_c (v := .int 0)))) fun _ => pt_or (pt_t (pu_eqT (K := K) (pu_v (k := 6) rfl) (pu_ixL (K := K) (pu_v (k := 4) rfl) (pu_sub (pu_v (k := 5) rfl) (pu_c (v := .int 1))) (SqL.of hz3) a1) (TupT.i tp) (TupT.i t1))) fun _ => pt_and (pt_t (pu_eqI (pu_v (k := 5) rfl) (pu_sub (pu_v (k := 3) rfl) (pu_c (v := .int 1))))) fun _ => pt_t (pu_eqT (K := K) (pu_v (k := 6) rfl) (pu_ixL (K := K) (pu_v (k := 4) rfl) (pu_c (v := .int 0)) (SqL.of hz3) (atI_nat e2)) (TupT.i tp) (TupT.i t2))
        refine ⟨fun b H' => H3 = H' ∧ (b = true → p = r.getD (j - 1) pt0 ∨ p = r.getD 0 pt0), tst.gt ⟨rfl, fun e => ?_⟩, ?_, ?_⟩
        · rw [Bool.and_eq_true, Bool.or_eq_true, Bool.and_eq_true, decide_eq_true_eq, decide_eq_true_eq] at e
          rcases e.2 with h | h
          · exact .inl (l3_inj h)
          · exact .inr (l3_inj (of_decide_eq_true h.2))
        · rintro _ ⟨rfl, he⟩
          have he := he rfl
          obtain ⟨pa, rfl, hpa⟩ := id tp
          refine st_setG1 (gv_point (pa_c (pu_add (pu_ixT (pu_v rfl) pu_c (SqT.of (hpa)) rfl) (pu_ixT (pu_v rfl) pu_c (SqT.of (hpa)) rfl)) (pa_c (pu_ixT (pu_v rfl) pu_c (SqT.of (hpa)) rfl) (pa_c (pu_ixT (pu_v rfl) pu_c (SqT.of (hpa)) rfl) pa_n))) dp.pos ((dp.sz (by omega) (by omega)).z.mono (by decide))) ?_
          rintro v' H4 ⟨s4, q, tq, iq⟩
          obtain ⟨m1, m2⟩ := rgt_less dp.pos (gpos _) (gpos _) iq hmu he
          exact ⟨m - 1, by omega, v', q, rfl, s3.trans s4, tq, by omega, (dp.step iq).mono (Nat.le_refl _) (by omega), m2⟩
        · rintro _ ⟨rfl, _⟩
          obtain ⟨zs', hz', hzl', lr4⟩ := lr3.snoc tp
          refine st_app (R := fun v' H' => v = v' ∧ H3 = H') (pu_v rfl) hz' (fun Q f => (pu_v rfl : Pu (tVar 6) _ _ v) _ (f _ _ ⟨rfl, rfl⟩)) ?_
          rintro _ _ ⟨rfl, rfl⟩
          refine ⟨zs', hz', small1000 (by omega), ?_⟩
          have tp4 : AtP (upd H3 rl (.lst (zs' ++ [v]))) v p := TupT.upd tp hz'
          have ls4 := ls3.but (Ne.symm nrs) hz' (SameB.upd (o := .lst (zs' ++ [v])))
          obtain ⟨ss, hss, hssl, ls5⟩ := ls4.snoc tp4
          refine st_app1 (R := fun v' H' => v = v' ∧ upd H3 rl (.lst (zs' ++ [v])) = H') (pu_v rfl) hss (fun Q f => (pu_v rfl : Pu (tVar 6) _ _ v) _ (f _ _ ⟨rfl, rfl⟩)) ?_
          rintro _ _ ⟨rfl, rfl⟩
          refine ⟨ss, hss, small1000 (by rw [hssl, List.length_append]; omega), r ++ [p], _, _, rfl, (hh3.upd ⟨nrh, nrc⟩).upd ⟨nsl, nsc⟩, (((s1.trans s2.two).trans s3.two).new hr0).at, lr4.but nrs hss SameB.upd, by rw [List.length_append, hrl]; rfl, by rw [← List.append_assoc]; exact ls5, ?_⟩
          rw [← List.append_assoc]
          intro q hq
          rcases List.mem_append.mp hq with hq | hq
          · exact (hd1 q hq).mono (by omega) (by omega)
          · rw [List.mem_singleton] at hq
            subst hq
            exact dp.mono (by omega) (by omega)
    · rintro σ H1 ⟨r, z1, z2, rfl, hh1, s1, lr1, hrl, ls1, hd1⟩
      rw [show ((n : Int)).toNat = n by omega] at hrl hd1
      exact st_ret (pu_v rfl) (k rl H1 r hr0 hh1 s1 lr1 hrl ls1 hd1)
structure Fr (f a b c : Int) : Prop where
  f : 0 < f ∧ f ≤ 10 ^ 5
  a : a.natAbs ≤ 10 ^ 6
  b : b.natAbs ≤ 10 ^ 6
  c : 1 ≤ c ∧ c ≤ 20
def sp_l_frame : Sp := fun vs H Q _ => ∃ hd sc, vs = [.ref hd] ∧ HandAt H hd sc ∧ ∀ v H' f a b c, HandAt H' hd sc → SameB hd H H' → TupT H' v [f, a, b, c] → Fr f a b c → Q v H'
theorem sc_l_frame : FnScope ["_law_hand_here", "_law_factor", "_law_right_here", "_law_up"] ["_law_hand_here"] (defScope s_l_frame) := ⟨rfl, rfl, rfl, by decide +kernel, rfl, by decide +kernel, by decide +kernel⟩
theorem ok_l_frame (T : Txt K mg t) : FnOk P w K mg base CX0 4 t.f_l_frame t.d_l_frame ["_law_hand_here"] sp_l_frame := by
  refine T.l_frame.F.ok (k := 3) sc_l_frame (fun vs H Q E h => ?_) (fun cdv A outer s H vs Q E hr h => ?_)
  · obtain ⟨hd, sc, rfl, _⟩ := h
    rfl
  · obtain ⟨hd, sc, rfl, hh, k⟩ := h
    refine ⟨_, (@pss_cons _ _ _ _ _ (@ps_if _ _ _ _ _ _ _ _ (@pt_cmpR _ _ _ _ _ _ _ _ op_gt (@pe_fn _ _ _ _ _ _ _ _ _ _ _ _ _ _ T.l_draw (ok_l_draw T) hr (by decide) (@pa_cons _ _ _ _ _ (pv 0) (@pa_cons _ _ _ _ _ (@pe_int _ _ _ _) (@pa_nil _) star_con) star_name) (by rfl) (by decide) (by rfl) (by rfl)) (@pe_int _ _ _ _) (nomark _)) (@pss_one _ _ _ (@ps_ret _ _ _ _ (@pe_tup _ _ _ _ _ (@pa_cons _ _ _ _ _ (@pe_int _ _ _ _) (@pa_cons _ _ _ _ _ (@pe_int _ _ _ _) (@pa_cons _ _ _ _ _ (@pe_int _ _ _ _) (@pa_cons _ _ _ _ _ (@pe_int _ _ _ _) (@pa_nil _) star_con) star_con) star_con) star_con)))) (@pss_nil _)) (@pss_cons _ _ _ _ _ (@ps_set _ _ 1 _ _ _ _ sc_l_frame.nd rfl (Or.inl rfl) (@pe_ix _ _ _ _ _ _ _ ix_list (@pe_lst _ _ _ _ (@pa_cons _ _ _ _ _ (@pe_int _ _ _ _) (@pa_cons _ _ _ _ _ (@pe_int _ _ _ _) (@pa_cons _ _ _ _ _ (@pe_int _ _ _ _) (@pa_cons _ _ _ _ _ (@pe_op _ _ _ _ _ _ _ _ op_pow (@pe_int _ _ _ _) (@pe_int _ _ _ _)) (@pa_nil _) star_bin) star_con) star_con) star_con)) (@pe_fn _ _ _ _ _ _ _ _ _ _ _ _ _ _ T.l_draw (ok_l_draw T) hr (by decide) (@pa_cons _ _ _ _ _ (pv 0) (@pa_cons _ _ _ _ _ (@pe_int _ _ _ _) (@pa_nil _) star_con) star_name) (by rfl) (by decide) (by rfl) (by rfl)) (fun _ _ => rfl)) (by rfl) (by first | exact .inl rfl | exact .inr rfl | assumption)) (@pss_cons _ _ _ _ _ (@ps_set _ _ 2 _ _ _ _ sc_l_frame.nd rfl (Or.inl rfl) (@pe_op _ _ _ _ _ _ _ _ op_sub (@pe_fn _ _ _ _ _ _ _ _ _ _ _ _ _ _ T.l_draw (ok_l_draw T) hr (by decide) (@pa_cons _ _ _ _ _ (pv 0) (@pa_cons _ _ _ _ _ (@pe_op _ _ _ _ _ _ _ _ op_add (@pe_op _ _ _ _ _ _ _ _ op_mulB (@pe_int _ _ _ _) (@pe_op _ _ _ _ _ _ _ _ op_pow (@pe_int _ _ _ _) (@pe_int _ _ _ _))) (@pe_int _ _ _ _)) (@pa_nil _) star_bin) star_name) (by rfl) (by decide) (by rfl) (by rfl)) (@pe_op _ _ _ _ _ _ _ _ op_pow (@pe_int _ _ _ _) (@pe_int _ _ _ _))) (by rfl) (by first | exact .inl rfl | exact .inr rfl | assumption)) (@pss_cons _ _ _ _ _ (@ps_set _ _ 3 _ _ _ _ sc_l_frame.nd rfl (Or.inl rfl) (@pe_op _ _ _ _ _ _ _ _ op_sub (@pe_fn _ _ _ _ _ _ _ _ _ _ _ _ _ _ T.l_draw (ok_l_draw T) hr (by decide) (@pa_cons _ _ _ _ _ (pv 0) (@pa_cons _ _ _ _ _ (@pe_op _ _ _ _ _ _ _ _ op_add (@pe_op _ _ _ _ _ _ _ _ op_mulB (@pe_int _ _ _ _) (@pe_op _ _ _ _ _ _ _ _ op_pow (@pe_int _ _ _ _) (@pe_int _ _ _ _))) (@pe_int _ _ _ _)) (@pa_nil _) star_bin) star_name) (by rfl) (by decide) (by rfl) (by rfl)) (@pe_op _ _ _ _ _ _ _ _ op_pow (@pe_int _ _ _ _) (@pe_int _ _ _ _))) (by rfl) (by first | exact .inl rfl | exact .inr rfl | assumption)) (@pss_one _ _ _ (@ps_ret _ _ _ _ (@pe_tup _ _ _ _ _ (@pa_cons _ _ _ _ _ (pv 1) (@pa_cons _ _ _ _ _ (pv 2) (@pa_cons _ _ _ _ _ (pv 3) (@pa_cons _ _ _ _ _ (@pe_op _ _ _ _ _ _ _ _ op_add (@pe_int _ _ _ _) (@pe_fn _ _ _ _ _ _ _ _ _ _ _ _ _ _ T.l_draw (ok_l_draw T) hr (by decide) (@pa_cons _ _ _ _ _ (pv 0) (@pa_cons _ _ _ _ _ (@pe_int _ _ _ _) (@pa_nil _) star_con) star_name) (by rfl) (by decide) (by rfl) (by rfl))) (@pa_nil _) star_bin) star_name) star_name) star_name)))))))), ?_⟩
    refine st_ifNG (R := fun b H' => HandAt H' hd sc ∧ SameB hd H H') ?_ ?_ ?_
    · intro Q f
      refine gv_draw hh (pa_c (pu_v rfl) (pa_c pu_c pa_n)) (by decide) Bd.small _ ?_
      rintro _ H1 ⟨⟨n, rfl, n0, n1⟩, hh1, s1⟩
      exact ⟨n, 0, rfl, rfl, _, rfl, f _ _ ⟨hh1, s1⟩⟩
    · rintro H1 ⟨hh1, s1⟩
      refine st_retG (gv_tup (pa_c pu_c (pa_c pu_c (pa_c pu_c (pa_c pu_c pa_n)))) (by show 4 ≤ sizeLine; decide)) ?_
      rintro _ _ ⟨p, hp, rfl, rfl⟩
      exact k _ _ 1 0 0 1 (hh1.same (Same.upd hp)) (s1.trans (Same.upd hp).b) (TupT.of (ns := [1, 0, 0, 1]) upd_same) ⟨⟨by decide, by decide⟩, by decide, by decide, by decide, by decide⟩
    rintro H1 ⟨hh1, s1⟩
    refine st_setG (gv_pick (ys := [1, 7, 1000, 10 ^ 5]) (m := 10 ^ 5) hh1 (pa_c pu_c (pa_c pu_c (pa_c pu_c (pa_c (pu_pow pu_c pu_c ⟨by decide, by decide, by decide⟩) pa_n)))) (by decide) (by decide) (by decide) (fun _ => pa_c (pu_v rfl) (pa_c pu_c pa_n))) ?_
    rintro _ H2 ⟨⟨f, rfl, f0, f1⟩, hh2, s2⟩
    have D2 : ∀ {σ : L2.St} {H : Hp}, σ[0]? = some (some (.ref hd)) → HandAt H hd sc → Gv (tOp (rI0 fun i j => .int (i - j)) (tCall sp_l_draw [] E0 (tCons (tVar 0) (tCons (tOp (rI0 fun i j => .int (i + j)) (tOp (rI IntMulOk fun i j => .int (i * j)) (tC (.int 2)) (tOp (rI CPow fun i j => .int (i ^ j.toNat)) (tC (.int 10)) (tC (.int 6)))) (tC (.int 1))) tNil))) (tOp (rI CPow fun i j => .int (i ^ j.toNat)) (tC (.int 10)) (tC (.int 6)))) σ H (fun v H' => (∃ j : Int, v = .int (j - 10 ^ 6) ∧ 0 ≤ j ∧ j < 2 * 10 ^ 6 + 1) ∧ HandAt H' hd sc ∧ SameB hd H H') := fun {σ H} h0 hh => gv_drawSub (n := 2 * 10 ^ 6 + 1) (c := 10 ^ 6) hh (fun _ => pu_pow pu_c pu_c ⟨by decide, by decide, by decide⟩) (pa_c (pu_v h0) (pa_c (pu_add (pu_mul pu_c (pu_pow pu_c pu_c ⟨by decide, by decide, by decide⟩) (IntMulOk.of_left (by decide))) pu_c) pa_n)) (by decide) Bd.small
    refine st_setG (D2 rfl hh2) ?_
    rintro _ H3 ⟨⟨a, rfl, a0, a1⟩, hh3, s3⟩
    refine st_setG (D2 rfl hh3) ?_
    rintro _ H4 ⟨⟨b, rfl, b0, b1⟩, hh4, s4⟩
    refine st_retG (gv_tupG (ga_cons (pu_v rfl).gv fun x Hx ex => ga_cons (pu_v rfl).gv fun y Hy ey => ga_cons (pu_v rfl).gv fun z Hz ez => ga_cons (R1 := fun v H' => (∃ j : Int, v = .int (1 + j) ∧ 0 ≤ j ∧ j < 20) ∧ HandAt H' hd sc ∧ SameB hd H4 H') ?_ fun _ _ _ => ga_nil) ?_) ?_
    · obtain ⟨rfl, rfl⟩ := ex
      obtain ⟨rfl, rfl⟩ := ey
      obtain ⟨rfl, rfl⟩ := ez
      exact gv_addDraw hh4 pu_c (pa_c (pu_v rfl) (pa_c pu_c pa_n)) (by decide) Bd.small
    · rintro vs H5 ⟨x, H6, r, rfl, ⟨rfl, rfl⟩, y, H7, r2, rfl, ⟨rfl, rfl⟩, z, H8, r3, rfl, ⟨rfl, rfl⟩, u, H9, r4, rfl, _, rfl, rfl⟩
      show 4 ≤ sizeLine
      decide
    · rintro _ _ ⟨vs, H5, p, ⟨x, H6, r, rfl, ⟨rfl, rfl⟩, y, H7, r2, rfl, ⟨rfl, rfl⟩, z, H8, r3, rfl, ⟨rfl, rfl⟩, u, H9, r4, rfl, ⟨⟨j, rfl, j0, j1⟩, hh9, s9⟩, rfl, rfl⟩, hp, rfl, rfl⟩
      exact k _ _ f (a - 10 ^ 6) (b - 10 ^ 6) (1 + j) (hh9.same (Same.upd hp)) ((((s1.trans s2).trans s3).trans s4).trans (s9.trans (Same.upd hp).b)) (TupT.of (ns := [f, a - 10 ^ 6, b - 10 ^ 6, 1 + j]) upd_same) ⟨⟨f0, f1⟩, by omega, by omega, by omega, by omega⟩
def sp_l_framed : Sp := fun vs H Q _ => ∃ fv v f a b c p, vs = [fv, v] ∧ TupT H fv [f, a, b, c] ∧ Fr f a b c ∧ AtP H v p ∧ Sz 500 p ∧ 0 < p.z ∧ ∀ w H' r, Same H H' → AtP H' w r → 0 < r.z → Sz 600 r → Q w H'
theorem sc_l_framed : FnScope ["_law_frame_here", "_law_p", "_law_a", "_law_b"] ["_law_frame_here", "_law_p"] (defScope s_l_framed) := ⟨rfl, rfl, rfl, by decide +kernel, rfl, by decide +kernel, by decide +kernel⟩
theorem ok_l_framed (T : Txt K mg t) : FnOk P w K mg base CX0 3 t.f_l_framed t.d_l_framed ["_law_frame_here", "_law_p"] sp_l_framed := by
  refine T.l_framed.F.ok (k := 2) sc_l_framed (fun vs H Q E h => ?_) (fun cdv A outer s H vs Q E hr h => ?_)
  · obtain ⟨fv, v, f, a, b, c, p, rfl, _⟩ := h
    rfl
  · obtain ⟨fv, v, f, a, b, c, p, rfl, ⟨x, rfl, hx⟩, F, ⟨y, rfl, hy⟩, zp, p0, k⟩ := h
    refine ⟨_, (@pss_cons _ _ _ _ _ (@ps_set _ _ 2 _ _ _ _ sc_l_framed.nd rfl (Or.inl rfl) (@pe_op _ _ _ _ _ _ _ _ op_add (@pe_op _ _ _ _ _ _ _ _ op_mulB (@pe_ix _ _ _ _ _ _ _ ix_tup (pv 0) (@pe_int _ _ _ _) (fun _ _ => rfl)) (@pe_ix _ _ _ _ _ _ _ ix_tup (pv 1) (@pe_int _ _ _ _) (fun _ _ => rfl))) (@pe_op _ _ _ _ _ _ _ _ op_mulB (@pe_ix _ _ _ _ _ _ _ ix_tup (pv 0) (@pe_int _ _ _ _) (fun _ _ => rfl)) (@pe_ix _ _ _ _ _ _ _ ix_tup (pv 1) (@pe_int _ _ _ _) (fun _ _ => rfl)))) (by rfl) (by first | exact .inl rfl | exact .inr rfl | assumption)) (@pss_cons _ _ _ _ _ (@ps_set _ _ 3 _ _ _ _ sc_l_framed.nd rfl (Or.inl rfl) (@pe_op _ _ _ _ _ _ _ _ op_add (@pe_op _ _ _ _ _ _ _ _ op_mulB (@pe_ix _ _ _ _ _ _ _ ix_tup (pv 0) (@pe_int _ _ _ _) (fun _ _ => rfl)) (@pe_ix _ _ _ _ _ _ _ ix_tup (pv 1) (@pe_int _ _ _ _) (fun _ _ => rfl))) (@pe_op _ _ _ _ _ _ _ _ op_mulB (@pe_ix _ _ _ _ _ _ _ ix_tup (pv 0) (@pe_int _ _ _ _) (fun _ _ => rfl)) (@pe_ix _ _ _ _ _ _ _ ix_tup (pv 1) (@pe_int _ _ _ _) (fun _ _ => rfl)))) (by rfl) (by first | exact .inl rfl | exact .inr rfl | assumption)) (@pss_one _ _ _ (@ps_ret _ _ _ _ (@pe_fn _ _ _ _ _ _ _ _ _ _ _ _ _ _ T.l_point (ok_l_point T) hr (by decide) (@pa_cons _ _ _ _ _ (pv 2) (@pa_cons _ _ _ _ _ (pv 3) (@pa_cons _ _ _ _ _ (@pe_op _ _ _ _ _ _ _ _ op_mulB (@pe_ix _ _ _ _ _ _ _ ix_tup (pv 1) (@pe_int _ _ _ _) (fun _ _ => rfl)) (@pe_ix _ _ _ _ _ _ _ ix_tup (pv 0) (@pe_int _ _ _ _) (fun _ _ => rfl))) (@pa_nil _) star_bin) star_name) star_name) (by rfl) (by decide) (by rfl) (by rfl)))))), ?_⟩
    have s64 : ∀ {i : Int}, i.natAbs ≤ 10 ^ 6 → Bd 64 i := fun h => Bd.small (by omega) (by decide)
    have bf : Bd 64 f := s64 (by have := F.f; omega)
    have ba : Bd 64 a := s64 F.a
    have bb : Bd 64 b := s64 F.b
    have bc : Bd 64 c := s64 (by have := F.c; omega)
    refine st_set (pu_add (pu_mul (pu_ixT (pu_v rfl) pu_c (SqT.of (hx)) rfl) (pu_ixT (pu_v rfl) pu_c (SqT.of (hy)) rfl) (mulOk_of (bf) (zp.x) (by decide))) (pu_mul (pu_ixT (pu_v rfl) pu_c (SqT.of (hx)) rfl) (pu_ixT (pu_v rfl) pu_c (SqT.of (hy)) rfl) (mulOk_of (ba) (zp.z) (by decide)))) ?_
    refine st_set (pu_add (pu_mul (pu_ixT (pu_v rfl) pu_c (SqT.of (hx)) rfl) (pu_ixT (pu_v rfl) pu_c (SqT.of (hy)) rfl) (mulOk_of (bf) (zp.y) (by decide))) (pu_mul (pu_ixT (pu_v rfl) pu_c (SqT.of (hx)) rfl) (pu_ixT (pu_v rfl) pu_c (SqT.of (hy)) rfl) (mulOk_of (bb) (zp.z) (by decide)))) ?_
    refine st_retG (gv_point (pa_c (pu_v rfl) (pa_c (pu_v rfl) (pa_c (pu_mul (pu_ixT (pu_v rfl) pu_c (SqT.of (hy)) rfl) (pu_ixT (pu_v rfl) pu_c (SqT.of (hx)) rfl) (mulOk_of (zp.z) (bc) (by decide))) pa_n))) (Int.mul_pos p0 (by have := F.c; omega)) ((zp.z.mul bc).mono (by decide))) ?_
    rintro v H' ⟨s, r, t, i⟩
    refine k v H' r s t i.pos (Sz.is3 i ?_ ?_ ?_)
    · exact ((bf.mul zp.x).add (ba.mul zp.z)).mono (by decide)
    · exact ((bf.mul zp.y).add (bb.mul zp.z)).mono (by decide)
    · exact (zp.z.mul bc).mono (by decide)
def sp_l_whole : Sp := fun vs H Q _ => ∃ n : Int, vs = [.int n] ∧ Q (.bl true) H
theorem sc_l_whole : FnScope ["_law_thing"] ["_law_thing"] (defScope s_l_whole) := ⟨rfl, rfl, rfl, by decide +kernel, rfl, by decide +kernel, by decide +kernel⟩
theorem ok_l_whole (T : Txt K mg t) : FnOk P w K mg base CX0 1 t.f_l_whole t.d_l_whole ["_law_thing"] sp_l_whole := by
  refine T.l_whole.F.ok (k := 0) sc_l_whole (fun vs H Q E h => ?_) (fun cdv A outer s H vs Q E hr h => ?_)
  · obtain ⟨n, rfl, _⟩ := h
    rfl
  · obtain ⟨n, rfl, k⟩ := h
    refine ⟨_, (@pss_one _ _ _ (@ps_ret _ _ _ _ (@pe_and _ _ _ _ _ _ _ (@pe_callB _ _ _ _ _ _ _ _ _ call_isinst (by rfl) T.b_isinstance PyProof.Rows.boot_isinstance (@pa_cons _ _ _ _ _ (pv 0) (@pa_cons _ _ _ _ _ (@pe_ty _ _ _ _ T.b_int PyProof.Rows.boot_int (by rfl) (by decide) (by decide)) (@pa_nil _) star_name) star_name) (by decide) (by decide) (by rfl) (by rfl)) (@pe_one _ _ _ _ _ (@pe_not _ _ _ _ (@pe_callB _ _ _ _ _ _ _ _ _ call_isinst (by rfl) T.b_isinstance PyProof.Rows.boot_isinstance (@pa_cons _ _ _ _ _ (pv 0) (@pa_cons _ _ _ _ _ (@pe_ty _ _ _ _ T.b_bool PyProof.Rows.boot_bool (by rfl) (by decide) (by decide)) (@pa_nil _) star_name) star_name) (by decide) (by decide) (by rfl) (by rfl))))))), ?_⟩
    exact st_ret (pu_and (pu_isi (pa_c (pu_v rfl) (pa_c pu_c pa_n)) (.int n) kit_same) fun _ => pu_not (pu_isi (pa_c (pu_v rfl) (pa_c pu_c pa_n)) (.int n) kit_int_bool)) k
def sp_l_sides : Sp := fun vs H Q _ => ∃ l rs, vs = [.ref l] ∧ RgL H l rs ∧ rs.length ≤ 10 ∧ (∀ r ∈ rs, 1 ≤ r.length ∧ r.length ≤ 20) ∧ ∀ s H', H s = none → Same H H' → SdL H' s (rs.flatMap cyc) → Q (.ref s) H'
/-- one more side behind -/
theorem sd_more {H H0 : Hp} {sl b : Addr} {xs : List (Pt3 × Pt3)} {u v : V} {x : Pt3 × Pt3} (hs0 : H sl = none) (s : Same H H0) (sd : SdL H0 sl xs) (hb : H0 b = none) (hu : AtP H0 u x.1) (hv : AtP H0 v x.2) (hz : xs.length < 1000) :
    ∃ ys, (upd H0 b (.tup [u, v])) sl = some (.lst ys) ∧ ys.length < sizeLine ∧ Same H (upd (upd H0 b (.tup [u, v])) sl (.lst (ys ++ [.ref b]))) ∧ SdL (upd (upd H0 b (.tup [u, v])) sl (.lst (ys ++ [.ref b]))) sl (xs ++ [x]) := by
  obtain ⟨as, h1, pr⟩ := sd
  have sb : Same H0 (upd H0 b (.tup [u, v])) := Same.upd hb
  have h2 := sb _ _ h1
  refine ⟨_, h2, by rw [List.length_map, paired_len pr]; exact small1000 (by omega), same_updNew (s.trans sb) hs0, as ++ [b], by rw [upd_same, List.map_append]; rfl, ?_⟩
  refine paired_snoc (paired_mono pr fun _ _ y => (y.same sb).but h2 SameB.upd) ?_
  exact SdAt.but ⟨u, v, upd_same, TupT.same hu sb, TupT.same hv sb⟩ h2 SameB.upd
theorem flat_le : ∀ (ls : List (List Pt3)), (∀ r ∈ ls, r.length ≤ 20) → (ls.flatMap cyc).length ≤ 20 * ls.length := fun ls => by
  induction ls with
  | nil => simp
  | cons a ls ih =>
    intro h
    have h1 := h a (by simp)
    have h2 := ih fun r hr => h r (List.mem_cons_of_mem _ hr)
    rw [List.flatMap_cons, List.length_append, List.length_cons, cyc_length]
    omega
theorem sc_l_sides : FnScope ["_law_rings", "_law_sides_here", "_law_ring_here", "_law_k"] ["_law_rings"] (defScope s_l_sides) := ⟨rfl, rfl, rfl, by decide +kernel, rfl, by decide +kernel, by decide +kernel⟩
theorem ok_l_sides (T : Txt K mg t) : FnOk P w K mg base CX0 1 t.f_l_sides t.d_l_sides ["_law_rings"] sp_l_sides := by
  refine T.l_sides.F.ok (k := 0) sc_l_sides (fun vs H Q E h => ?_) (fun cdv A outer s H vs Q E hr h => ?_)
  · obtain ⟨l, rs, rfl, _⟩ := h
    rfl
  · obtain ⟨l, rs, rfl, ⟨as, hl, pr⟩, hn, h20, k⟩ := h
    refine ⟨_, (@pss_cons _ _ _ _ _ (@ps_set _ _ 1 _ _ _ _ sc_l_sides.nd rfl (Or.inl rfl) (@pe_lst _ _ _ _ (@pa_nil _)) (by rfl) (by first | exact .inl rfl | exact .inr rfl | assumption)) (@pss_cons _ _ _ _ _ (@ps_for _ _ _ _ _ _ _ _ PassesOwn.never rfl (@pi_list _ _ _ _ (pv 0)) (@pg_name _ _ 2 _ sc_l_sides.nd rfl (Or.inl rfl) (by first | exact .inl rfl | exact .inr rfl | assumption)) (@pss_cons _ _ _ _ _ (@ps_for _ _ _ _ _ _ _ _ PassesOwn.never rfl (@pi_range1 _ _ _ _ _ _ rfl T.b_range (@pa_cons _ _ _ _ _ (@pe_op _ _ _ _ _ _ _ _ op_sub (@pe_callB _ _ _ _ _ _ _ _ _ call_len_seq (by rfl) T.b_len PySem.boot_len (@pa_cons _ _ _ _ _ (pv 2) (@pa_nil _) star_name) (by decide) (by decide) (by rfl) (by rfl)) (@pe_int _ _ _ _)) (@pa_nil _) star_bin) (by rfl)) (@pg_name _ _ 3 _ sc_l_sides.nd rfl (Or.inl rfl) (by first | exact .inl rfl | exact .inr rfl | assumption)) (@pss_one _ _ _ (@ps_expr _ _ _ _ (@pe_bm _ _ _ _ _ _ _ _ _ _ _ _ PySem.F.plainAttrs_list PySem.F.slot_list_append PySem.F.type_list_append mt_append (pv 1) (@pa_cons _ _ _ _ _ (@pe_tup _ _ _ _ _ (@pa_cons _ _ _ _ _ (@pe_ix _ _ _ _ _ _ _ ix_list (pv 2) (pv 3) (fun _ _ => rfl)) (@pa_cons _ _ _ _ _ (@pe_ix _ _ _ _ _ _ _ ix_list (pv 2) (@pe_op _ _ _ _ _ _ _ _ op_add (pv 3) (@pe_int _ _ _ _)) (fun _ _ => rfl)) (@pa_nil _) star_sub) star_sub)) (@pa_nil _) star_tup) (by rfl) (by rfl) (by rfl) (by rfl) (by rfl)) (by rfl))) (by intro _; rfl)) (@pss_one _ _ _ (@ps_expr _ _ _ _ (@pe_bm _ _ _ _ _ _ _ _ _ _ _ _ PySem.F.plainAttrs_list PySem.F.slot_list_append PySem.F.type_list_append mt_append (pv 1) (@pa_cons _ _ _ _ _ (@pe_tup _ _ _ _ _ (@pa_cons _ _ _ _ _ (@pe_ix _ _ _ _ _ _ _ ix_list (pv 2) (@pe_un _ _ _ _ _ _ un_neg (@pe_int _ _ _ _)) (fun _ _ => rfl)) (@pa_cons _ _ _ _ _ (@pe_ix _ _ _ _ _ _ _ ix_list (pv 2) (@pe_int _ _ _ _) (fun _ _ => rfl)) (@pa_nil _) star_sub) star_sub)) (@pa_nil _) star_tup) (by rfl) (by rfl) (by rfl) (by rfl) (by rfl)) (by rfl)))) (by intro _; rfl)) (@pss_one _ _ _ (@ps_ret _ _ _ _ (pv 1))))), ?_⟩
    have hal : as.length = rs.length := paired_len pr
    refine st_setG (gv_lst pa_n (by show 0 ≤ sizeLine; decide)) ?_
    rintro _ _ ⟨sl, hs0, rfl, rfl⟩
    refine st_list (K := K) (xs := as.map V.ref) (pu_v rfl) (fun i σ H' => ∃ z w : Option V, σ = [some (.ref l), some (.ref sl), z, w] ∧ Same H H' ∧ SdL H' sl ((rs.take i).flatMap cyc)) ⟨none, none, rfl, Same.upd hs0, [], upd_same, .nil⟩ (fun i σ H' _ ⟨_, _, _, s, _⟩ => SqL.of (s _ _ hl)) ?_ ?_
    · rintro i x σ H2 hx ⟨z, w, rfl, s, sd⟩
      rw [List.getElem?_map] at hx
      cases hai : as[i]? with
      | none => rw [hai] at hx; cases hx
      | some a =>
        rw [hai] at hx
        have ex : V.ref a = x := Option.some.inj hx
        subst ex
        obtain ⟨r, hri, hlp⟩ := paired_get pr hai
        have hrm := List.mem_of_getElem? hri
        obtain ⟨xs, hxs, tx⟩ := id hlp
        have hxl : xs.length = r.length := by rw [tx.len, List.length_map]
        have hr20 := h20 r hrm
        have hil : i < rs.length := (List.getElem?_eq_some_iff.mp hri).1
        have hbb := flat_le (rs.take i) fun r hr => (h20 r (List.mem_of_mem_take hr)).2
        rw [List.length_take] at hbb
        have hx2 := s _ _ hxs
        refine st_range (n := ((xs.length : Int) - 1)) (pa_c (pu_sub (pu_lenL (pa_c (pu_v rfl) pa_n) (SqL.of hx2)) pu_c) pa_n) (by omega) (by omega) (fun j σ H'' => ∃ w : Option V, σ = [some (.ref l), some (.ref sl), some (.ref a), w] ∧ Same H H'' ∧ SdL H'' sl ((rs.take i).flatMap cyc ++ (cyc r).take j)) ⟨w, rfl, s, by rw [List.take_zero, List.append_nil]; exact sd⟩ ?_ ?_
        · rintro j σ H3 hj ⟨w, rfl, s3, sd3⟩
          have hj' : j + 1 < r.length := by omega
          obtain ⟨m1, g1⟩ := getD_mem (ps := r) (k := j) (by omega)
          obtain ⟨m2, g2⟩ := getD_mem (ps := r) hj'
          obtain ⟨u1, e1, t1⟩ := tx.get (i := j) (ns := L3 _) (by rw [List.getElem?_map, g1]; rfl)
          obtain ⟨u2, e2, t2⟩ := tx.get (i := j + 1) (ns := L3 _) (by rw [List.getElem?_map, g2]; rfl)
          have hx3 := s3 _ _ hxs
          obtain ⟨as3, ha3, _⟩ := id sd3
          refine st_app1 (R := fun v H' => ∃ b, H3 b = none ∧ v = .ref b ∧ H' = upd H3 b (.tup [u1, u2])) (pu_v rfl) ha3 (gv_tup (pa_c (pu_ixL (pu_v rfl) (pu_v rfl) (SqL.of hx3) (by rw [Int.zero_add]; exact atI_nat e1)) (pa_c (pu_ixL (pu_v rfl) (pu_add (pu_v rfl) pu_c) (SqL.of hx3) (by rw [Int.zero_add]; exact atI_nat (j := j + 1) e2)) pa_n)) len2) ?_
          rintro _ _ ⟨b, hb, rfl, rfl⟩
          obtain ⟨ys, q1, q2, q3, q4⟩ := sd_more (x := (r.getD j pt0, r.getD (j + 1) pt0)) hs0 s3 sd3 hb (TupT.same t1 s3) (TupT.same t2 s3) (by rw [List.length_append, List.length_take, cyc_length]; omega)
          refine ⟨ys, q1, q2, _, rfl, q3, ?_⟩
          rw [List.take_succ, cyc_get hj', Option.toList_some, ← List.append_assoc]
          exact q4
        · rintro σ H3 ⟨w, rfl, s3, sd3⟩
          rw [show ((xs.length : Int) - 1).toNat = r.length - 1 by omega] at sd3
          obtain ⟨m1, g1⟩ := getD_mem (ps := r) (k := r.length - 1) (by omega)
          obtain ⟨m2, g2⟩ := getD_mem (ps := r) (k := 0) (by omega)
          obtain ⟨u1, e1, t1⟩ := tx.get (i := r.length - 1) (ns := L3 _) (by rw [List.getElem?_map, g1]; rfl)
          obtain ⟨u2, e2, t2⟩ := tx.get (i := 0) (ns := L3 _) (by rw [List.getElem?_map, g2]; rfl)
          have hx3 := s3 _ _ hxs
          obtain ⟨as3, ha3, _⟩ := id sd3
          have el : atI xs (-1) = some u1 := by
            have hp := (atI_prv (xs := xs) (k := 0) (by omega)).1
            rw [show ((0 : Nat) : Int) - 1 = -1 from rfl] at hp
            rw [hp, show prv xs.length 0 = r.length - 1 by rw [prv, if_pos rfl, hxl]]
            exact e1
          refine st_app1 (R := fun v H' => ∃ b, H3 b = none ∧ v = .ref b ∧ H' = upd H3 b (.tup [u1, u2])) (pu_v rfl) ha3 (gv_tup (pa_c (pu_ixL (pu_v rfl) (pu_neg pu_c) (SqL.of hx3) el) (pa_c (pu_ixL (pu_v rfl) pu_c (SqL.of hx3) (atI_nat (j := 0) e2)) pa_n)) len2) ?_
          rintro _ _ ⟨b, hb, rfl, rfl⟩
          obtain ⟨ys, q1, q2, q3, q4⟩ := sd_more (x := (r.getD (r.length - 1) pt0, r.getD 0 pt0)) hs0 s3 sd3 hb (TupT.same t1 s3) (TupT.same t2 s3) (by rw [List.length_append, List.length_take, cyc_length]; omega)
          refine ⟨ys, q1, q2, _, _, rfl, q3, ?_⟩
          have e : (rs.take (i + 1)).flatMap cyc = (rs.take i).flatMap cyc ++ (cyc r).take (r.length - 1) ++ [(r.getD (r.length - 1) pt0, r.getD 0 pt0)] := by
            rw [List.take_succ, hri]
            simp only [Option.toList_some, List.flatMap_append, List.flatMap_cons, List.flatMap_nil, List.append_nil, List.append_assoc]
            congr 1
            have h1 : (cyc r).take (r.length - 1 + 1) = (cyc r).take (r.length - 1) ++ [(r.getD (r.length - 1) pt0, r.getD 0 pt0)] := by
              rw [List.take_succ, cyc_last (by omega)]
              rfl
            rw [List.take_of_length_le (by rw [cyc_length]; omega)] at h1
            exact h1
          rw [e]
          exact q4
    · rintro σ H' ⟨z, w, rfl, s, sd⟩
      rw [List.length_map, hal, List.take_length] at sd
      exact st_ret (pu_v rfl) (k sl _ hs0 s sd)
def sp_l_asked : Sp := fun vs H Q _ => ∃ hd sc sl ps, vs = [.ref hd, .ref sl] ∧ HandAt H hd sc ∧ LP H sl ps ∧ sl ≠ hd ∧ 0 < ps.length ∧ ps.length ≤ 100 ∧ (∀ p ∈ ps, Sz 100 p ∧ 0 < p.z) ∧ ∀ v H' r, HandAt H' hd sc → SameB hd H H' → AtP H' v r → 0 < r.z → Sz 500 r → Q v H'
theorem sc_l_asked : FnScope ["_law_hand_here", "_law_seen", "_law_way", "_law_p", "_law_a"] ["_law_hand_here", "_law_seen"] (defScope s_l_asked) := ⟨rfl, rfl, rfl, by decide +kernel, rfl, by decide +kernel, by decide +kernel⟩
theorem ok_l_asked (T : Txt K mg t) : FnOk P w K mg base CX0 4 t.f_l_asked t.d_l_asked ["_law_hand_here", "_law_seen"] sp_l_asked := by
  refine T.l_asked.F.ok (k := 3) sc_l_asked (fun vs H Q E h => ?_) (fun cdv A outer s H vs Q E hr h => ?_)
  · obtain ⟨hd, sc, sl, ps, rfl, _⟩ := h
    rfl
  · obtain ⟨hd, sc, sl, ps, rfl, hh, lp, nsl, h0, hpl, hsz, k⟩ := h
    refine ⟨_, (@pss_cons _ _ _ _ _ (@ps_set _ _ 2 _ _ _ _ sc_l_asked.nd rfl (Or.inl rfl) (@pe_fn _ _ _ _ _ _ _ _ _ _ _ _ _ _ T.l_draw (ok_l_draw T) hr (by decide) (@pa_cons _ _ _ _ _ (pv 0) (@pa_cons _ _ _ _ _ (@pe_int _ _ _ _) (@pa_nil _) star_con) star_name) (by rfl) (by decide) (by rfl) (by rfl)) (by rfl) (by first | exact .inl rfl | exact .inr rfl | assumption)) (@pss_cons _ _ _ _ _ (@ps_set _ _ 3 _ _ _ _ sc_l_asked.nd rfl (Or.inl rfl) (@pe_ix _ _ _ _ _ _ _ ix_list (pv 1) (@pe_fn _ _ _ _ _ _ _ _ _ _ _ _ _ _ T.l_draw (ok_l_draw T) hr (by decide) (@pa_cons _ _ _ _ _ (pv 0) (@pa_cons _ _ _ _ _ (@pe_callB _ _ _ _ _ _ _ _ _ call_len_seq (by rfl) T.b_len PySem.boot_len (@pa_cons _ _ _ _ _ (pv 1) (@pa_nil _) star_name) (by decide) (by decide) (by rfl) (by rfl)) (@pa_nil _) star_call) star_name) (by rfl) (by decide) (by rfl) (by rfl)) (fun _ _ => rfl)) (by rfl) (by first | exact .inl rfl | exact .inr rfl | assumption)) (@pss_cons _ _ _ _ _ (@ps_if _ _ _ _ _ _ _ _ (@pt_cmpR _ _ _ _ _ _ _ _ op_eq (pv 2) (@pe_int _ _ _ _) (nomark _)) (@pss_one _ _ _ (@ps_ret _ _ _ _ (pv 3))) (@pss_nil _)) (@pss_cons _ _ _ _ _ (@ps_if _ _ _ _ _ _ _ _ (@pt_cmpR _ _ _ _ _ _ _ _ op_eq (pv 2) (@pe_int _ _ _ _) (nomark _)) (@pss_one _ _ _ (@ps_ret _ _ _ _ (@pe_fn _ _ _ _ _ _ _ _ _ _ _ _ _ _ T.l_middle (ok_l_middle T) hr (by decide) (@pa_cons _ _ _ _ _ (pv 3) (@pa_cons _ _ _ _ _ (@pe_ix _ _ _ _ _ _ _ ix_list (pv 1) (@pe_fn _ _ _ _ _ _ _ _ _ _ _ _ _ _ T.l_draw (ok_l_draw T) hr (by decide) (@pa_cons _ _ _ _ _ (pv 0) (@pa_cons _ _ _ _ _ (@pe_callB _ _ _ _ _ _ _ _ _ call_len_seq (by rfl) T.b_len PySem.boot_len (@pa_cons _ _ _ _ _ (pv 1) (@pa_nil _) star_name) (by decide) (by decide) (by rfl) (by rfl)) (@pa_nil _) star_call) star_name) (by rfl) (by decide) (by rfl) (by rfl)) (fun _ _ => rfl)) (@pa_nil _) star_sub) star_name) (by rfl) (by decide) (by rfl) (by rfl)))) (@pss_nil _)) (@pss_cons _ _ _ _ _ (@ps_if _ _ _ _ _ _ _ _ (@pt_cmpR _ _ _ _ _ _ _ _ op_eq (pv 2) (@pe_int _ _ _ _) (nomark _)) (@pss_one _ _ _ (@ps_ret _ _ _ _ (@pe_fn _ _ _ _ _ _ _ _ _ _ _ _ _ _ T.l_point (ok_l_point T) hr (by decide) (@pa_cons _ _ _ _ _ (@pe_op _ _ _ _ _ _ _ _ op_mulB (@pe_int _ _ _ _) (@pe_ix _ _ _ _ _ _ _ ix_tup (pv 3) (@pe_int _ _ _ _) (fun _ _ => rfl))) (@pa_cons _ _ _ _ _ (@pe_op _ _ _ _ _ _ _ _ op_add (@pe_op _ _ _ _ _ _ _ _ op_mulB (@pe_int _ _ _ _) (@pe_ix _ _ _ _ _ _ _ ix_tup (pv 3) (@pe_int _ _ _ _) (fun _ _ => rfl))) (@pe_op _ _ _ _ _ _ _ _ op_mulB (@pe_op _ _ _ _ _ _ _ _ op_sub (@pe_fn _ _ _ _ _ _ _ _ _ _ _ _ _ _ T.l_draw (ok_l_draw T) hr (by decide) (@pa_cons _ _ _ _ _ (pv 0) (@pa_cons _ _ _ _ _ (@pe_int _ _ _ _) (@pa_nil _) star_con) star_name) (by rfl) (by decide) (by rfl) (by rfl)) (@pe_int _ _ _ _)) (@pe_ix _ _ _ _ _ _ _ ix_tup (pv 3) (@pe_int _ _ _ _) (fun _ _ => rfl)))) (@pa_cons _ _ _ _ _ (@pe_op _ _ _ _ _ _ _ _ op_mulB (@pe_int _ _ _ _) (@pe_ix _ _ _ _ _ _ _ ix_tup (pv 3) (@pe_int _ _ _ _) (fun _ _ => rfl))) (@pa_nil _) star_bin) star_bin) star_bin) (by rfl) (by decide) (by rfl) (by rfl)))) (@pss_nil _)) (@pss_cons _ _ _ _ _ (@ps_if _ _ _ _ _ _ _ _ (@pt_cmpR _ _ _ _ _ _ _ _ op_eq (pv 2) (@pe_int _ _ _ _) (nomark _)) (@pss_one _ _ _ (@ps_ret _ _ _ _ (@pe_fn _ _ _ _ _ _ _ _ _ _ _ _ _ _ T.l_point (ok_l_point T) hr (by decide) (@pa_cons _ _ _ _ _ (@pe_op _ _ _ _ _ _ _ _ op_mulB (@pe_op _ _ _ _ _ _ _ _ op_sub (@pe_fn _ _ _ _ _ _ _ _ _ _ _ _ _ _ T.l_draw (ok_l_draw T) hr (by decide) (@pa_cons _ _ _ _ _ (pv 0) (@pa_cons _ _ _ _ _ (@pe_int _ _ _ _) (@pa_nil _) star_con) star_name) (by rfl) (by decide) (by rfl) (by rfl)) (@pe_int _ _ _ _)) (@pe_op _ _ _ _ _ _ _ _ op_pow (@pe_int _ _ _ _) (@pe_int _ _ _ _))) (@pa_cons _ _ _ _ _ (@pe_op _ _ _ _ _ _ _ _ op_mulB (@pe_op _ _ _ _ _ _ _ _ op_sub (@pe_fn _ _ _ _ _ _ _ _ _ _ _ _ _ _ T.l_draw (ok_l_draw T) hr (by decide) (@pa_cons _ _ _ _ _ (pv 0) (@pa_cons _ _ _ _ _ (@pe_int _ _ _ _) (@pa_nil _) star_con) star_name) (by rfl) (by decide) (by rfl) (by rfl)) (@pe_int _ _ _ _)) (@pe_op _ _ _ _ _ _ _ _ op_pow (@pe_int _ _ _ _) (@pe_int _ _ _ _))) (@pa_cons _ _ _ _ _ (@pe_int _ _ _ _) (@pa_nil _) star_con) star_bin) star_bin) (by rfl) (by decide) (by rfl) (by rfl)))) (@pss_nil _)) (@pss_cons _ _ _ _ _ (@ps_set _ _ 4 _ _ _ _ sc_l_asked.nd rfl (Or.inl rfl) (@pe_op _ _ _ _ _ _ _ _ op_sub (@pe_fn _ _ _ _ _ _ _ _ _ _ _ _ _ _ T.l_draw (ok_l_draw T) hr (by decide) (@pa_cons _ _ _ _ _ (pv 0) (@pa_cons _ _ _ _ _ (@pe_int _ _ _ _) (@pa_nil _) star_con) star_name) (by rfl) (by decide) (by rfl) (by rfl)) (@pe_int _ _ _ _)) (by rfl) (by first | exact .inl rfl | exact .inr rfl | assumption)) (@pss_one _ _ _ (@ps_ret _ _ _ _ (@pe_fn _ _ _ _ _ _ _ _ _ _ _ _ _ _ T.l_point (ok_l_point T) hr (by decide) (@pa_cons _ _ _ _ _ (pv 4) (@pa_cons _ _ _ _ _ (@pe_op _ _ _ _ _ _ _ _ op_sub (@pe_fn _ _ _ _ _ _ _ _ _ _ _ _ _ _ T.l_draw (ok_l_draw T) hr (by decide) (@pa_cons _ _ _ _ _ (pv 0) (@pa_cons _ _ _ _ _ (@pe_int _ _ _ _) (@pa_nil _) star_con) star_name) (by rfl) (by decide) (by rfl) (by rfl)) (@pe_int _ _ _ _)) (@pa_cons _ _ _ _ _ (@pe_op _ _ _ _ _ _ _ _ op_add (@pe_int _ _ _ _) (@pe_fn _ _ _ _ _ _ _ _ _ _ _ _ _ _ T.l_draw (ok_l_draw T) hr (by decide) (@pa_cons _ _ _ _ _ (pv 0) (@pa_cons _ _ _ _ _ (@pe_int _ _ _ _) (@pa_nil _) star_con) star_name) (by rfl) (by decide) (by rfl) (by rfl))) (@pa_nil _) star_bin) star_bin) star_name) (by rfl) (by decide) (by rfl) (by rfl))))))))))), ?_⟩
    refine st_setG (gv_draw hh (pa_c (pu_v rfl) (pa_c pu_c pa_n)) (by decide) Bd.small) ?_
    rintro _ H1 ⟨⟨n, rfl, n0, n1⟩, hh1, s1⟩
    obtain ⟨ys, hys⟩ := hh.ls
    obtain ⟨ys1, hys1⟩ := hh1.ls
    have lp1 := lp.but nsl hys s1
    obtain ⟨xs, hx1, hxl⟩ := lp1.ls
    refine st_setG (gv_seen hh1 lp1 nsl (by omega) (by omega) (by rw [hxl]) (pu_v rfl) (pa_c (pu_v rfl) (pa_c (pu_lenL (pa_c (pu_v rfl) pa_n) (SqL.of hx1)) pa_n))) ?_
    rintro v H2 ⟨hh2, s2, p, hp, tp⟩
    have lp2 := lp1.but nsl hys1 s2
    obtain ⟨xs2, hx2, hxl2⟩ := lp2.ls
    obtain ⟨zp, p0⟩ := hsz p hp
    obtain ⟨pa, rfl, hpa⟩ := id tp
    have s12 := s1.trans s2
    refine st_ifN (pt_t (pu_eqI (pu_v rfl) pu_c)) (fun _ => st_ret (pu_v rfl) (k _ H2 p hh2 s12 tp p0 (zp.mono (by decide)))) fun _ => ?_
    refine st_ifN (pt_t (pu_eqI (pu_v rfl) pu_c)) (fun _ => ?_) fun _ => ?_
    · refine st_retG (R := fun v H' => HandAt H' hd sc ∧ SameB hd H H' ∧ ∃ r, AtP H' v r ∧ 0 < r.z ∧ Sz 500 r) (gv_callA (ga_cons (pu_v rfl).gv fun x Hx ex => ga_cons (R1 := fun v H' => HandAt H' hd sc ∧ SameB hd H2 H' ∧ ∃ p, p ∈ ps ∧ AtP H' v p) ?_ fun _ _ _ => ga_nil) ?_) ?_
      · obtain ⟨rfl, rfl⟩ := ex
        exact gv_seen hh2 lp2 nsl (by omega) (by omega) (by rw [hxl2]) (pu_v rfl) (pa_c (pu_v rfl) (pa_c (pu_lenL (pa_c (pu_v rfl) pa_n) (SqL.of hx2)) pa_n))
      · rintro vs H4 ⟨x, H3, r, rfl, ⟨rfl, rfl⟩, y, H5, r2, rfl, ⟨hh5, s5, q, hq, tq⟩, rfl, rfl⟩ Q f
        obtain ⟨zq, q0⟩ := hsz q hq
        refine ⟨_, _, p, q, rfl, hAtP tp hh2 s5, tq, zp.mono (by decide), zq.mono (by decide), p0, q0, fun v H' r s t i => f _ _ ⟨hh5.same s, (s12.trans s5).trans s.b, r, t, i.pos, ?_⟩⟩
        refine Sz.is3 i ?_ ?_ ((midC_bd zp.z zq.z).mono (by decide))
        · exact ((zp.x.mul zq.z).add (zq.x.mul zp.z)).mono (by decide)
        · exact ((zp.y.mul zq.z).add (zq.y.mul zp.z)).mono (by decide)
      · rintro v H' ⟨a, s, r, t, z, b⟩
        exact k v H' r a s t z b
    have b2 : Bd 64 (3 : Int) := Bd.small (by decide) (by decide)
    refine st_ifN (pt_t (pu_eqI (pu_v rfl) pu_c)) (fun _ => ?_) fun _ => ?_
    · refine st_retG (R := fun v H' => HandAt H' hd sc ∧ SameB hd H H' ∧ ∃ r, AtP H' v r ∧ 0 < r.z ∧ Sz 500 r) (gv_callA (ga_cons (pu_mul pu_c (pu_ixT (pu_v rfl) pu_c (SqT.of (hpa)) rfl) (mulOk_of (b2) (zp.x) (by decide))).gv fun x Hx ex => ga_cons (R1 := fun v H' => HandAt H' hd sc ∧ SameB hd H2 H' ∧ ∃ j : Int, v = .int (3 * p.y + j * p.z) ∧ j.natAbs ≤ 6) ?_ fun y Hy ey => ga_cons (R1 := fun v H' => v = .int (3 * p.z) ∧ Hy = H') ?_ fun _ _ _ => ga_nil) ?_) ?_
      · obtain ⟨rfl, rfl⟩ := ex
        intro Q f
        refine pu_mul pu_c (pu_ixT (pu_v rfl) pu_c (SqT.of (hpa)) rfl) (mulOk_of (b2) (zp.y) (by decide)) _ ?_
        refine gv_drawSub (n := 13) (c := 6) hh2 (fun _ => pu_c) (pa_c (pu_v rfl) (pa_c pu_c pa_n)) (by decide) Bd.small _ ?_
        rintro _ H3 ⟨⟨j, rfl, j0, j1⟩, hh3, s3⟩
        obtain ⟨pb, e, hpb⟩ := hAtP tp hh2 s3
        cases e
        have bj : Bd 64 (j - 6) := Bd.small (by omega) (by decide)
        refine (pu_ixT (pu_v rfl) pu_c (SqT.of (hpb)) rfl) _ ⟨j - 6, p.z, rfl, rfl, (mulOk_of (bj) (zp.z) (by decide)), _, _, rfl, rfl, f _ _ ⟨hh3, s3, _, rfl, by omega⟩⟩
      · obtain ⟨hh3, s3, _⟩ := ey
        obtain ⟨rfl, rfl⟩ := ex
        obtain ⟨pb, e, hpb⟩ := hAtP tp hh2 s3
        cases e
        exact (pu_mul pu_c (pu_ixT (pu_v rfl) pu_c (SqT.of (hpb)) rfl) (mulOk_of (b2) (zp.z) (by decide))).gv' ⟨rfl, rfl⟩
      · rintro vs H4 ⟨x, H3, r, rfl, ⟨rfl, rfl⟩, y, H5, r2, rfl, ⟨hh5, s5, j, rfl, hj⟩, z, H6, r3, rfl, ⟨rfl, rfl⟩, rfl, rfl⟩ Q f
        have bj : Bd 64 j := Bd.small (by omega) (by decide)
        refine ⟨_, _, _, rfl, by omega, (b2.mul zp.z).mono (by decide), fun v H' r s t i => f _ _ ⟨hh5.same s, (s12.trans s5).trans s.b, r, t, i.pos, Sz.is3 i ?_ ?_ ?_⟩⟩
        · exact (b2.mul zp.x).mono (by decide)
        · exact ((b2.mul zp.y).add (bj.mul zp.z)).mono (by decide)
        · exact (b2.mul zp.z).mono (by decide)
      · rintro v H' ⟨a, s, r, t, z, b⟩
        exact k v H' r a s t z b
    refine st_ifN (pt_t (pu_eqI (pu_v rfl) pu_c)) (fun _ => ?_) fun _ => ?_
    · have G : ∀ {σ : L2.St} {H : Hp}, σ[0]? = some (some (.ref hd)) → HandAt H hd sc → Gv (tOp (rI IntMulOk fun i j => .int (i * j)) (tOp (rI0 fun i j => .int (i - j)) (tCall sp_l_draw [] E0 (tCons (tVar 0) (tCons (tC (.int 3)) tNil))) (tC (.int 1))) (tOp (rI CPow fun i j => .int (i ^ j.toNat)) (tC (.int 10)) (tC (.int 9)))) σ H (fun v H' => (∃ j : Int, v = .int j ∧ j.natAbs ≤ 10 ^ 9) ∧ HandAt H' hd sc ∧ SameB hd H H') := fun {σ H} h0 hh Q f => by
        refine gv_drawSub (n := 3) (c := 1) hh (fun _ => pu_c) (pa_c (pu_v h0) (pa_c pu_c pa_n)) (by decide) Bd.small _ ?_
        rintro _ H3 ⟨⟨j, rfl, j0, j1⟩, hh3, s3⟩
        refine pu_pow pu_c pu_c ⟨by decide, by decide, by decide⟩ _ ⟨j - 1, 10 ^ 9, rfl, rfl, mulOk_of (m := 64) (n := 64) (Bd.small (by omega) (by decide)) (Bd.small (by decide) (by decide)) (by decide), f _ _ ⟨⟨_, rfl, by omega⟩, hh3, s3⟩⟩
      refine st_retG (R := fun v H' => HandAt H' hd sc ∧ SameB hd H H' ∧ ∃ r, AtP H' v r ∧ 0 < r.z ∧ Sz 500 r) (gv_callA (ga_cons (G rfl hh2) fun x Hx ex => ga_cons (G rfl ex.2.1) fun y Hy ey => ga_cons pu_c.gv fun _ _ _ => ga_nil) ?_) ?_
      · rintro vs H4 ⟨x, H3, r, rfl, ⟨⟨i1, rfl, z1⟩, hh3, s3⟩, y, H5, r2, rfl, ⟨⟨i2, rfl, z2⟩, hh5, s5⟩, z, H6, r3, rfl, ⟨rfl, rfl⟩, rfl, rfl⟩ Q f
        refine ⟨_, _, _, rfl, by decide, Bd.small, fun v H' r s t i => f _ _ ⟨hh5.same s, ((s12.trans s3).trans s5).trans s.b, r, t, i.pos, Sz.is3 i (Bd.small (by omega)) (Bd.small (by omega)) Bd.small⟩⟩
      · rintro v H' ⟨a, s, r, t, z, b⟩
        exact k v H' r a s t z b
    refine st_setG (gv_drawSub (n := 20) (c := 1) hh2 (fun _ => pu_c) (pa_c (pu_v rfl) (pa_c pu_c pa_n)) (by decide) Bd.small) ?_
    rintro _ H3 ⟨⟨j, rfl, j0, j1⟩, hh3, s3⟩
    refine st_retG (R := fun v H' => HandAt H' hd sc ∧ SameB hd H H' ∧ ∃ r, AtP H' v r ∧ 0 < r.z ∧ Sz 500 r) (gv_callA (ga_cons (pu_v rfl).gv fun x Hx ex => ga_cons (R1 := fun v H' => (∃ j : Int, v = .int (j - 1) ∧ 0 ≤ j ∧ j < 20) ∧ HandAt H' hd sc ∧ SameB hd H3 H') ?_ fun y Hy ey => ga_cons (gv_addDraw (n := 3) (c := 1) ey.2.1 pu_c (pa_c (pu_v rfl) (pa_c pu_c pa_n)) (by decide) Bd.small) fun _ _ _ => ga_nil) ?_) ?_
    · obtain ⟨rfl, rfl⟩ := ex
      exact gv_drawSub (n := 20) (c := 1) hh3 (fun _ => pu_c) (pa_c (pu_v rfl) (pa_c pu_c pa_n)) (by decide) Bd.small
    · rintro vs H4 ⟨x, H5, r, rfl, ⟨rfl, rfl⟩, y, H6, r2, rfl, ⟨⟨i2, rfl, z2, z3⟩, hh6, s6⟩, z, H7, r3, rfl, ⟨⟨i3, rfl, z4, z5⟩, hh7, s7⟩, rfl, rfl⟩ Q f
      refine ⟨_, _, _, rfl, by omega, Bd.small (by omega), fun v H' r s t i => f _ _ ⟨hh7.same s, (((s12.trans s3).trans s6).trans s7).trans s.b, r, t, i.pos, Sz.is3 i (Bd.small (by omega)) (Bd.small (by omega)) (Bd.small (by omega))⟩⟩
    · rintro v H' ⟨a, s, r, t, z, b⟩
      exact k v H' r a s t z b
def sp_l_quarter : Sp := fun vs H Q _ => ∃ v p, vs = [v] ∧ AtP H v p ∧ ∀ w H', Same H H' → AtP H' w (qtr p) → Q w H'
theorem sc_l_quarter : FnScope ["_law_p"] ["_law_p"] (defScope s_l_quarter) := ⟨rfl, rfl, rfl, by decide +kernel, rfl, by decide +kernel, by decide +kernel⟩
theorem ok_l_quarter (T : Txt K mg t) : FnOk P w K mg base CX0 1 t.f_l_quarter t.d_l_quarter ["_law_p"] sp_l_quarter := by
  refine T.l_quarter.F.ok (k := 0) sc_l_quarter (fun vs H Q E h => ?_) (fun cdv A outer s H vs Q E hr h => ?_)
  · obtain ⟨v, p, rfl, _⟩ := h
    rfl
  · obtain ⟨v, p, rfl, ⟨a, rfl, ha⟩, k⟩ := h
    refine ⟨_, (@pss_one _ _ _ (@ps_ret _ _ _ _ (@pe_tup _ _ _ _ _ (@pa_cons _ _ _ _ _ (@pe_un _ _ _ _ _ _ un_neg (@pe_ix _ _ _ _ _ _ _ ix_tup (pv 0) (@pe_int _ _ _ _) (fun _ _ => rfl))) (@pa_cons _ _ _ _ _ (@pe_ix _ _ _ _ _ _ _ ix_tup (pv 0) (@pe_int _ _ _ _) (fun _ _ => rfl)) (@pa_cons _ _ _ _ _ (@pe_ix _ _ _ _ _ _ _ ix_tup (pv 0) (@pe_int _ _ _ _) (fun _ _ => rfl)) (@pa_nil _) star_sub) star_sub) star_un)))), ?_⟩
    refine st_retG (gv_tup (pa_c (pu_neg (pu_ixT (pu_v rfl) pu_c (SqT.of (ha)) rfl)) (pa_c (pu_ixT (pu_v rfl) pu_c (SqT.of (ha)) rfl) (pa_c (pu_ixT (pu_v rfl) pu_c (SqT.of (ha)) rfl) pa_n))) len3) ?_
    rintro _ _ ⟨b, hb, rfl, rfl⟩
    exact k _ _ (Same.upd hb) (TupT.of (ns := [-p.y, p.x, p.z]) upd_same)
def sp_l_right : Sp := fun vs H Q _ => ∃ l s v rs p, vs = [.ref l, .ref s, v] ∧ RgL H l rs ∧ SdL H s (rs.flatMap cyc) ∧ AtP H v p ∧ Sz 4000 p ∧ 0 < p.z ∧ rs.length ≤ 10 ∧ (∀ r ∈ rs, 1 ≤ r.length ∧ r.length ≤ 20) ∧ (∀ r ∈ rs, ∀ q ∈ r, Sz 4000 q ∧ 0 < q.z) ∧ ∀ H', Same H H' → Q (.bl true) H'
theorem gv_rnd {σ : L2.St} {H : Hp} {t : TA} {l : Addr} {v : V} {rs : List (List Pt3)} {p : Pt3} (ha : PuA t σ H [.ref l, v]) (h1 : RgL H l rs) (h2 : AtP H v p) (zp : Sz 4000 p) (hn : rs.length ≤ 10) (h20 : ∀ r ∈ rs, 1 ≤ r.length ∧ r.length ≤ 20) (hsz : ∀ r ∈ rs, ∀ q ∈ r, Sz 4000 q) :
    Gv (tCall sp_rounds_about [] E0 t) σ H (fun w H' => Same H H' ∧ w = .int (rnd rs p)) :=
  gv_call ha fun Q f => ⟨l, rs, v, p, rfl, h1, h2, zp, hn, h20, hsz, fun H' s => f _ _ ⟨s, rfl⟩⟩
theorem sz_qtr {n : Nat} {p : Pt3} (h : Sz n p) : Sz n (qtr p) := ⟨h.y.neg, h.x, h.z⟩
theorem sc_l_right : FnScope ["_law_rings", "_law_sides_here", "_law_p", "_law_due", "_law_found", "_law_u", "_law_v", "_law_turned"] ["_law_rings", "_law_sides_here", "_law_p"] (defScope s_l_right) := ⟨rfl, rfl, rfl, by decide +kernel, rfl, by decide +kernel, by decide +kernel⟩
theorem ok_l_right (T : Txt K mg t) : FnOk P w K mg base CX0 5 t.f_l_right t.d_l_right ["_law_rings", "_law_sides_here", "_law_p"] sp_l_right := by
  refine T.l_right.F.ok (k := 4) sc_l_right (fun vs H Q E h => ?_) (fun cdv A outer s H vs Q E hr h => ?_)
  · obtain ⟨l, s, v, rs, p, rfl, _⟩ := h
    rfl
  · obtain ⟨l, sl, v, rs, p, rfl, hrg, hsd, tv, zp, p0, hn, h20, hsz, k⟩ := h
    refine ⟨_, (@pss_cons _ _ _ _ _ (@ps_set _ _ 3 _ _ _ _ sc_l_right.nd rfl (Or.inl rfl) (@pe_fn _ _ _ _ _ _ _ _ _ _ _ _ _ _ T.l_rounds (ok_l_rounds T) hr (by decide) (@pa_cons _ _ _ _ _ (pv 0) (@pa_cons _ _ _ _ _ (pv 2) (@pa_nil _) star_name) star_name) (by rfl) (by decide) (by rfl) (by rfl)) (by rfl) (by first | exact .inl rfl | exact .inr rfl | assumption)) (@pss_cons _ _ _ _ _ (@ps_set _ _ 4 _ _ _ _ sc_l_right.nd rfl (Or.inl rfl) (@pe_fn _ _ _ _ _ _ _ _ _ _ _ _ _ _ T.rounds_about (ok_rounds_about T) hr (by decide) (@pa_cons _ _ _ _ _ (pv 0) (@pa_cons _ _ _ _ _ (pv 2) (@pa_nil _) star_name) star_name) (by rfl) (by decide) (by rfl) (by rfl)) (by rfl) (by first | exact .inl rfl | exact .inr rfl | assumption)) (@pss_cons _ _ _ _ _ (@ps_if _ _ _ _ _ _ _ _ (PW.pt (@pw_or _ _ _ _ _ _ _ (@pt_not _ _ _ _ (@pt_val _ _ _ (@pe_fn _ _ _ _ _ _ _ _ _ _ _ _ _ _ T.l_whole (ok_l_whole T) hr (by decide) (@pa_cons _ _ _ _ _ (pv 4) (@pa_nil _) star_name) (by rfl) (by decide) (by rfl) (by rfl)) (by intro _; rfl))) (@pw_or1 _ _ _ _ (@pt_cmpR _ _ _ _ _ _ _ _ op_ne (pv 4) (pv 3) (nomark _))))) (@pss_one _ _ _ (@ps_ret _ _ _ _ (@pe_bl _ _ _ _))) (@pss_nil _)) (@pss_cons _ _ _ _ _ (@ps_if _ _ _ _ _ _ _ _ (@pt_cmpR _ _ _ _ _ _ _ _ op_ne (@pe_fn _ _ _ _ _ _ _ _ _ _ _ _ _ _ T.rounds_about (ok_rounds_about T) hr (by decide) (@pa_cons _ _ _ _ _ (@pe_lcomp _ _ _ _ _ [] _ ["_law_ring_here"] _ (fun _ => [none]) _ _ rfl (@pi_list _ _ _ _ (pv 0)) (fun _ _ _ _ => pg_name (i := 0) (List.nodup_cons.mpr ⟨fun h => (nomatch h), List.nodup_nil⟩) rfl (Or.inl rfl) (.inr rfl)) (fun _ _ _ _ => (@pe_sliceRK _ _ _ _ _ _ _ _ _ _ K _ rfl (pv 0) (@po_none _) (@po_none _) (@po_some _ _ _ (@pe_un _ _ _ _ _ _ un_neg (@pe_int _ _ _ _))))) (closureFor_none (by decide +kernel)) rfl (by decide +kernel) (by decide +kernel) (fun _ _ h => by cases h) (noCells (by rfl)) (fun _ _ => rfl) (fun _ i _ _ _ h => by cases i with | zero => cases h | succ i => simp at h) (by intro _; rfl)) (@pa_cons _ _ _ _ _ (pv 2) (@pa_nil _) star_name) star_lc) (by rfl) (by decide) (by rfl) (by rfl)) (@pe_un _ _ _ _ _ _ un_neg (pv 3)) (nomark _)) (@pss_one _ _ _ (@ps_ret _ _ _ _ (@pe_bl _ _ _ _))) (@pss_nil _)) (@pss_cons _ _ _ _ _ (@ps_for _ _ _ _ _ _ _ _ PassesOwn.never rfl (@pi_list _ _ _ _ (pv 1)) (@pg_tup _ _ _ _ _ _ rfl (@pgs_cons _ _ _ _ _ (@pg_name _ _ 5 _ sc_l_right.nd rfl (Or.inl rfl) (by first | exact .inl rfl | exact .inr rfl | assumption)) (@pgs_cons _ _ _ _ _ (@pg_name _ _ 6 _ sc_l_right.nd rfl (Or.inl rfl) (by first | exact .inl rfl | exact .inr rfl | assumption)) (@pgs_nil _) (by rfl)) (by rfl)) (by rfl) (by rfl)) (@pss_one _ _ _ (@ps_if _ _ _ _ _ _ _ _ (@pt_val _ _ _ (@pe_fn _ _ _ _ _ _ _ _ _ _ _ _ _ _ T.l_on (ok_l_on T) hr (by decide) (@pa_cons _ _ _ _ _ (pv 2) (@pa_cons _ _ _ _ _ (pv 5) (@pa_cons _ _ _ _ _ (pv 6) (@pa_nil _) star_name) star_name) star_name) (by rfl) (by decide) (by rfl) (by rfl)) (by intro _; rfl)) (@pss_one _ _ _ (@ps_ret _ _ _ _ (@pe_bl _ _ _ _))) (@pss_nil _))) (by intro _; rfl)) (@pss_cons _ _ _ _ _ (@ps_setC _ 7 _ _ _ _ _ _ _ _ _ sc_l_right.nd rfl rfl (@cr_lcomp _ _ _ _ _ [] _ ["_law_ring_here"] _ (fun _ => [none]) _ _ rfl (@pi_list _ _ _ _ (pv 0)) (fun _ _ _ _ => pg_name (i := 0) (List.nodup_cons.mpr ⟨fun h => (nomatch h), List.nodup_nil⟩) rfl (Or.inl rfl) (.inr rfl)) (fun _ _ _ _ => (@pe_lcomp _ _ _ _ _ [] _ ["_law_q"] _ (fun _ => [none]) _ _ rfl (@pi_listK _ K _ _ _ rfl (pv 0)) (fun _ _ _ _ => pg_name (i := 0) (List.nodup_cons.mpr ⟨fun h => (nomatch h), List.nodup_nil⟩) rfl (Or.inl rfl) (.inr rfl)) (fun _ _ _ _ => (@pe_fn _ _ _ _ _ _ _ _ _ _ _ _ _ _ T.l_quarter (ok_l_quarter T) hr (by decide) (@pa_cons _ _ _ _ _ (pv 0) (@pa_nil _) star_name) (by rfl) (by decide) (by rfl) (by rfl))) (closureFor_none (by decide +kernel)) rfl (by decide +kernel) (by decide +kernel) (fun _ _ h => by cases h) (noCells (by rfl)) (fun _ _ => rfl) (fun _ i _ _ _ h => by cases i with | zero => cases h | succ i => simp at h) (by intro _; rfl))) (closureFor_none (by decide +kernel)) rfl (by decide +kernel) (by decide +kernel) (fun _ _ h => by cases h) (noCells (by rfl)) (fun _ _ => rfl) (fun _ i _ _ _ h => by cases i with | zero => cases h | succ i => simp at h) (by intro _; rfl)) (by rfl)) (@pss_one _ _ _ (@ps_ret _ _ _ _ (@pe_cmpR _ _ _ _ _ _ _ _ op_eq (@pe_fn _ _ _ _ _ _ _ _ _ _ _ _ _ _ T.rounds_about (ok_rounds_about T) hr (by decide) (@pa_cons _ _ _ _ _ (pv 7) (@pa_cons _ _ _ _ _ (@pe_fn _ _ _ _ _ _ _ _ _ _ _ _ _ _ T.l_quarter (ok_l_quarter T) hr (by decide) (@pa_cons _ _ _ _ _ (pv 2) (@pa_nil _) star_name) (by rfl) (by decide) (by rfl) (by rfl)) (@pa_nil _) star_call) star_name) (by rfl) (by decide) (by rfl) (by rfl)) (pv 3) (nomark _)))))))))), ?_⟩
    refine st_set (pu_call (pa_c (pu_v rfl) (pa_c (pu_v rfl) pa_n)) fun Q f => ⟨l, rs, v, p, rfl, hrg, tv, zp, hn, h20, hsz, f⟩) ?_
    refine st_setG (gv_rnd (pa_c (pu_v rfl) (pa_c (pu_v rfl) pa_n)) hrg tv zp hn h20 fun r hr q hq => (hsz r hr q hq).1) ?_
    rintro _ H1 ⟨s1, rfl⟩
    refine st_ifN (pt_or (b := false) (pt_n (b := true) (pt_b (pu_call (pa_c (pu_v rfl) pa_n) fun Q f => ⟨_, rfl, f⟩))) fun _ => pt_t (pu_neI (pu_v rfl) (pu_v rfl))) (fun e => absurd e (by simp)) fun _ => ?_
    refine st_ifNG (R := fun b H' => b = false ∧ Same H1 H') ?_ (fun H' r => by cases r.1) ?_
    · intro Q f
      refine gv_callA (sp := sp_rounds_about) (R := fun w H' => Same H1 H' ∧ w = .int (-rnd rs p)) (ga_cons (gv_revs (pu_v rfl) (hrg.same s1) (by omega)) fun x Hx ex => ga_cons (pu_v rfl).gv fun _ _ _ => ga_nil) ?_ _ ?_
      · rintro vs H3 ⟨x, H2, r, rfl, ⟨s2, D, rfl, nD, hD⟩, y, H4, r2, rfl, ⟨rfl, rfl⟩, rfl, rfl⟩ Q f
        refine ⟨D, rs.map List.reverse, _, p, rfl, hD, TupT.same tv (s1.trans s2), zp, by rw [List.length_map]; exact hn, ?_, ?_, fun H' s => f _ _ ⟨s2.trans s, by rw [rnd_rev]⟩⟩
        · intro r hr
          obtain ⟨r', hr', rfl⟩ := List.mem_map.mp hr
          rw [List.length_reverse]
          exact h20 r' hr'
        · intro r hr q hq
          obtain ⟨r', hr', rfl⟩ := List.mem_map.mp hr
          exact (hsz r' hr' q (List.mem_reverse.mp hq)).1
      · rintro _ H2 ⟨s2, rfl⟩
        exact pu_neg (pu_v rfl) _ ⟨rfl, _, rfl, f _ _ ⟨by simp, s2⟩⟩
    rintro H2 ⟨_, s2⟩
    have s12 := s1.trans s2
    refine st_sides (xs := rs.flatMap cyc) (pu_v rfl) (hsd.same s12) (fun n σ' H' => (∃ z1 z2 : Option V, σ' = [some (.ref l), some (.ref sl), some v, some (.int (rnd rs p)), some (.int (rnd rs p)), z1, z2, none]) ∧ H' = H2 ∧ ∀ m x, m < n → (rs.flatMap cyc)[m]? = some x → onB p x.1 x.2 = false) ⟨⟨none, none, rfl⟩, rfl, fun m x h => by omega⟩ (fun n σ' H' h => by rw [h.2.1]; exact Same.rfl') ?_ ?_
    · rintro n u w x σ' H' hx ⟨⟨z1, z2, rfl⟩, rfl, ho⟩ tu tw
      obtain ⟨r, hr, hxr⟩ := List.mem_flatMap.mp (List.mem_of_getElem? hx)
      obtain ⟨m1, m2⟩ := cyc_mem hxr
      have q1 := hsz r hr _ m1
      have q2 := hsz r hr _ m2
      refine st_ifN1 (pt_b (pu_call (pa_c (pu_v rfl) (pa_c (pu_v rfl) (pa_c (pu_v rfl) pa_n))) fun Q f => ⟨v, u, w, p, x.1, x.2, rfl, TupT.same tv s12, tu, tw, zp, q1.1, q2.1, q1.2, f⟩)) (fun _ => st_ret pu_c (k _ s12)) (fun e => ⟨⟨_, _, rfl⟩, rfl, fun m y hm hy => ?_⟩)
      by_cases hmn : m = n
      · subst hmn
        rw [hx] at hy
        cases hy
        exact e
      · exact ho m y (by omega) hy
    rintro _ _ ⟨⟨z1, z2, rfl⟩, rfl, ho⟩
    refine st_setG (gv_rows (fun a b => b = qtr a) (pu_v rfl) (hrg.same s12) (by omega) (fun _ => KeepS.none1) fun a r H' hr s' lp => gv_compLP (fun a b => b = qtr a) (pu_v rfl) lp (by have := (h20 r hr).2; omega) (fun _ => KeepS.none1) fun w q H'' hq s'' tq => (gv_call (R := fun w H' => Same H'' H' ∧ ∃ q', AtP H' w q' ∧ q' = qtr q) (pa_c (pu_v rfl) pa_n) fun Q f => ⟨w, q, rfl, tq, fun w' H3 s3 t3 => f _ _ ⟨s3, _, t3, rfl⟩⟩)) ?_
    rintro _ H3 ⟨s3, D, qs, rfl, nD, hD, pq⟩
    have eq : qs = rs.map fun r => r.map qtr := paired_map (paired_mono pq fun a b h => paired_map h)
    subst eq
    refine st_retG (R := fun w H' => w = .bl true ∧ Same H H') ?_ (fun w H' ⟨e, s⟩ => by rw [e]; exact k H' s)
    intro Q f
    refine gv_callA (sp := sp_rounds_about) (R := fun w H' => Same H3 H' ∧ w = .int (rnd rs p)) (ga_cons (pu_v rfl).gv fun x Hx ex => ga_cons (R1 := fun w H' => Same H3 H' ∧ AtP H' w (qtr p)) ?_ fun _ _ _ => ga_nil) ?_ _ ?_
    · obtain ⟨rfl, rfl⟩ := ex
      exact gv_call (pa_c (pu_v rfl) pa_n) fun Q f => ⟨v, p, rfl, TupT.same tv (s12.trans s3), fun w H' s t => f _ _ ⟨s, t⟩⟩
    · rintro vs H5 ⟨x, H4, r, rfl, ⟨rfl, rfl⟩, y, H6, r2, rfl, ⟨s6, t6⟩, rfl, rfl⟩ Q f
      refine ⟨D, _, y, qtr p, rfl, hD.same s6, t6, sz_qtr zp, by rw [List.length_map]; exact hn, ?_, ?_, fun H' s => f _ _ ⟨s6.trans s, ?_⟩⟩
      · intro r hr
        obtain ⟨r', hr', rfl⟩ := List.mem_map.mp hr
        rw [List.length_map]
        exact h20 r' hr'
      · intro r hr q hq
        obtain ⟨r', hr', rfl⟩ := List.mem_map.mp hr
        obtain ⟨q', hq', rfl⟩ := List.mem_map.mp hq
        exact sz_qtr (hsz r' hr' q' hq').1
      · rw [rnd_qtr p0 (fun r hr q hq => (hsz r hr q hq).2) fun r hr x hx => ?_]
        have hm : x ∈ rs.flatMap cyc := List.mem_flatMap.mpr ⟨r, hr, hx⟩
        obtain ⟨m, hm'⟩ := List.getElem?_of_mem hm
        exact ho m x (List.getElem?_eq_some_iff.mp hm').1 hm'
    · rintro _ H4 ⟨s4, rfl⟩
      exact (pu_v rfl : Pu (tVar 3) _ _ (.int (rnd rs p))) _ ⟨rfl, f _ _ ⟨by simp, (s12.trans s3).trans s4⟩⟩
def sp_law (K : PySem.W.Frag) : Sp := fun vs H Q _ => ∃ (a : Addr) (ns : List Int), vs = [.ref a] ∧ SqL K H a (ns.map V.int) ∧ ns.length ≤ 63 ∧ ∀ H', Q (.bl true) H'
/-- what is known while rings are drawn -/
structure Drawing (H : Hp) (hd sc sl rg : Addr) (i : Nat) (rs : List (List Pt3)) (ps : List Pt3) : Prop where
  hh : HandAt H hd sc
  lp : LP H sl ps
  rl : ∃ as : List Addr, H rg = some (.lst (as.map V.ref)) ∧ Paired (LP H) as rs ∧ ∀ a ∈ as, a ≠ hd ∧ a ≠ sl ∧ a ≠ rg
  n : rs.length = i
  m : i ≤ ps.length ∧ ps.length ≤ 12 * i
  d : ∀ p ∈ ps, Dr ps.length (9 + 2 * ps.length) p
  r : ∀ r ∈ rs, (1 ≤ r.length ∧ r.length ≤ 12) ∧ ∀ q ∈ r, q ∈ ps
theorem gv_sd {σ : L2.St} {H : Hp} {t : TA} {l : Addr} {rs : List (List Pt3)} (ha : PuA t σ H [.ref l]) (h1 : RgL H l rs) (hn : rs.length ≤ 10) (h20 : ∀ r ∈ rs, 1 ≤ r.length ∧ r.length ≤ 20) :
    Gv (tCall sp_sides_of [] E0 t) σ H (fun w H' => ∃ s, w = .ref s ∧ H s = none ∧ Same H H' ∧ SdL H' s (rs.flatMap cyc)) :=
  gv_call ha fun Q f => ⟨l, rs, rfl, h1, hn, h20, fun s H' n s' sd => f _ _ ⟨s, rfl, n, s', sd⟩⟩
theorem sc_law : FnScope ["_law_script", "_law_hand_here", "_law_wide", "_law_seen", "_law_rings", "_law_k", "_law_frame_here", "_law_points", "_law_handed", "_law_due", "_law_found", "_law_side", "_law_p"] ["_law_script"] (defScope s_law) := ⟨rfl, rfl, rfl, by decide +kernel, rfl, by decide +kernel, by decide +kernel⟩
theorem ok_law (T : Txt K mg t) : FnOk P w K mg base CX0 6 t.f_law t.d_law ["_law_script"] (sp_law K) := by
  refine T.law.F.ok (k := 5) sc_law (fun vs H Q E h => ?_) (fun cdv A outer s H vs Q E hr h => ?_)
  · obtain ⟨a, ns, rfl, _⟩ := h
    rfl
  · obtain ⟨a, ns, rfl, hS, hlen, k⟩ := h
    refine ⟨_, (@pss_cons _ _ _ _ _ (@ps_set _ _ 1 _ _ _ _ sc_law.nd rfl (Or.inr rfl) (@pe_fn _ _ _ _ _ _ _ _ _ _ _ _ _ _ T.l_hand (ok_l_hand T) hr (by decide) (@pa_cons _ _ _ _ _ (pv 0) (@pa_nil _) star_name) (by rfl) (by decide) (by rfl) (by rfl)) (by rfl) (by first | exact .inl rfl | exact .inr rfl | assumption)) (@pss_cons _ _ _ _ _ (@ps_set _ _ 2 _ _ _ _ sc_law.nd rfl (Or.inl rfl) (@pe_ix _ _ _ _ _ _ _ ix_list (@pe_lst _ _ _ _ (@pa_cons _ _ _ _ _ (@pe_int _ _ _ _) (@pa_cons _ _ _ _ _ (@pe_int _ _ _ _) (@pa_cons _ _ _ _ _ (@pe_int _ _ _ _) (@pa_cons _ _ _ _ _ (@pe_int _ _ _ _) (@pa_nil _) star_con) star_con) star_con) star_con)) (@pe_fn _ _ _ _ _ _ _ _ _ _ _ _ _ _ T.l_draw (ok_l_draw T) hr (by decide) (@pa_cons _ _ _ _ _ (pv 1) (@pa_cons _ _ _ _ _ (@pe_int _ _ _ _) (@pa_nil _) star_con) star_name) (by rfl) (by decide) (by rfl) (by rfl)) (fun _ _ => rfl)) (by rfl) (by first | exact .inl rfl | exact .inr rfl | assumption)) (@pss_cons _ _ _ _ _ (@ps_set _ _ 3 _ _ _ _ sc_law.nd rfl (Or.inr rfl) (@pe_lst _ _ _ _ (@pa_nil _)) (by rfl) (by first | exact .inl rfl | exact .inr rfl | assumption)) (@pss_cons _ _ _ _ _ (@ps_set _ _ 4 _ _ _ _ sc_law.nd rfl (Or.inl rfl) (@pe_lst _ _ _ _ (@pa_nil _)) (by rfl) (by first | exact .inl rfl | exact .inr rfl | assumption)) (@pss_cons _ _ _ _ _ (@ps_for _ _ _ _ _ _ _ _ PassesOwn.never rfl (@pi_range1 _ _ _ _ _ _ rfl T.b_range (@pa_cons _ _ _ _ _ (@pe_op _ _ _ _ _ _ _ _ op_add (@pe_int _ _ _ _) (@pe_fn _ _ _ _ _ _ _ _ _ _ _ _ _ _ T.l_draw (ok_l_draw T) hr (by decide) (@pa_cons _ _ _ _ _ (pv 1) (@pa_cons _ _ _ _ _ (@pe_int _ _ _ _) (@pa_nil _) star_con) star_name) (by rfl) (by decide) (by rfl) (by rfl))) (@pa_nil _) star_bin) (by rfl)) (@pg_name _ _ 5 _ sc_law.nd rfl (Or.inl rfl) (by first | exact .inl rfl | exact .inr rfl | assumption)) (@pss_one _ _ _ (@ps_expr _ _ _ _ (@pe_bm _ _ _ _ _ _ _ _ _ _ _ _ PySem.F.plainAttrs_list PySem.F.slot_list_append PySem.F.type_list_append mt_append (pv 4) (@pa_cons _ _ _ _ _ (@pe_fn _ _ _ _ _ _ _ _ _ _ _ _ _ _ T.l_ring (ok_l_ring T) hr (by decide) (@pa_cons _ _ _ _ _ (pv 1) (@pa_cons _ _ _ _ _ (pv 3) (@pa_cons _ _ _ _ _ (pv 2) (@pa_cons _ _ _ _ _ (@pe_ix _ _ _ _ _ _ _ ix_list (@pe_lst _ _ _ _ (@pa_cons _ _ _ _ _ (@pe_int _ _ _ _) (@pa_cons _ _ _ _ _ (@pe_int _ _ _ _) (@pa_cons _ _ _ _ _ (@pe_int _ _ _ _) (@pa_cons _ _ _ _ _ (@pe_int _ _ _ _) (@pa_cons _ _ _ _ _ (@pe_int _ _ _ _) (@pa_cons _ _ _ _ _ (@pe_int _ _ _ _) (@pa_nil _) star_con) star_con) star_con) star_con) star_con) star_con)) (@pe_fn _ _ _ _ _ _ _ _ _ _ _ _ _ _ T.l_draw (ok_l_draw T) hr (by decide) (@pa_cons _ _ _ _ _ (pv 1) (@pa_cons _ _ _ _ _ (@pe_int _ _ _ _) (@pa_nil _) star_con) star_name) (by rfl) (by decide) (by rfl) (by rfl)) (fun _ _ => rfl)) (@pa_nil _) star_sub) star_name) star_name) star_name) (by rfl) (by decide) (by rfl) (by rfl)) (@pa_nil _) star_call) (by rfl) (by rfl) (by rfl) (by rfl) (by rfl)) (by rfl))) (by intro _; rfl)) (@pss_cons _ _ _ _ _ (@ps_set _ _ 6 _ _ _ _ sc_law.nd rfl (Or.inr rfl) (@pe_fn _ _ _ _ _ _ _ _ _ _ _ _ _ _ T.l_frame (ok_l_frame T) hr (by decide) (@pa_cons _ _ _ _ _ (pv 1) (@pa_nil _) star_name) (by rfl) (by decide) (by rfl) (by rfl)) (by rfl) (by first | exact .inl rfl | exact .inr rfl | assumption)) (@pss_cons _ _ _ _ _ (@ps_setC _ 7 _ _ _ _ _ _ _ _ _ sc_law.nd rfl rfl (@cr_lcompC3 _ "_law_k" "_law_seen" "_law_hand_here" "_law_frame_here" _ _ _ _ _ _ _ _ _ _ 3 1 6 rfl (@pi_range1 _ _ _ _ _ _ rfl T.b_range (@pa_cons _ _ _ _ _ (@pe_int _ _ _ _) (@pa_nil _) star_con) (by rfl)) (fun _ _ _ _ => pg_name (i := 0) (show (["_law_k", "_law_seen", "_law_hand_here", "_law_frame_here"] : List Str).Nodup from by decide +kernel) rfl (Or.inl rfl) (.inr rfl)) (fun _ _ _ _ => (@pe_fn _ _ _ _ _ _ _ _ _ _ _ _ _ _ T.l_framed (ok_l_framed T) hr (by decide) (@pa_cons _ _ _ _ _ (pv 3) (@pa_cons _ _ _ _ _ (@pe_fn _ _ _ _ _ _ _ _ _ _ _ _ _ _ T.l_asked (ok_l_asked T) hr (by decide) (@pa_cons _ _ _ _ _ (pv 2) (@pa_cons _ _ _ _ _ (pv 1) (@pa_nil _) star_name) star_name) (by rfl) (by decide) (by rfl) (by rfl)) (@pa_nil _) star_call) star_name) (by rfl) (by decide) (by rfl) (by rfl))) rfl rfl (by decide +kernel) (by decide +kernel) (And.intro rfl (And.intro rfl (And.intro rfl rfl))) (And.intro rfl (And.intro rfl (And.intro rfl rfl))) (And.intro rfl (And.intro rfl (And.intro rfl rfl))) rfl (by intro _; rfl)) (by rfl)) (@pss_cons _ _ _ _ _ (@ps_setC _ 4 _ _ _ _ _ _ _ _ _ sc_law.nd rfl rfl (@cr_lcompC _ "_law_ring_here" "_law_frame_here" _ _ _ _ _ _ _ _ 6 rfl (@pi_list _ _ _ _ (pv 4)) (fun _ _ _ _ => pg_name (i := 0) (show (["_law_ring_here", "_law_frame_here"] : List Str).Nodup from by decide +kernel) rfl (Or.inl rfl) (.inr rfl)) (fun _ _ _ _ => (@pe_lcompC _ "_law_p" "_law_frame_here" _ _ _ _ _ _ _ _ 1 rfl (@pi_listK _ K _ _ _ rfl (pv 0)) (fun _ _ _ _ => pg_name (i := 0) (show (["_law_p", "_law_frame_here"] : List Str).Nodup from by decide +kernel) rfl (Or.inl rfl) (.inr rfl)) (fun _ _ _ _ => (@pe_fn _ _ _ _ _ _ _ _ _ _ _ _ _ _ T.l_framed (ok_l_framed T) hr (by decide) (@pa_cons _ _ _ _ _ (pv 1) (@pa_cons _ _ _ _ _ (pv 0) (@pa_nil _) star_name) star_name) (by rfl) (by decide) (by rfl) (by rfl))) rfl rfl (by decide +kernel) (by decide +kernel) rfl rfl rfl rfl rfl (by intro _; rfl))) rfl rfl (by decide +kernel) (by decide +kernel) rfl rfl rfl rfl rfl (by intro _; rfl)) (by rfl)) (@pss_cons _ _ _ _ _ (@ps_setC _ 8 _ _ _ _ _ _ _ _ _ sc_law.nd rfl rfl (@cr_lcomp _ _ _ _ _ [] _ ["_law_ring_here"] _ (fun _ => [none]) _ _ rfl (@pi_list _ _ _ _ (pv 4)) (fun _ _ _ _ => pg_name (i := 0) (List.nodup_cons.mpr ⟨fun h => (nomatch h), List.nodup_nil⟩) rfl (Or.inl rfl) (.inr rfl)) (fun _ _ _ _ => (@pe_callTy _ _ _ _ _ _ _ _ _ (call_list_ofK (K := K) rfl) (by rfl) T.b_list PyProof.Rows.boot_list (@pa_cons _ _ _ _ _ (pv 0) (@pa_nil _) star_name) (by decide) (by decide) (by rfl) (by rfl))) (closureFor_none (by decide +kernel)) rfl (by decide +kernel) (by decide +kernel) (fun _ _ h => by cases h) (noCells (by rfl)) (fun _ _ => rfl) (fun _ i _ _ _ h => by cases i with | zero => cases h | succ i => simp at h) (by intro _; rfl)) (by rfl)) (@pss_cons _ _ _ _ _ (@ps_set _ _ 9 _ _ _ _ sc_law.nd rfl (Or.inl rfl) (@pe_fn _ _ _ _ _ _ _ _ _ _ _ _ _ _ T.l_sides (ok_l_sides T) hr (by decide) (@pa_cons _ _ _ _ _ (pv 4) (@pa_nil _) star_name) (by rfl) (by decide) (by rfl) (by rfl)) (by rfl) (by first | exact .inl rfl | exact .inr rfl | assumption)) (@pss_cons _ _ _ _ _ (@ps_set _ _ 10 _ _ _ _ sc_law.nd rfl (Or.inl rfl) (@pe_fn _ _ _ _ _ _ _ _ _ _ _ _ _ _ T.sides_of (ok_sides_of T) hr (by decide) (@pa_cons _ _ _ _ _ (pv 8) (@pa_nil _) star_name) (by rfl) (by decide) (by rfl) (by rfl)) (by rfl) (by first | exact .inl rfl | exact .inr rfl | assumption)) (@pss_cons _ _ _ _ _ (@ps_if _ _ _ _ _ _ _ _ (PW.pt (@pw_or _ _ _ _ _ _ _ (@pt_not _ _ _ _ (@pt_val _ _ _ (@pe_callB _ _ _ _ _ _ _ _ _ call_isinst (by rfl) T.b_isinstance PyProof.Rows.boot_isinstance (@pa_cons _ _ _ _ _ (pv 10) (@pa_cons _ _ _ _ _ (@pe_ty _ _ _ _ T.b_list PyProof.Rows.boot_list (by rfl) (by decide) (by decide)) (@pa_nil _) star_name) star_name) (by decide) (by decide) (by rfl) (by rfl)) (by intro _; rfl))) (@pw_or1 _ _ _ _ (@pt_cmpR _ _ _ _ _ _ _ _ (op_neS hr.units) (pv 10) (pv 9) (nomark _))))) (@pss_one _ _ _ (@ps_ret _ _ _ _ (@pe_bl _ _ _ _))) (@pss_nil _)) (@pss_cons _ _ _ _ _ (@ps_for _ _ _ _ _ _ _ _ PassesOwn.never rfl (@pi_list _ _ _ _ (pv 10)) (@pg_name _ _ 11 _ sc_law.nd rfl (Or.inl rfl) (by first | exact .inl rfl | exact .inr rfl | assumption)) (@pss_one _ _ _ (@ps_if _ _ _ _ _ _ _ _ (@pt_not _ _ _ _ (@pt_val _ _ _ (@pe_callB _ _ _ _ _ _ _ _ _ call_isinst (by rfl) T.b_isinstance PyProof.Rows.boot_isinstance (@pa_cons _ _ _ _ _ (pv 11) (@pa_cons _ _ _ _ _ (@pe_ty _ _ _ _ T.b_tuple PyProof.Rows.boot_tuple (by rfl) (by decide) (by decide)) (@pa_nil _) star_name) star_name) (by decide) (by decide) (by rfl) (by rfl)) (by intro _; rfl))) (@pss_one _ _ _ (@ps_ret _ _ _ _ (@pe_bl _ _ _ _))) (@pss_nil _))) (by intro _; rfl)) (@pss_cons _ _ _ _ _ (@ps_expr _ _ _ _ (@pe_bm0 _ _ _ _ _ _ _ _ _ PySem.F.plainAttrs_list PySem.F.slot_list_clear PySem.F.type_list_clear mt_clear (pv 10) (by rfl) (by rfl)) (by rfl)) (@pss_cons _ _ _ _ _ (@ps_for _ _ _ _ _ _ _ _ PassesOwn.never rfl (@pi_list _ _ _ _ (pv 7)) (@pg_name _ _ 12 _ sc_law.nd rfl (Or.inl rfl) (by first | exact .inl rfl | exact .inr rfl | assumption)) (@pss_one _ _ _ (@ps_if _ _ _ _ _ _ _ _ (@pt_not _ _ _ _ (@pt_val _ _ _ (@pe_fn _ _ _ _ _ _ _ _ _ _ _ _ _ _ T.l_right (ok_l_right T) hr (by decide) (@pa_cons _ _ _ _ _ (pv 8) (@pa_cons _ _ _ _ _ (pv 9) (@pa_cons _ _ _ _ _ (pv 12) (@pa_nil _) star_name) star_name) star_name) (by rfl) (by decide) (by rfl) (by rfl)) (by intro _; rfl))) (@pss_one _ _ _ (@ps_ret _ _ _ _ (@pe_bl _ _ _ _))) (@pss_nil _))) (by intro _; rfl)) (@pss_cons _ _ _ _ _ (@ps_if _ _ _ _ _ _ _ _ (PW.pt (@pw_or _ _ _ _ _ _ _ (@pt_cmpR _ _ _ _ _ _ _ _ (op_neS hr.units) (@pe_fn _ _ _ _ _ _ _ _ _ _ _ _ _ _ T.sides_of (ok_sides_of T) hr (by decide) (@pa_cons _ _ _ _ _ (@pe_lst _ _ _ _ (@pa_nil _)) (@pa_nil _) star_lst) (by rfl) (by decide) (by rfl) (by rfl)) (@pe_lst _ _ _ _ (@pa_nil _)) (nomark _)) (@pw_or1 _ _ _ _ (@pt_cmpR _ _ _ _ _ _ _ _ op_ne (@pe_fn _ _ _ _ _ _ _ _ _ _ _ _ _ _ T.rounds_about (ok_rounds_about T) hr (by decide) (@pa_cons _ _ _ _ _ (@pe_lst _ _ _ _ (@pa_nil _)) (@pa_cons _ _ _ _ _ (@pe_ix _ _ _ _ _ _ _ ix_list (pv 7) (@pe_int _ _ _ _) (fun _ _ => rfl)) (@pa_nil _) star_sub) star_lst) (by rfl) (by decide) (by rfl) (by rfl)) (@pe_int _ _ _ _) (nomark _))))) (@pss_one _ _ _ (@ps_ret _ _ _ _ (@pe_bl _ _ _ _))) (@pss_nil _)) (@pss_one _ _ _ (@ps_ret _ _ _ _ (@pe_and _ _ _ _ _ _ _ (@pe_cmpR _ _ _ _ _ _ _ _ (op_eqS hr.units) (@pe_fn _ _ _ _ _ _ _ _ _ _ _ _ _ _ T.sides_of (ok_sides_of T) hr (by decide) (@pa_cons _ _ _ _ _ (pv 8) (@pa_nil _) star_name) (by rfl) (by decide) (by rfl) (by rfl)) (pv 9) (nomark _)) (@pe_one _ _ _ _ _ (@pe_cmpR _ _ _ _ _ _ _ _ (op_eqS hr.units) (pv 8) (pv 4) (nomark _)))))))))))))))))))))), ?_⟩
    refine st_setG (gv_call (R := fun v H' => ∃ hd sc, v = .ref hd ∧ HandAt H' hd sc) (pa_c (pu_v rfl) pa_n) fun Q f => ⟨a, ns, rfl, hS, fun hd sc H' s n hh => f _ _ ⟨hd, sc, rfl, hh⟩⟩) ?_
    rintro _ H1 ⟨hd, sc, rfl, hh1⟩
    refine st_setG (gv_pick (ys := [2, 3, 5, 9]) (m := 9) hh1 (pa_c pu_c (pa_c pu_c (pa_c pu_c (pa_c pu_c pa_n)))) (by decide) (by decide) (by decide) (fun _ => pa_c (pu_v rfl) (pa_c pu_c pa_n))) ?_
    rintro _ H2 ⟨⟨w, rfl, w0, w9⟩, hh2, _⟩
    refine st_setG (gv_lst pa_n (by show 0 ≤ sizeLine; decide)) ?_
    rintro _ _ ⟨sl, hsl, rfl, rfl⟩
    obtain ⟨nsl, nsc⟩ := hh2.fresh hsl
    have hh3 : HandAt (upd H2 sl (.lst [])) hd sc := hh2.upd ⟨nsl, nsc⟩
    refine st_setG (gv_lst pa_n (by show 0 ≤ sizeLine; decide)) ?_
    rintro _ _ ⟨rg, hrg, rfl, rfl⟩
    obtain ⟨nrh, nrc⟩ := hh3.fresh hrg
    have nrs : rg ≠ sl := fun e => by subst e; rw [upd_same] at hrg; cases hrg
    have hh4 : HandAt (upd (upd H2 sl (.lst [])) rg (.lst [])) hd sc := hh3.upd ⟨nrh, nrc⟩
    have dr0 : Drawing (upd (upd H2 sl (.lst [])) rg (.lst [])) hd sc sl rg 0 [] [] := ⟨hh4, ⟨[], by rw [upd_ne (Ne.symm nrs), upd_same], .nil⟩, ⟨[], upd_same, .nil, fun a h => by simp at h⟩, rfl, by simp, fun p h => by simp at h, fun r h => by simp at h⟩
    revert dr0
    generalize upd (upd H2 sl (.lst [])) rg (.lst []) = H4
    intro dr0
    refine st_rangeG (ga_cons (gv_addDraw (n := 5) (c := 1) dr0.hh pu_c (pa_c (pu_v rfl) (pa_c pu_c pa_n)) (by decide) Bd.small) fun _ _ _ => ga_nil) ?_
    rintro vs H5 ⟨x, H6, r, rfl, ⟨⟨j, rfl, j0, j1⟩, hh5, s5⟩, rfl, rfl⟩
    obtain ⟨ys4, eys4⟩ := dr0.hh.ls
    have dr5 : Drawing H5 hd sc sl rg 0 [] [] := ⟨hh5, dr0.lp.but nsl eys4 s5, by
      obtain ⟨as, h1, h2, h3⟩ := dr0.rl
      cases h2
      exact ⟨[], s5 _ _ h1 nrh, .nil, h3⟩, rfl, by simp, fun p h => by simp at h, fun r h => by simp at h⟩
    refine ⟨1 + j, rfl, by omega, by omega, fun i σ H' => ∃ (z : Option V) (rs : List (List Pt3)) (ps : List Pt3), σ = [some (.ref a), some (.ref hd), some (.int w), some (.ref sl), some (.ref rg), z, none, none, none, none, none, none, none] ∧ Drawing H' hd sc sl rg i rs ps, ⟨none, [], [], rfl, dr5⟩, ?_, ?_⟩
    · rintro i σ H7 hi ⟨z, rs, ps, rfl, dr⟩
      obtain ⟨as, hrg7, pr, has⟩ := dr.rl
      obtain ⟨hys7, ehys7⟩ := dr.hh.ls
      refine st_app1 (R := fun v H' => ∃ (rl : Addr) (H8 : Hp) (r : List Pt3) (n : Nat), v = .ref rl ∧ SameB hd H7 H8 ∧ H8 rl = none ∧ HandAt H8 hd sc ∧ HandAt H' hd sc ∧ Same2 hd sl H8 H' ∧ LP H' rl r ∧ r.length = n ∧ 0 < n ∧ n ≤ 12 ∧ LP H' sl (ps ++ r) ∧ ∀ p ∈ ps ++ r, Dr (ps.length + n) (9 + 2 * (ps.length + n)) p) (pu_v rfl) hrg7 (gv_callA (ga_cons (pu_v rfl).gv fun x1 Hx1 ex1 => ga_cons (pu_v rfl).gv fun x2 Hx2 ex2 => ga_cons (pu_v rfl).gv fun x3 Hx3 ex3 => ga_cons (R1 := fun v H' => (∃ n : Int, v = .int n ∧ 0 < n ∧ n ≤ 12) ∧ HandAt H' hd sc ∧ SameB hd H7 H') ?_ fun _ _ _ => ga_nil) ?_) ?_
      · obtain ⟨rfl, rfl⟩ := ex1
        obtain ⟨rfl, rfl⟩ := ex2
        obtain ⟨rfl, rfl⟩ := ex3
        exact gv_pick (ys := [2, 3, 4, 5, 6, 12]) (m := 12) dr.hh (pa_c pu_c (pa_c pu_c (pa_c pu_c (pa_c pu_c (pa_c pu_c (pa_c pu_c pa_n)))))) (by decide) (by decide) (by decide) (fun _ => pa_c (pu_v rfl) (pa_c pu_c pa_n))
      · rintro vs H8 ⟨x1, Hx1, r1, rfl, ⟨rfl, rfl⟩, x2, Hx2, r2, rfl, ⟨rfl, rfl⟩, x3, Hx3, r3, rfl, ⟨rfl, rfl⟩, x4, Hx4, r4, rfl, ⟨⟨n, rfl, n0, n12⟩, hh8, s8⟩, rfl, rfl⟩ Q f
        have hm := dr.m
        refine ⟨hd, sc, sl, ps, w, n.toNat, by rw [show ((n.toNat : Nat) : Int) = n by omega]; rfl, hh8, dr.lp.but nsl ehys7 s8, nsl, nsc, dr.d, by omega, w0, w9, fun rl H' r n' hh' s2 lr lrn lps dps => f _ _ ⟨rl, H8, r, n.toNat, rfl, s8, n', hh8, hh', s2, lr, lrn, by omega, by omega, lps, dps⟩⟩
      · rintro _ H9 ⟨rl, H8, r, n, rfl, s8, nrl, hh8, hh9, s9, lr, lrn, n0, n12, lps, dps⟩
        have hm := dr.m
        obtain ⟨ys8, eys8⟩ := hh8.ls
        have lp8 := dr.lp.but nsl ehys7 s8
        obtain ⟨zs8, ezs8, _⟩ := lp8.ls
        have rg8 := s8 _ _ hrg7 nrh
        have rg9 := s9 _ _ rg8 nrh nrs
        have f1 : rl ≠ hd := fun e => by subst e; rw [nrl] at eys8; cases eys8
        have f2 : rl ≠ sl := fun e => by subst e; rw [nrl] at ezs8; cases ezs8
        have f3 : rl ≠ rg := fun e => by subst e; rw [nrl] at rg8; cases rg8
        have hal := paired_len pr
        have hrsn := dr.n
        refine ⟨_, rg9, by rw [List.length_map]; exact small1000 (by omega), _, rs ++ [r], ps ++ r, rfl, ?_⟩
        refine ⟨hh9.upd ⟨nrh, nrc⟩, lps.but (Ne.symm nrs) rg9 SameB.upd, ⟨as ++ [rl], by rw [upd_same, List.map_append]; rfl, ?_, ?_⟩, by rw [List.length_append, hrsn]; rfl, ?_, ?_, ?_⟩
        · have pr9 : Paired (fun a x => LP H9 a x ∧ a ≠ rg) as rs := paired_of hal fun m b hb => by
            obtain ⟨x, hx, lx⟩ := paired_get pr hb
            obtain ⟨g1, g2, g3⟩ := has b (List.mem_of_getElem? hb)
            exact ⟨x, hx, (lx.but g1 ehys7 s8).two g1 g2 eys8 ezs8 s9, g3⟩
          exact paired_snoc (paired_mono pr9 fun _ _ x => x.1.but x.2 rg9 SameB.upd) (lr.but f3 rg9 SameB.upd)
        · intro b hb
          rcases List.mem_append.mp hb with hb | hb
          · exact has b hb
          · rw [List.mem_singleton] at hb
            subst hb
            exact ⟨f1, f2, f3⟩
        · rw [List.length_append]
          omega
        · rw [List.length_append, lrn]
          exact dps
        · intro q hq
          rcases List.mem_append.mp hq with hq | hq
          · obtain ⟨g1, g2⟩ := dr.r q hq
            exact ⟨g1, fun p hp => List.mem_append_left _ (g2 p hp)⟩
          · rw [List.mem_singleton] at hq
            subst hq
            exact ⟨⟨by omega, by omega⟩, fun p hp => List.mem_append_right _ hp⟩
    rintro σ H7 ⟨z, rs, ps, rfl, dr⟩
    have hm := dr.m
    have hrn := dr.n
    have hi5 : 1 ≤ (1 + j).toNat ∧ (1 + j).toNat ≤ 5 := by omega
    have psz : ∀ p ∈ ps, Sz 100 p ∧ 0 < p.z := fun p hp => ⟨(dr.d p hp).sz (by omega) (by omega), (dr.d p hp).pos⟩
    refine st_setG (gv_call (R := fun v H' => ∃ f a b c, HandAt H' hd sc ∧ SameB hd H7 H' ∧ TupT H' v [f, a, b, c] ∧ Fr f a b c) (pa_c (pu_v rfl) pa_n) fun Q f => ⟨hd, sc, rfl, dr.hh, fun v H' f' a b c a1 a2 a3 a4 => f _ _ ⟨f', a, b, c, a1, a2, a3, a4⟩⟩) ?_
    rintro fv H8 ⟨f', fa, fb, fc, hh8, s8, tf, F⟩
    obtain ⟨hys7, ehys7⟩ := dr.hh.ls
    obtain ⟨hys8, ehys8⟩ := hh8.ls
    have lp8 := dr.lp.but nsl ehys7 s8
    have rg8 : ∃ as : List Addr, H8 rg = some (.lst (as.map V.ref)) ∧ Paired (LP H8) as rs ∧ ∀ a ∈ as, a ≠ hd := by
      obtain ⟨as, h1, h2, h3⟩ := dr.rl
      refine ⟨as, s8 _ _ h1 nrh, ?_, fun a ha => (h3 a ha).1⟩
      exact paired_of (paired_len h2) fun m b hb => by
        obtain ⟨x, hx, lx⟩ := paired_get h2 hb
        exact ⟨x, hx, lx.but (h3 b (List.mem_of_getElem? hb)).1 ehys7 s8⟩
    refine st_setG (gv_compR (fun D i ys H' => H' D = some (.lst ys) ∧ HandAt H' hd sc ∧ SameB hd H8 H' ∧ ∃ qs : List Pt3, TupsT H' ys (qs.map L3) ∧ qs.length = i ∧ ∀ q ∈ qs, Sz 600 q ∧ 0 < q.z) (pa_c (pu_c (v := .int 5)) pa_n) (by decide) (by decide) (fun x => ⟨rfl, fun i v h => by cases i with | zero => cases h | succ i => exact h⟩) (fun D hD => ⟨upd_same, hh8.upd (hh8.fresh hD), (Same.upd hD).b, [], .nil, rfl, fun q h => by simp at h⟩) ?_) ?_
    · rintro D i ys H9 hD hi ⟨hD9, hh9, s9, qs, tq, hql, hqs⟩
      have hyl : ys.length = i := by rw [tq.len, List.length_map, hql]
      have hi' : i < 5 := hi
      have nD := hh8.fresh hD
      refine ⟨small1000 (by omega), gv_callA (R := fun y H4 => H4 D = some (.lst ys) ∧ _) (ga_cons (pu_v rfl).gv fun x Hx ex => ga_cons (R1 := fun v H' => HandAt H' hd sc ∧ SameB hd H9 H' ∧ ∃ r, AtP H' v r ∧ 0 < r.z ∧ Sz 500 r) ?_ fun _ _ _ => ga_nil) ?_⟩
      · obtain ⟨rfl, rfl⟩ := ex
        exact gv_call (pa_c (pu_v rfl) (pa_c (pu_v rfl) pa_n)) fun Q f => ⟨hd, sc, sl, ps, rfl, hh9, lp8.but nsl ehys8 s9, nsl, by omega, by omega, psz, fun v H' r a s t z b => f _ _ ⟨a, s, r, t, z, b⟩⟩
      · rintro vs H10 ⟨x, Hx, r, rfl, ⟨rfl, rfl⟩, y, H11, r2, rfl, ⟨hh11, s11, p, tp, p0, zp⟩, rfl, rfl⟩ Q f
        obtain ⟨hys9, ehys9⟩ := hh9.ls
        refine ⟨_, _, f', fa, fb, fc, p, rfl, TupT.sameB (TupT.sameB tf s9 ehys8) s11 ehys9, F, tp, zp, p0, fun w' H12 r s12 tr r0 zr => f _ _ ?_⟩
        have hh12 := hh11.same s12
        have d12 := s12 _ _ (s11 _ _ hD9 nD.1)
        refine ⟨d12, upd_same, hh12.upd nD, fun c o e n => ?_, qs ++ [r], ?_, by rw [List.length_append, hql]; rfl, ?_⟩
        · have : c ≠ D := fun z => by subst z; rw [hD] at e; cases e
          rw [upd_ne this]
          exact s12 _ _ (s11 _ _ (s9 _ _ e n) n)
        · rw [List.map_append]
          exact TupsT.lstUpd ((tq.mono fun _ _ x => (TupT.sameB x s11 ehys9).same s12).snoc tr) d12
        · intro q hq
          rcases List.mem_append.mp hq with hq | hq
          · exact hqs q hq
          · rw [List.mem_singleton] at hq
            subst hq
            exact ⟨zr, r0⟩
    rintro _ H9 ⟨pl, ys, hpl0, rfl, hpl, hh9, s9, qs, tq, hql, hqs⟩
    obtain ⟨as, hr8, pr8, nas⟩ := rg8
    have rgl9 : RgL H9 rg rs := ⟨as, s9 _ _ hr8 nrh, paired_of (paired_len pr8) fun m b hb => by
      obtain ⟨x, hx, lx⟩ := paired_get pr8 hb
      exact ⟨x, hx, lx.but (nas b (List.mem_of_getElem? hb)) ehys8 s9⟩⟩
    have tf9 := TupT.sameB tf s9 ehys8
    have hlp9 : LP H9 pl qs := ⟨ys, hpl, tq⟩
    refine st_setG (gv_rows (fun _ q => Sz 600 q ∧ 0 < q.z) (pu_v rfl) rgl9 (by omega) (fun x => ⟨rfl, fun i v h => by cases i with | zero => cases h | succ i => exact h⟩) fun a r H' hr s' lp => gv_compLP (fun _ q => Sz 600 q ∧ 0 < q.z) (pu_v rfl) lp (by have := (dr.r r hr).1; omega) (fun x => ⟨rfl, fun i v h => by cases i with | zero => cases h | succ i => exact h⟩) fun v p H'' hp s'' tp => gv_call (R := fun w H' => Same H'' H' ∧ ∃ q, AtP H' w q ∧ Sz 600 q ∧ 0 < q.z) (pa_c (pu_v rfl) (pa_c (pu_v rfl) pa_n)) fun Q f => ⟨fv, v, f', fa, fb, fc, p, rfl, TupT.same tf9 (s'.trans s''), F, tp, (psz p ((dr.r r hr).2 p hp)).1.mono (by decide), (psz p ((dr.r r hr).2 p hp)).2, fun w' H3 r' s3 t3 r0 z => f _ _ ⟨s3, r', t3, z, r0⟩⟩) ?_
    rintro _ HA ⟨sA, D, ks, rfl, nD, hD, pk⟩
    have hkl : ks.length ≤ 10 := by
      have := paired_len pk
      omega
    have hk20 : ∀ r ∈ ks, 1 ≤ r.length ∧ r.length ≤ 20 := fun r hr => by
      obtain ⟨m, hm'⟩ := List.getElem?_of_mem hr
      obtain ⟨r', hr', prr⟩ := paired_get' pk hm'
      have h1 := paired_len prr
      have h2 := (dr.r r' (List.mem_of_getElem? hr')).1
      omega
    have hksz : ∀ r ∈ ks, ∀ q ∈ r, Sz 4000 q ∧ 0 < q.z := fun r hr q hq => by
      obtain ⟨m, hm'⟩ := List.getElem?_of_mem hr
      obtain ⟨r', hr', prr⟩ := paired_get' pk hm'
      have h1 := paired_all (P := fun q : Pt3 => Sz 600 q ∧ 0 < q.z) (fun _ _ h => h) prr q hq
      exact ⟨h1.1.mono (by decide), h1.2⟩
    refine st_setG (gv_lists (pu_v rfl) hD (by omega)) ?_
    rintro _ HB ⟨sB, E', rfl, nE, hE⟩
    refine st_setG (gv_call (R := fun v H' => ∃ s, v = .ref s ∧ Same HB H' ∧ SdL H' s (ks.flatMap cyc)) (pa_c (pu_v rfl) pa_n) fun Q f => ⟨D, ks, rfl, hD.same sB, hkl, hk20, fun s H' n s' sd => f _ _ ⟨s, rfl, s', sd⟩⟩) ?_
    rintro _ HC ⟨dl, rfl, sC, sdC⟩
    have hE' := hE.same sC
    have hD' := (hD.same sB).same sC
    have hP' := ((hlp9.same sA).same sB).same sC
    refine st_setG (gv_sd (pa_c (pu_v rfl) pa_n) hE' hkl hk20) ?_
    rintro _ HD ⟨fl, rfl, nfl, sD, sdD⟩
    obtain ⟨fs, hfl, pf⟩ := id sdD
    refine st_ifN (pt_or (b := false) (pt_n (b := true) (pt_b (pu_isi (pa_c (pu_v rfl) (pa_c pu_c pa_n)) (.lst hfl) kit_same))) fun _ => pt_t (pu_neS (pu_v rfl) (pu_v rfl) sdD.dat (sdC.same sD).dat)) (fun e => absurd e (by simp)) fun _ => ?_
    refine st_list (K := K) (xs := fs.map V.ref) (pu_v rfl) (fun i σ H' => H' = HD ∧ ∃ z : Option V, σ = [some (.ref a), some (.ref hd), some (.int w), some (.ref sl), some (.ref D), _, some fv, some (.ref pl), some (.ref E'), some (.ref dl), some (.ref fl), z, none]) ⟨rfl, none, rfl⟩ (fun i σ H' _ e => by rw [e.1]; exact SqL.of hfl) ?_ ?_
    · rintro i x σ H' hx ⟨rfl, z', rfl⟩
      rw [List.getElem?_map] at hx
      cases hai : fs[i]? with
      | none => rw [hai] at hx; cases hx
      | some b =>
        rw [hai] at hx
        have ex : V.ref b = x := Option.some.inj hx
        subst ex
        obtain ⟨y, hy, u1, u2, hb, _⟩ := paired_get pf hai
        exact st_ifN1 (pt_n (b := true) (pt_b (pu_isi (pa_c (pu_v rfl) (pa_c pu_c pa_n)) (.tup hb) kit_same))) (fun e => by cases e) fun _ => ⟨rfl, _, rfl⟩
    rintro _ H' ⟨rfl, z', rfl⟩
    refine st_clear (pu_v rfl) hfl ?_
    have sE : Same HC (upd H' fl (.lst [])) := same_updNew sD nfl
    revert sE
    generalize upd H' fl (.lst []) = HE
    intro sE
    obtain ⟨ys', hys', tq'⟩ := id hP'
    have hyl' : ys'.length = 5 := by rw [tq'.len, List.length_map, hql]; rfl
    refine st_list (K := K) (xs := ys') (pu_v rfl) (fun i σ H2 => Same HC H2 ∧ ∃ z : Option V, σ = [some (.ref a), some (.ref hd), some (.int w), some (.ref sl), some (.ref D), _, some fv, some (.ref pl), some (.ref E'), some (.ref dl), some (.ref fl), z', z]) ⟨sE, none, rfl⟩ (fun i σ H2 _ e => SqL.of (e.1 _ _ hys')) ?_ ?_
    · rintro i x σ H2 hx ⟨s2, z2, rfl⟩
      obtain ⟨ns, hns, tx⟩ := tq'.get' hx
      rw [List.getElem?_map] at hns
      cases hqi : qs[i]? with
      | none => rw [hqi] at hns; cases hns
      | some q =>
        rw [hqi] at hns
        have en : ns = L3 q := (Option.some.inj hns).symm
        subst en
        obtain ⟨zq, q0⟩ := hqs q (List.mem_of_getElem? hqi)
        exact st_ifNG1 (R := fun b H3 => b = false ∧ Same HC H3) (gn_tru (gv_call (R := fun v H3 => v = .bl true ∧ Same HC H3) (pa_c (pu_v rfl) (pa_c (pu_v rfl) (pa_c (pu_v rfl) pa_n))) fun Q f => ⟨E', dl, x, ks, q, rfl, hE'.same s2, sdC.same s2, TupT.same tx s2, zq.mono (by decide), q0, hkl, hk20, hksz, fun H3 s3 => f _ _ ⟨rfl, s2.trans s3⟩⟩)) (fun H3 r => by cases r.1) fun H3 r => ⟨r.2, _, rfl⟩
    rintro _ HF ⟨sF, z2, rfl⟩
    refine st_ifNG (R := fun b H3 => b = false ∧ Same HC H3) (gt_or (R := fun b H3 => b = false ∧ Same HC H3) ?_ (fun H3 r => ?_) (fun H3 r => r)) (fun H3 r => by cases r.1) ?_
    · intro Q f
      refine gv_callA (sp := sp_sides_of) (R := fun w H' => ∃ s, w = .ref s ∧ Same HC H' ∧ SdL H' s []) (ga_cons (gv_lst pa_n (by show 0 ≤ sizeLine; decide)) fun _ _ _ => ga_nil) ?_ _ ?_
      · rintro vs H4 ⟨x, H3, r, rfl, ⟨b, hb, rfl, rfl⟩, rfl, rfl⟩ Q f
        exact ⟨b, [], rfl, ⟨[], upd_same, .nil⟩, by simp, fun r h => by simp at h, fun s H' n s' sd => f _ _ ⟨s, rfl, sF.trans ((Same.upd hb).trans s'), sd⟩⟩
      · rintro _ H3 ⟨s, rfl, s3, sd⟩
        refine gv_lst (vs := []) pa_n (by show 0 ≤ sizeLine; decide) _ ?_
        rintro _ _ ⟨b, hb, rfl, rfl⟩
        exact ⟨dS [], (sd.same (Same.upd hb)).dat, .lst (SqL.of upd_same) .nil, _, rfl, f _ _ ⟨rfl, s3.trans (Same.upd hb)⟩⟩
    · obtain ⟨_, s3⟩ := r
      obtain ⟨q, hq⟩ : ∃ q, qs[0]? = some q := ⟨_, List.getElem?_eq_getElem (by rw [hql]; decide)⟩
      obtain ⟨zq, q0⟩ := hqs q (List.mem_of_getElem? hq)
      obtain ⟨u0, eu, tu⟩ := hP'.get hys' hq
      intro Q f
      refine gv_callA (sp := sp_rounds_about) (R := fun w H' => Same HC H' ∧ w = .int 0) (ga_cons (gv_lst pa_n (by show 0 ≤ sizeLine; decide)) fun x Hx ex => ga_cons (R1 := fun v H' => v = u0 ∧ Hx = H') ?_ fun _ _ _ => ga_nil) ?_ _ ?_
      · obtain ⟨b, hb, rfl, rfl⟩ := ex
        exact (pu_ixL (pu_v rfl) pu_c (SqL.of (Same.upd hb _ _ (s3 _ _ hys'))) (atI_nat (j := 0) eu)).gv' ⟨rfl, rfl⟩
      · rintro vs H4 ⟨x, H5, r, rfl, ⟨b, hb, rfl, rfl⟩, y, H6, r2, rfl, ⟨rfl, rfl⟩, rfl, rfl⟩ Q f
        exact ⟨b, [], _, q, rfl, ⟨[], upd_same, .nil⟩, TupT.same tu (s3.trans (Same.upd hb)), zq.mono (by decide), by simp, fun r h => by simp at h, fun r h => by simp at h, fun H' s => f _ _ ⟨(s3.trans (Same.upd hb)).trans s, rfl⟩⟩
      · rintro _ H4 ⟨s4, rfl⟩
        exact pu_c _ ⟨rfl, _, rfl, f _ _ ⟨by simp, s4⟩⟩
    rintro HG ⟨_, sG⟩
    refine st_retG (R := fun v _ => v = .bl true) (gv_andG (R := fun v H' => v = .bl true ∧ Same HC H') ?_ ?_) (fun v H' e => by rw [e]; exact k H')
    · intro Q f
      refine gv_sd (pa_c (pu_v rfl) pa_n) (hE'.same sG) hkl hk20 _ ?_
      rintro _ H3 ⟨s, rfl, n, s3, sd⟩
      exact (pu_v rfl : Pu (tVar 9) _ _ (.ref dl)) _ ⟨dS _, sd.dat, (sdC.same (sG.trans s3)).dat, f _ _ ⟨rfl, sG.trans s3⟩⟩
    · rintro v H3 ⟨rfl, s3⟩
      exact ⟨true, rfl, fun _ => (pu_eqS (pu_v rfl) (pu_v rfl) (hE'.same s3).dat (hD'.same s3).dat).gv' rfl, fun e => by cases e⟩
end
theorem all_mk {l : PySem.W.OpenLaw} {w : World} {K : PySem.W.Frag} {h : Heap} {mg : Str → Option Value} {fa : Addr} (X : K.In h) (G : h.Ns mainGlobals mg) (hfa : mg "law" = some (.ref fa))
    {f0 : Addr} {od0 an0 : Option Addr} {sl0 : Array (Option Value)} {oc0 kV0 dc0 pm0 cd0 ct0 : Value}
    (a0 : PySem.W.nsIn K mainGlobals "is_left_of" = some (some (.ref f0))) (l0 : K.lookup f0 = some ⟨oc0, od0, .func (PySem.W.fnOf "is_left_of" "is_left_of" (defArgs s_is_left_of) (defBody s_is_left_of) (defScope s_is_left_of) .none kV0 dc0 pm0 an0 cd0 ct0), sl0⟩) (c0 : PySem.W.codeIn K cd0 "is_left_of" = true) (k0 : PySem.W.keepIn K (.ref f0) = true)
    {f1 : Addr} {od1 an1 : Option Addr} {sl1 : Array (Option Value)} {oc1 kV1 dc1 pm1 cd1 ct1 : Value}
    (a1 : PySem.W.nsIn K mainGlobals "line_through" = some (some (.ref f1))) (l1 : K.lookup f1 = some ⟨oc1, od1, .func (PySem.W.fnOf "line_through" "line_through" (defArgs s_line_through) (defBody s_line_through) (defScope s_line_through) .none kV1 dc1 pm1 an1 cd1 ct1), sl1⟩) (c1 : PySem.W.codeIn K cd1 "line_through" = true) (k1 : PySem.W.keepIn K (.ref f1) = true)
    {f2 : Addr} {od2 an2 : Option Addr} {sl2 : Array (Option Value)} {oc2 kV2 dc2 pm2 cd2 ct2 : Value}
    (a2 : PySem.W.nsIn K mainGlobals "turn_from" = some (some (.ref f2))) (l2 : K.lookup f2 = some ⟨oc2, od2, .func (PySem.W.fnOf "turn_from" "turn_from" (defArgs s_turn_from) (defBody s_turn_from) (defScope s_turn_from) .none kV2 dc2 pm2 an2 cd2 ct2), sl2⟩) (c2 : PySem.W.codeIn K cd2 "turn_from" = true) (k2 : PySem.W.keepIn K (.ref f2) = true)
    {f3 : Addr} {od3 an3 : Option Addr} {sl3 : Array (Option Value)} {oc3 kV3 dc3 pm3 cd3 ct3 : Value}
    (a3 : PySem.W.nsIn K mainGlobals "turn" = some (some (.ref f3))) (l3 : K.lookup f3 = some ⟨oc3, od3, .func (PySem.W.fnOf "turn" "turn" (defArgs s_turn) (defBody s_turn) (defScope s_turn) .none kV3 dc3 pm3 an3 cd3 ct3), sl3⟩) (c3 : PySem.W.codeIn K cd3 "turn" = true) (k3 : PySem.W.keepIn K (.ref f3) = true)
    {f4 : Addr} {od4 an4 : Option Addr} {sl4 : Array (Option Value)} {oc4 kV4 dc4 pm4 cd4 ct4 : Value}
    (a4 : PySem.W.nsIn K mainGlobals "sides_of" = some (some (.ref f4))) (l4 : K.lookup f4 = some ⟨oc4, od4, .func (PySem.W.fnOf "sides_of" "sides_of" (defArgs s_sides_of) (defBody s_sides_of) (defScope s_sides_of) .none kV4 dc4 pm4 an4 cd4 ct4), sl4⟩) (c4 : PySem.W.codeIn K cd4 "sides_of" = true) (k4 : PySem.W.keepIn K (.ref f4) = true)
    {f5 : Addr} {od5 an5 : Option Addr} {sl5 : Array (Option Value)} {oc5 kV5 dc5 pm5 cd5 ct5 : Value}
    (a5 : PySem.W.nsIn K mainGlobals "goes_under" = some (some (.ref f5))) (l5 : K.lookup f5 = some ⟨oc5, od5, .func (PySem.W.fnOf "goes_under" "goes_under" (defArgs s_goes_under) (defBody s_goes_under) (defScope s_goes_under) .none kV5 dc5 pm5 an5 cd5 ct5), sl5⟩) (c5 : PySem.W.codeIn K cd5 "goes_under" = true) (k5 : PySem.W.keepIn K (.ref f5) = true)
    {f6 : Addr} {od6 an6 : Option Addr} {sl6 : Array (Option Value)} {oc6 kV6 dc6 pm6 cd6 ct6 : Value}
    (a6 : PySem.W.nsIn K mainGlobals "rounds_about" = some (some (.ref f6))) (l6 : K.lookup f6 = some ⟨oc6, od6, .func (PySem.W.fnOf "rounds_about" "rounds_about" (defArgs s_rounds_about) (defBody s_rounds_about) (defScope s_rounds_about) .none kV6 dc6 pm6 an6 cd6 ct6), sl6⟩) (c6 : PySem.W.codeIn K cd6 "rounds_about" = true) (k6 : PySem.W.keepIn K (.ref f6) = true)
    {f7 : Addr} {od7 an7 : Option Addr} {sl7 : Array (Option Value)} {oc7 kV7 dc7 pm7 cd7 ct7 : Value}
    (a7 : PySem.W.nsIn K mainGlobals "_law_hand" = some (some (.ref f7))) (l7 : K.lookup f7 = some ⟨oc7, od7, .func (PySem.W.fnOf "_law_hand" "_law_hand" (defArgs s_l_hand) (defBody s_l_hand) (defScope s_l_hand) .none kV7 dc7 pm7 an7 cd7 ct7), sl7⟩) (c7 : PySem.W.codeIn K cd7 "_law_hand" = true) (k7 : PySem.W.keepIn K (.ref f7) = true)
    {f8 : Addr} {od8 an8 : Option Addr} {sl8 : Array (Option Value)} {oc8 kV8 dc8 pm8 cd8 ct8 : Value}
    (a8 : PySem.W.nsIn K mainGlobals "_law_next" = some (some (.ref f8))) (l8 : K.lookup f8 = some ⟨oc8, od8, .func (PySem.W.fnOf "_law_next" "_law_next" (defArgs s_l_next) (defBody s_l_next) (defScope s_l_next) .none kV8 dc8 pm8 an8 cd8 ct8), sl8⟩) (c8 : PySem.W.codeIn K cd8 "_law_next" = true) (k8 : PySem.W.keepIn K (.ref f8) = true)
    {f9 : Addr} {od9 an9 : Option Addr} {sl9 : Array (Option Value)} {oc9 kV9 dc9 pm9 cd9 ct9 : Value}
    (a9 : PySem.W.nsIn K mainGlobals "_law_take" = some (some (.ref f9))) (l9 : K.lookup f9 = some ⟨oc9, od9, .func (PySem.W.fnOf "_law_take" "_law_take" (defArgs s_l_take) (defBody s_l_take) (defScope s_l_take) .none kV9 dc9 pm9 an9 cd9 ct9), sl9⟩) (c9 : PySem.W.codeIn K cd9 "_law_take" = true) (k9 : PySem.W.keepIn K (.ref f9) = true)
    {f10 : Addr} {od10 an10 : Option Addr} {sl10 : Array (Option Value)} {oc10 kV10 dc10 pm10 cd10 ct10 : Value}
    (a10 : PySem.W.nsIn K mainGlobals "_law_draw" = some (some (.ref f10))) (l10 : K.lookup f10 = some ⟨oc10, od10, .func (PySem.W.fnOf "_law_draw" "_law_draw" (defArgs s_l_draw) (defBody s_l_draw) (defScope s_l_draw) .none kV10 dc10 pm10 an10 cd10 ct10), sl10⟩) (c10 : PySem.W.codeIn K cd10 "_law_draw" = true) (k10 : PySem.W.keepIn K (.ref f10) = true)
    {f11 : Addr} {od11 an11 : Option Addr} {sl11 : Array (Option Value)} {oc11 kV11 dc11 pm11 cd11 ct11 : Value}
    (a11 : PySem.W.nsIn K mainGlobals "_law_divisor" = some (some (.ref f11))) (l11 : K.lookup f11 = some ⟨oc11, od11, .func (PySem.W.fnOf "_law_divisor" "_law_divisor" (defArgs s_l_divisor) (defBody s_l_divisor) (defScope s_l_divisor) .none kV11 dc11 pm11 an11 cd11 ct11), sl11⟩) (c11 : PySem.W.codeIn K cd11 "_law_divisor" = true) (k11 : PySem.W.keepIn K (.ref f11) = true)
    {f12 : Addr} {od12 an12 : Option Addr} {sl12 : Array (Option Value)} {oc12 kV12 dc12 pm12 cd12 ct12 : Value}
    (a12 : PySem.W.nsIn K mainGlobals "_law_point" = some (some (.ref f12))) (l12 : K.lookup f12 = some ⟨oc12, od12, .func (PySem.W.fnOf "_law_point" "_law_point" (defArgs s_l_point) (defBody s_l_point) (defScope s_l_point) .none kV12 dc12 pm12 an12 cd12 ct12), sl12⟩) (c12 : PySem.W.codeIn K cd12 "_law_point" = true) (k12 : PySem.W.keepIn K (.ref f12) = true)
    {f13 : Addr} {od13 an13 : Option Addr} {sl13 : Array (Option Value)} {oc13 kV13 dc13 pm13 cd13 ct13 : Value}
    (a13 : PySem.W.nsIn K mainGlobals "_law_middle" = some (some (.ref f13))) (l13 : K.lookup f13 = some ⟨oc13, od13, .func (PySem.W.fnOf "_law_middle" "_law_middle" (defArgs s_l_middle) (defBody s_l_middle) (defScope s_l_middle) .none kV13 dc13 pm13 an13 cd13 ct13), sl13⟩) (c13 : PySem.W.codeIn K cd13 "_law_middle" = true) (k13 : PySem.W.keepIn K (.ref f13) = true)
    {f14 : Addr} {od14 an14 : Option Addr} {sl14 : Array (Option Value)} {oc14 kV14 dc14 pm14 cd14 ct14 : Value}
    (a14 : PySem.W.nsIn K mainGlobals "_law_ahead" = some (some (.ref f14))) (l14 : K.lookup f14 = some ⟨oc14, od14, .func (PySem.W.fnOf "_law_ahead" "_law_ahead" (defArgs s_l_ahead) (defBody s_l_ahead) (defScope s_l_ahead) .none kV14 dc14 pm14 an14 cd14 ct14), sl14⟩) (c14 : PySem.W.codeIn K cd14 "_law_ahead" = true) (k14 : PySem.W.keepIn K (.ref f14) = true)
    {f15 : Addr} {od15 an15 : Option Addr} {sl15 : Array (Option Value)} {oc15 kV15 dc15 pm15 cd15 ct15 : Value}
    (a15 : PySem.W.nsIn K mainGlobals "_law_turn" = some (some (.ref f15))) (l15 : K.lookup f15 = some ⟨oc15, od15, .func (PySem.W.fnOf "_law_turn" "_law_turn" (defArgs s_l_turn) (defBody s_l_turn) (defScope s_l_turn) .none kV15 dc15 pm15 an15 cd15 ct15), sl15⟩) (c15 : PySem.W.codeIn K cd15 "_law_turn" = true) (k15 : PySem.W.keepIn K (.ref f15) = true)
    {f16 : Addr} {od16 an16 : Option Addr} {sl16 : Array (Option Value)} {oc16 kV16 dc16 pm16 cd16 ct16 : Value}
    (a16 : PySem.W.nsIn K mainGlobals "_law_on" = some (some (.ref f16))) (l16 : K.lookup f16 = some ⟨oc16, od16, .func (PySem.W.fnOf "_law_on" "_law_on" (defArgs s_l_on) (defBody s_l_on) (defScope s_l_on) .none kV16 dc16 pm16 an16 cd16 ct16), sl16⟩) (c16 : PySem.W.codeIn K cd16 "_law_on" = true) (k16 : PySem.W.keepIn K (.ref f16) = true)
    {f17 : Addr} {od17 an17 : Option Addr} {sl17 : Array (Option Value)} {oc17 kV17 dc17 pm17 cd17 ct17 : Value}
    (a17 : PySem.W.nsIn K mainGlobals "_law_under" = some (some (.ref f17))) (l17 : K.lookup f17 = some ⟨oc17, od17, .func (PySem.W.fnOf "_law_under" "_law_under" (defArgs s_l_under) (defBody s_l_under) (defScope s_l_under) .none kV17 dc17 pm17 an17 cd17 ct17), sl17⟩) (c17 : PySem.W.codeIn K cd17 "_law_under" = true) (k17 : PySem.W.keepIn K (.ref f17) = true)
    {f18 : Addr} {od18 an18 : Option Addr} {sl18 : Array (Option Value)} {oc18 kV18 dc18 pm18 cd18 ct18 : Value}
    (a18 : PySem.W.nsIn K mainGlobals "_law_rounds" = some (some (.ref f18))) (l18 : K.lookup f18 = some ⟨oc18, od18, .func (PySem.W.fnOf "_law_rounds" "_law_rounds" (defArgs s_l_rounds) (defBody s_l_rounds) (defScope s_l_rounds) .none kV18 dc18 pm18 an18 cd18 ct18), sl18⟩) (c18 : PySem.W.codeIn K cd18 "_law_rounds" = true) (k18 : PySem.W.keepIn K (.ref f18) = true)
    {f19 : Addr} {od19 an19 : Option Addr} {sl19 : Array (Option Value)} {oc19 kV19 dc19 pm19 cd19 ct19 : Value}
    (a19 : PySem.W.nsIn K mainGlobals "_law_spot" = some (some (.ref f19))) (l19 : K.lookup f19 = some ⟨oc19, od19, .func (PySem.W.fnOf "_law_spot" "_law_spot" (defArgs s_l_spot) (defBody s_l_spot) (defScope s_l_spot) .none kV19 dc19 pm19 an19 cd19 ct19), sl19⟩) (c19 : PySem.W.codeIn K cd19 "_law_spot" = true) (k19 : PySem.W.keepIn K (.ref f19) = true)
    {f20 : Addr} {od20 an20 : Option Addr} {sl20 : Array (Option Value)} {oc20 kV20 dc20 pm20 cd20 ct20 : Value}
    (a20 : PySem.W.nsIn K mainGlobals "_law_ring" = some (some (.ref f20))) (l20 : K.lookup f20 = some ⟨oc20, od20, .func (PySem.W.fnOf "_law_ring" "_law_ring" (defArgs s_l_ring) (defBody s_l_ring) (defScope s_l_ring) .none kV20 dc20 pm20 an20 cd20 ct20), sl20⟩) (c20 : PySem.W.codeIn K cd20 "_law_ring" = true) (k20 : PySem.W.keepIn K (.ref f20) = true)
    {f21 : Addr} {od21 an21 : Option Addr} {sl21 : Array (Option Value)} {oc21 kV21 dc21 pm21 cd21 ct21 : Value}
    (a21 : PySem.W.nsIn K mainGlobals "_law_frame" = some (some (.ref f21))) (l21 : K.lookup f21 = some ⟨oc21, od21, .func (PySem.W.fnOf "_law_frame" "_law_frame" (defArgs s_l_frame) (defBody s_l_frame) (defScope s_l_frame) .none kV21 dc21 pm21 an21 cd21 ct21), sl21⟩) (c21 : PySem.W.codeIn K cd21 "_law_frame" = true) (k21 : PySem.W.keepIn K (.ref f21) = true)
    {f22 : Addr} {od22 an22 : Option Addr} {sl22 : Array (Option Value)} {oc22 kV22 dc22 pm22 cd22 ct22 : Value}
    (a22 : PySem.W.nsIn K mainGlobals "_law_framed" = some (some (.ref f22))) (l22 : K.lookup f22 = some ⟨oc22, od22, .func (PySem.W.fnOf "_law_framed" "_law_framed" (defArgs s_l_framed) (defBody s_l_framed) (defScope s_l_framed) .none kV22 dc22 pm22 an22 cd22 ct22), sl22⟩) (c22 : PySem.W.codeIn K cd22 "_law_framed" = true) (k22 : PySem.W.keepIn K (.ref f22) = true)
    {f23 : Addr} {od23 an23 : Option Addr} {sl23 : Array (Option Value)} {oc23 kV23 dc23 pm23 cd23 ct23 : Value}
    (a23 : PySem.W.nsIn K mainGlobals "_law_whole" = some (some (.ref f23))) (l23 : K.lookup f23 = some ⟨oc23, od23, .func (PySem.W.fnOf "_law_whole" "_law_whole" (defArgs s_l_whole) (defBody s_l_whole) (defScope s_l_whole) .none kV23 dc23 pm23 an23 cd23 ct23), sl23⟩) (c23 : PySem.W.codeIn K cd23 "_law_whole" = true) (k23 : PySem.W.keepIn K (.ref f23) = true)
    {f24 : Addr} {od24 an24 : Option Addr} {sl24 : Array (Option Value)} {oc24 kV24 dc24 pm24 cd24 ct24 : Value}
    (a24 : PySem.W.nsIn K mainGlobals "_law_sides" = some (some (.ref f24))) (l24 : K.lookup f24 = some ⟨oc24, od24, .func (PySem.W.fnOf "_law_sides" "_law_sides" (defArgs s_l_sides) (defBody s_l_sides) (defScope s_l_sides) .none kV24 dc24 pm24 an24 cd24 ct24), sl24⟩) (c24 : PySem.W.codeIn K cd24 "_law_sides" = true) (k24 : PySem.W.keepIn K (.ref f24) = true)
    {f25 : Addr} {od25 an25 : Option Addr} {sl25 : Array (Option Value)} {oc25 kV25 dc25 pm25 cd25 ct25 : Value}
    (a25 : PySem.W.nsIn K mainGlobals "_law_asked" = some (some (.ref f25))) (l25 : K.lookup f25 = some ⟨oc25, od25, .func (PySem.W.fnOf "_law_asked" "_law_asked" (defArgs s_l_asked) (defBody s_l_asked) (defScope s_l_asked) .none kV25 dc25 pm25 an25 cd25 ct25), sl25⟩) (c25 : PySem.W.codeIn K cd25 "_law_asked" = true) (k25 : PySem.W.keepIn K (.ref f25) = true)
    {f26 : Addr} {od26 an26 : Option Addr} {sl26 : Array (Option Value)} {oc26 kV26 dc26 pm26 cd26 ct26 : Value}
    (a26 : PySem.W.nsIn K mainGlobals "_law_quarter" = some (some (.ref f26))) (l26 : K.lookup f26 = some ⟨oc26, od26, .func (PySem.W.fnOf "_law_quarter" "_law_quarter" (defArgs s_l_quarter) (defBody s_l_quarter) (defScope s_l_quarter) .none kV26 dc26 pm26 an26 cd26 ct26), sl26⟩) (c26 : PySem.W.codeIn K cd26 "_law_quarter" = true) (k26 : PySem.W.keepIn K (.ref f26) = true)
    {f27 : Addr} {od27 an27 : Option Addr} {sl27 : Array (Option Value)} {oc27 kV27 dc27 pm27 cd27 ct27 : Value}
    (a27 : PySem.W.nsIn K mainGlobals "_law_right" = some (some (.ref f27))) (l27 : K.lookup f27 = some ⟨oc27, od27, .func (PySem.W.fnOf "_law_right" "_law_right" (defArgs s_l_right) (defBody s_l_right) (defScope s_l_right) .none kV27 dc27 pm27 an27 cd27 ct27), sl27⟩) (c27 : PySem.W.codeIn K cd27 "_law_right" = true) (k27 : PySem.W.keepIn K (.ref f27) = true)
    {f28 : Addr} {od28 an28 : Option Addr} {sl28 : Array (Option Value)} {oc28 kV28 dc28 pm28 cd28 ct28 : Value}
    (a28 : PySem.W.nsIn K mainGlobals "law" = some (some (.ref f28))) (l28 : K.lookup f28 = some ⟨oc28, od28, .func (PySem.W.fnOf "law" "law" (defArgs s_law) (defBody s_law) (defScope s_law) .none kV28 dc28 pm28 an28 cd28 ct28), sl28⟩) (c28 : PySem.W.codeIn K cd28 "law" = true) (k28 : PySem.W.keepIn K (.ref f28) = true)
    (z0 : PySem.W.nsIn K mainGlobals "abs" = some none)
    (z1 : PySem.W.nsIn K mainGlobals "bool" = some none)
    (z2 : PySem.W.nsIn K mainGlobals "int" = some none)
    (z3 : PySem.W.nsIn K mainGlobals "isinstance" = some none)
    (z4 : PySem.W.nsIn K mainGlobals "len" = some none)
    (z5 : PySem.W.nsIn K mainGlobals "list" = some none)
    (z6 : PySem.W.nsIn K mainGlobals "range" = some none)
    (z7 : PySem.W.nsIn K mainGlobals "sum" = some none)
    (z8 : PySem.W.nsIn K mainGlobals "tuple" = some none)
    (z9 : PySem.W.nsIn K mainGlobals "zip" = some none)
    : ∃ fd : FuncData, (∀ (s : Shared) (v : Value), BindsTo s fd ⟨[v], []⟩ [("_law_script", v)]) ∧ ∀ base : Heap, K.In base → base.Ns mainGlobals mg → FnOk l.prog w K mg base CX0 6 fa fd ["_law_script"] (sp_law K) := by
  have e := hfa.symm.trans (PySem.W.mg_of X G a28)
  cases e
  have F0 := fun_mk (st := s_is_left_of) l0 c0 k0
  have b0 := F0.binds (ps := ["p", "q"]) fun _ _ _ _ _ _ us hl => match us, hl with | [_, _], _ => rfl
  have F1 := fun_mk (st := s_line_through) l1 c1 k1
  have b1 := F1.binds (ps := ["p", "q"]) fun _ _ _ _ _ _ us hl => match us, hl with | [_, _], _ => rfl
  have F2 := fun_mk (st := s_turn_from) l2 c2 k2
  have b2 := F2.binds (ps := ["line", "r"]) fun _ _ _ _ _ _ us hl => match us, hl with | [_, _], _ => rfl
  have F3 := fun_mk (st := s_turn) l3 c3 k3
  have b3 := F3.binds (ps := ["p", "q", "r"]) fun _ _ _ _ _ _ us hl => match us, hl with | [_, _, _], _ => rfl
  have F4 := fun_mk (st := s_sides_of) l4 c4 k4
  have b4 := F4.binds (ps := ["rings"]) fun _ _ _ _ _ _ us hl => match us, hl with | [_], _ => rfl
  have F5 := fun_mk (st := s_goes_under) l5 c5 k5
  have b5 := F5.binds (ps := ["u", "v", "p"]) fun _ _ _ _ _ _ us hl => match us, hl with | [_, _, _], _ => rfl
  have F6 := fun_mk (st := s_rounds_about) l6 c6 k6
  have b6 := F6.binds (ps := ["rings", "p"]) fun _ _ _ _ _ _ us hl => match us, hl with | [_, _], _ => rfl
  have F7 := fun_mk (st := s_l_hand) l7 c7 k7
  have b7 := F7.binds (ps := ["_law_script"]) fun _ _ _ _ _ _ us hl => match us, hl with | [_], _ => rfl
  have F8 := fun_mk (st := s_l_next) l8 c8 k8
  have b8 := F8.binds (ps := ["_law_hand_here"]) fun _ _ _ _ _ _ us hl => match us, hl with | [_], _ => rfl
  have F9 := fun_mk (st := s_l_take) l9 c9 k9
  have b9 := F9.binds (ps := ["_law_hand_here"]) fun _ _ _ _ _ _ us hl => match us, hl with | [_], _ => rfl
  have F10 := fun_mk (st := s_l_draw) l10 c10 k10
  have b10 := F10.binds (ps := ["_law_hand_here", "_law_many"]) fun _ _ _ _ _ _ us hl => match us, hl with | [_, _], _ => rfl
  have F11 := fun_mk (st := s_l_divisor) l11 c11 k11
  have b11 := F11.binds (ps := ["_law_one", "_law_other"]) fun _ _ _ _ _ _ us hl => match us, hl with | [_, _], _ => rfl
  have F12 := fun_mk (st := s_l_point) l12 c12 k12
  have b12 := F12.binds (ps := ["_law_a", "_law_b", "_law_c"]) fun _ _ _ _ _ _ us hl => match us, hl with | [_, _, _], _ => rfl
  have F13 := fun_mk (st := s_l_middle) l13 c13 k13
  have b13 := F13.binds (ps := ["_law_p", "_law_q"]) fun _ _ _ _ _ _ us hl => match us, hl with | [_, _], _ => rfl
  have F14 := fun_mk (st := s_l_ahead) l14 c14 k14
  have b14 := F14.binds (ps := ["_law_p", "_law_q"]) fun _ _ _ _ _ _ us hl => match us, hl with | [_, _], _ => rfl
  have F15 := fun_mk (st := s_l_turn) l15 c15 k15
  have b15 := F15.binds (ps := ["_law_p", "_law_q", "_law_r"]) fun _ _ _ _ _ _ us hl => match us, hl with | [_, _, _], _ => rfl
  have F16 := fun_mk (st := s_l_on) l16 c16 k16
  have b16 := F16.binds (ps := ["_law_p", "_law_a", "_law_b"]) fun _ _ _ _ _ _ us hl => match us, hl with | [_, _, _], _ => rfl
  have F17 := fun_mk (st := s_l_under) l17 c17 k17
  have b17 := F17.binds (ps := ["_law_u", "_law_v", "_law_p"]) fun _ _ _ _ _ _ us hl => match us, hl with | [_, _, _], _ => rfl
  have F18 := fun_mk (st := s_l_rounds) l18 c18 k18
  have b18 := F18.binds (ps := ["_law_rings", "_law_p"]) fun _ _ _ _ _ _ us hl => match us, hl with | [_, _], _ => rfl
  have F19 := fun_mk (st := s_l_spot) l19 c19 k19
  have b19 := F19.binds (ps := ["_law_hand_here", "_law_seen", "_law_wide"]) fun _ _ _ _ _ _ us hl => match us, hl with | [_, _, _], _ => rfl
  have F20 := fun_mk (st := s_l_ring) l20 c20 k20
  have b20 := F20.binds (ps := ["_law_hand_here", "_law_seen", "_law_wide", "_law_many"]) fun _ _ _ _ _ _ us hl => match us, hl with | [_, _, _, _], _ => rfl
  have F21 := fun_mk (st := s_l_frame) l21 c21 k21
  have b21 := F21.binds (ps := ["_law_hand_here"]) fun _ _ _ _ _ _ us hl => match us, hl with | [_], _ => rfl
  have F22 := fun_mk (st := s_l_framed) l22 c22 k22
  have b22 := F22.binds (ps := ["_law_frame_here", "_law_p"]) fun _ _ _ _ _ _ us hl => match us, hl with | [_, _], _ => rfl
  have F23 := fun_mk (st := s_l_whole) l23 c23 k23
  have b23 := F23.binds (ps := ["_law_thing"]) fun _ _ _ _ _ _ us hl => match us, hl with | [_], _ => rfl
  have F24 := fun_mk (st := s_l_sides) l24 c24 k24
  have b24 := F24.binds (ps := ["_law_rings"]) fun _ _ _ _ _ _ us hl => match us, hl with | [_], _ => rfl
  have F25 := fun_mk (st := s_l_asked) l25 c25 k25
  have b25 := F25.binds (ps := ["_law_hand_here", "_law_seen"]) fun _ _ _ _ _ _ us hl => match us, hl with | [_, _], _ => rfl
  have F26 := fun_mk (st := s_l_quarter) l26 c26 k26
  have b26 := F26.binds (ps := ["_law_p"]) fun _ _ _ _ _ _ us hl => match us, hl with | [_], _ => rfl
  have F27 := fun_mk (st := s_l_right) l27 c27 k27
  have b27 := F27.binds (ps := ["_law_rings", "_law_sides_here", "_law_p"]) fun _ _ _ _ _ _ us hl => match us, hl with | [_, _, _], _ => rfl
  have F28 := fun_mk (st := s_law) l28 c28 k28
  have b28 := F28.binds (ps := ["_law_script"]) fun _ _ _ _ _ _ us hl => match us, hl with | [_], _ => rfl
  have T : Txt K mg { f_is_left_of := f0, d_is_left_of := _, f_line_through := f1, d_line_through := _, f_turn_from := f2, d_turn_from := _, f_turn := f3, d_turn := _, f_sides_of := f4, d_sides_of := _, f_goes_under := f5, d_goes_under := _, f_rounds_about := f6, d_rounds_about := _, f_l_hand := f7, d_l_hand := _, f_l_next := f8, d_l_next := _, f_l_take := f9, d_l_take := _, f_l_draw := f10, d_l_draw := _, f_l_divisor := f11, d_l_divisor := _, f_l_point := f12, d_l_point := _, f_l_middle := f13, d_l_middle := _, f_l_ahead := f14, d_l_ahead := _, f_l_turn := f15, d_l_turn := _, f_l_on := f16, d_l_on := _, f_l_under := f17, d_l_under := _, f_l_rounds := f18, d_l_rounds := _, f_l_spot := f19, d_l_spot := _, f_l_ring := f20, d_l_ring := _, f_l_frame := f21, d_l_frame := _, f_l_framed := f22, d_l_framed := _, f_l_whole := f23, d_l_whole := _, f_l_sides := f24, d_l_sides := _, f_l_asked := f25, d_l_asked := _, f_l_quarter := f26, d_l_quarter := _, f_l_right := f27, d_l_right := _, f_law := fa, d_law := _ } := { is_left_of := ⟨F0, b0, PySem.W.mg_of X G a0⟩, line_through := ⟨F1, b1, PySem.W.mg_of X G a1⟩, turn_from := ⟨F2, b2, PySem.W.mg_of X G a2⟩, turn := ⟨F3, b3, PySem.W.mg_of X G a3⟩, sides_of := ⟨F4, b4, PySem.W.mg_of X G a4⟩, goes_under := ⟨F5, b5, PySem.W.mg_of X G a5⟩, rounds_about := ⟨F6, b6, PySem.W.mg_of X G a6⟩, l_hand := ⟨F7, b7, PySem.W.mg_of X G a7⟩, l_next := ⟨F8, b8, PySem.W.mg_of X G a8⟩, l_take := ⟨F9, b9, PySem.W.mg_of X G a9⟩, l_draw := ⟨F10, b10, PySem.W.mg_of X G a10⟩, l_divisor := ⟨F11, b11, PySem.W.mg_of X G a11⟩, l_point := ⟨F12, b12, PySem.W.mg_of X G a12⟩, l_middle := ⟨F13, b13, PySem.W.mg_of X G a13⟩, l_ahead := ⟨F14, b14, PySem.W.mg_of X G a14⟩, l_turn := ⟨F15, b15, PySem.W.mg_of X G a15⟩, l_on := ⟨F16, b16, PySem.W.mg_of X G a16⟩, l_under := ⟨F17, b17, PySem.W.mg_of X G a17⟩, l_rounds := ⟨F18, b18, PySem.W.mg_of X G a18⟩, l_spot := ⟨F19, b19, PySem.W.mg_of X G a19⟩, l_ring := ⟨F20, b20, PySem.W.mg_of X G a20⟩, l_frame := ⟨F21, b21, PySem.W.mg_of X G a21⟩, l_framed := ⟨F22, b22, PySem.W.mg_of X G a22⟩, l_whole := ⟨F23, b23, PySem.W.mg_of X G a23⟩, l_sides := ⟨F24, b24, PySem.W.mg_of X G a24⟩, l_asked := ⟨F25, b25, PySem.W.mg_of X G a25⟩, l_quarter := ⟨F26, b26, PySem.W.mg_of X G a26⟩, l_right := ⟨F27, b27, PySem.W.mg_of X G a27⟩, law := ⟨F28, b28, PySem.W.mg_of X G a28⟩, b_abs := PySem.W.mg_none_of X G z0, b_bool := PySem.W.mg_none_of X G z1, b_int := PySem.W.mg_none_of X G z2, b_isinstance := PySem.W.mg_none_of X G z3, b_len := PySem.W.mg_none_of X G z4, b_list := PySem.W.mg_none_of X G z5, b_range := PySem.W.mg_none_of X G z6, b_sum := PySem.W.mg_none_of X G z7, b_tuple := PySem.W.mg_none_of X G z8, b_zip := PySem.W.mg_none_of X G z9 }
  exact ⟨PySem.W.fnOf "law" "law" (defArgs s_law) (defBody s_law) (defScope s_law) .none kV28 dc28 pm28 an28 cd28 ct28, fun s v => .of_eq rfl, fun base _ _ => ok_law T⟩
theorem walk {l : PySem.W.OpenLaw} {q : Program} {loose : List Str} {XP : (Str → Option Value) → Heap → Prop} {YP : World → Heap → Prop} {d : DefRec} {K : Params → PySem.W.Frag} (hn : l.most = some 63) (hdf : d.params.defaults = [])
    (hY : ∀ (w : World) (h : Heap), YP w h → (K w.params).In h)
    (F : ∀ (w : World) (mg : Str → Option Value) (fa : Addr) (h : Heap), (K w.params).In h → h.Ns mainGlobals mg → mg d.name = some (.ref fa) →
      ∃ fd : FuncData, (∀ (s : Shared) (u : Value), BindsTo s fd ⟨[u], []⟩ [("_law_script", u)]) ∧ ∀ base : Heap, (K w.params).In base → base.Ns mainGlobals mg → FnOk l.prog w (K w.params) mg base CX0 6 fa fd ["_law_script"] (sp_law (K w.params))) :
    PySem.W.WalkO q loose XP YP l.row.toRowW d [] (fun f vs => PySem.call f vs) :=
  L2.walk_of (n := 63) (k := 6) (x := "_law_script") (CX := fun _ => CX0) (sp := fun w => sp_law (K w.params)) hn (by decide) hdf ⟨rfl, by decide, by decide⟩ hY F (fun _ _ a ns hl _ hS => ⟨a, ns, rfl, hS, hl, fun _ => rfl⟩) fun _ _ _ _ _ z => z
end My
open PySem PySem.W PyProof.Rows
set_option maxRecDepth 100000 in
set_option maxHeartbeats 0 in
theorem PySem.Challenge.cw_plymap_k22_sides_and_rounds_holds : PySem.Challenge.rw_plymap_k22_sides_and_rounds.Holds := by
  w_on; o_law; k_head; (case hw => w_witness2)
  k_fill
  refine My.walk (l := PySem.Challenge.rw_plymap_k22_sides_and_rounds) rfl rfl (fun w h Y => PySem.W.kIn_of Y) ?F
  case F =>
    intro w mg fa h KX G hmg
    refine' My.all_mk KX G hmg ?a0 ?l0 ?c0 ?k0 ?a1 ?l1 ?c1 ?k1 ?a2 ?l2 ?c2 ?k2 ?a3 ?l3 ?c3 ?k3 ?a4 ?l4 ?c4 ?k4 ?a5 ?l5 ?c5 ?k5 ?a6 ?l6 ?c6 ?k6 ?a7 ?l7 ?c7 ?k7 ?a8 ?l8 ?c8 ?k8 ?a9 ?l9 ?c9 ?k9 ?a10 ?l10 ?c10 ?k10 ?a11 ?l11 ?c11 ?k11 ?a12 ?l12 ?c12 ?k12 ?a13 ?l13 ?c13 ?k13 ?a14 ?l14 ?c14 ?k14 ?a15 ?l15 ?c15 ?k15 ?a16 ?l16 ?c16 ?k16 ?a17 ?l17 ?c17 ?k17 ?a18 ?l18 ?c18 ?k18 ?a19 ?l19 ?c19 ?k19 ?a20 ?l20 ?c20 ?k20 ?a21 ?l21 ?c21 ?k21 ?a22 ?l22 ?c22 ?k22 ?a23 ?l23 ?c23 ?k23 ?a24 ?l24 ?c24 ?k24 ?a25 ?l25 ?c25 ?k25 ?a26 ?l26 ?c26 ?k26 ?a27 ?l27 ?c27 ?k27 ?a28 ?l28 ?c28 ?k28 ?z0 ?z1 ?z2 ?z3 ?z4 ?z5 ?z6 ?z7 ?z8 ?z9
    (case a0 => k_is)
    (case l0 => k_is)
    (case c0 => k_is)
    (case k0 => k_is)
    (case a1 => k_is)
    (case l1 => k_is)
    (case c1 => k_is)
    (case k1 => k_is)
    (case a2 => k_is)
    (case l2 => k_is)
    (case c2 => k_is)
    (case k2 => k_is)
    (case a3 => k_is)
    (case l3 => k_is)
    (case c3 => k_is)
    (case k3 => k_is)
    (case a4 => k_is)
    (case l4 => k_is)
    (case c4 => k_is)
    (case k4 => k_is)
    (case a5 => k_is)
    (case l5 => k_is)
    (case c5 => k_is)
    (case k5 => k_is)
    (case a6 => k_is)
    (case l6 => k_is)
    (case c6 => k_is)
    (case k6 => k_is)
    (case a7 => k_is)
    (case l7 => k_is)
    (case c7 => k_is)
    (case k7 => k_is)
    (case a8 => k_is)
    (case l8 => k_is)
    (case c8 => k_is)
    (case k8 => k_is)
    (case a9 => k_is)
    (case l9 => k_is)
    (case c9 => k_is)
    (case k9 => k_is)
    (case a10 => k_is)
    (case l10 => k_is)
    (case c10 => k_is)
    (case k10 => k_is)
    (case a11 => k_is)
    (case l11 => k_is)
    (case c11 => k_is)
    (case k11 => k_is)
    (case a12 => k_is)
    (case l12 => k_is)
    (case c12 => k_is)
    (case k12 => k_is)
    (case a13 => k_is)
    (case l13 => k_is)
    (case c13 => k_is)
    (case k13 => k_is)
    (case a14 => k_is)
    (case l14 => k_is)
    (case c14 => k_is)
    (case k14 => k_is)
    (case a15 => k_is)
    (case l15 => k_is)
    (case c15 => k_is)
    (case k15 => k_is)
    (case a16 => k_is)
    (case l16 => k_is)
    (case c16 => k_is)
    (case k16 => k_is)
    (case a17 => k_is)
    (case l17 => k_is)
    (case c17 => k_is)
    (case k17 => k_is)
    (case a18 => k_is)
    (case l18 => k_is)
    (case c18 => k_is)
    (case k18 => k_is)
    (case a19 => k_is)
    (case l19 => k_is)
    (case c19 => k_is)
    (case k19 => k_is)
    (case a20 => k_is)
    (case l20 => k_is)
    (case c20 => k_is)
    (case k20 => k_is)
    (case a21 => k_is)
    (case l21 => k_is)
    (case c21 => k_is)
    (case k21 => k_is)
    (case a22 => k_is)
    (case l22 => k_is)
    (case c22 => k_is)
    (case k22 => k_is)
    (case a23 => k_is)
    (case l23 => k_is)
    (case c23 => k_is)
    (case k23 => k_is)
    (case a24 => k_is)
    (case l24 => k_is)
    (case c24 => k_is)
    (case k24 => k_is)
    (case a25 => k_is)
    (case l25 => k_is)
    (case c25 => k_is)
    (case k25 => k_is)
    (case a26 => k_is)
    (case l26 => k_is)
    (case c26 => k_is)
    (case k26 => k_is)
    (case a27 => k_is)
    (case l27 => k_is)
    (case c27 => k_is)
    (case k27 => k_is)
    (case a28 => k_is)
    (case l28 => k_is)
    (case c28 => k_is)
    (case k28 => k_is)
    (case z0 => k_is)
    (case z1 => k_is)
    (case z2 => k_is)
    (case z3 => k_is)
    (case z4 => k_is)
    (case z5 => k_is)
    (case z6 => k_is)
    (case z7 => k_is)
    (case z8 => k_is)
    (case z9 => k_is)
