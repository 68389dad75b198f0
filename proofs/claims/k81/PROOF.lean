import PyProof.Rows.All
import Wide.All
import OpenK.AllK
import Wide.FinOn
import Lean
import PyProof.EqAt
import PyProof.EqKinds
import PyProof.TupleCall
import PyProof.ZipIter
import PyProof.TupleIter
import PyProof.AttrMiss
import PyProof.TupleKey
import PyProof.DictFindH
import KE.KDictOf
import PyProof.DictIter
import PyProof.DictWalks
import PyProof.ListRange
import KE.KDictList
import PyProof.CompUse
import KE.KTryMore
import PyProof.WalkInts
import PySem.Challenge.RW_plymap_k81_cells_and_middles
set_option Elab.async false
set_option linter.all false
set_option maxRecDepth 100000
/-! THE HAND LAYER, for ints, bools, texts, own classes, LISTS and tuples (index, slices, in, append, pop ..), calls, loops. Paste it whole ahead of your own text; what your proof does not reach may be deleted. -/
namespace L2
open PySem PySem.Spec PyProof.Rows

/-- a key: an int or a str -/
abbrev Key := Sum Int Str
def keyIs : Key → Value → Bool
  | .inl k, v => Value.isInt k v
  | .inr x, v => Value.isStrOf x v
def keyH (w : World) : Key → Int
  | .inl k => hashInt k
  | .inr x => hashStr w x
theorem keyIs_shape : ∀ {k : Key} {v : Value}, keyIs k v = true → (∃ i t, k = Sum.inl i ∧ v = Value.int i t) ∨ (∃ x t, k = Sum.inr x ∧ v = Value.str x t)
  | .inl i, v, h => by
    obtain ⟨t, e⟩ := Value.isInt_shape (k := i) (v := v) h
    exact .inl ⟨i, t, rfl, e⟩
  | .inr x, v, h => by
    obtain ⟨t, e⟩ := Value.isStrOf_shape (x := x) (v := v) h
    exact .inr ⟨x, t, rfl, e⟩
theorem key_ll (a b : Int) : decide ((Sum.inl a : Key) = Sum.inl b) = (a == b) := by
  by_cases e : a = b
  · subst e; simp
  · have h : ¬ (Sum.inl a : Key) = Sum.inl b := fun q => e (Sum.inl.inj q)
    rw [decide_eq_false h]
    exact (beq_eq_false_iff_ne.mpr e).symm
theorem key_rr (a b : Str) : decide ((Sum.inr a : Key) = Sum.inr b) = decide (a = b) := by
  by_cases e : a = b
  · subst e; simp
  · have h : ¬ (Sum.inr a : Key) = Sum.inr b := fun q => e (Sum.inr.inj q)
    rw [decide_eq_false h, decide_eq_false e]
theorem key_lr (a : Int) (b : Str) : decide ((Sum.inl a : Key) = Sum.inr b) = false := decide_eq_false (fun q => nomatch q)
theorem key_rl (a : Str) (b : Int) : decide ((Sum.inr a : Key) = Sum.inl b) = false := decide_eq_false (fun q => nomatch q)

def mixKind (prog : Program) (w : World) : PySem.KeyKind prog w Key where
  is := keyIs
  hash := keyH w
  inj := fun v a b ha hb => by
    rcases keyIs_shape ha with ⟨i, t, rfl, rfl⟩ | ⟨x, t, rfl, rfl⟩
    · rcases keyIs_shape hb with ⟨j, u, rfl, e⟩ | ⟨y, u, rfl, e⟩
      · injection e with e1 _; rw [e1]
      · exact nomatch e
    · rcases keyIs_shape hb with ⟨j, u, rfl, e⟩ | ⟨y, u, rfl, e⟩
      · exact nomatch e
      · injection e with e1 _; rw [e1]
  byValue := fun k v h => by
    rcases keyIs_shape h with ⟨i, t, rfl, rfl⟩ | ⟨x, t, rfl, rfl⟩ <;> rfl
  pyHash := fun hv h => by
    rcases keyIs_shape hv with ⟨i, t, rfl, rfl⟩ | ⟨x, t, rfl, rfl⟩
    · exact wpAny_pyHash_int h
    · exact wpAny_pyHash_str h
  eqBool := fun hu hv h => by
    rcases keyIs_shape hu with ⟨i, t, rfl, rfl⟩ | ⟨x, t, rfl, rfl⟩
    · rcases keyIs_shape hv with ⟨j, u, rfl, rfl⟩ | ⟨y, u, rfl, rfl⟩
      · rw [key_ll] at h; exact wpAny_eqBool_int h
      · rw [key_lr] at h; exact SeqAt.EqAt.int_str i t y u _ _ _ _ h
    · rcases keyIs_shape hv with ⟨j, u, rfl, rfl⟩ | ⟨y, u, rfl, rfl⟩
      · rw [key_rl] at h; exact SeqAt.EqAt.str_int x t j u _ _ _ _ h
      · rw [key_rr] at h; exact wpAny_eqBool_str h
  «strs» := fun k x t v h => by
    rcases keyIs_shape h with ⟨i, u, rfl, e⟩ | ⟨y, u, rfl, e⟩
    · exact nomatch e
    · injection e with e1 _
      subst e1
      cases v <;> rfl

end L2

namespace L2
open PySem PySem.Spec PyProof.Rows

/-- a value, without the heap -/
inductive V where
  | non | bl (b : Bool) | int (i : Int) | str (x : Str) | byt (b : Array UInt8) | flt (b : UInt64) | ref (a : Addr) | ty (n : String)
  deriving DecidableEq

def RelV : V → Value → Prop
  | .non, u => u = Value.none
  | .bl b, u => u = Value.bool b
  | .int i, u => ∃ t, u = Value.int i t
  | .str x, u => ∃ t, u = Value.str x t
  | .byt b, u => ∃ t, u = Value.bytes b t
  | .flt b, u => ∃ t, u = Value.float b t
  | .ref a, u => u = Value.ref a
  | .ty n, u => u = Value.type n

abbrev Vals : List V → List Value → Prop := Paired RelV
theorem Vals.length {xs : List V} {us : List Value} (r : Vals xs us) : xs.length = us.length := Paired.length r
theorem Vals.get : ∀ {xs : List V} {us : List Value} {i : Nat} {x : V}, Vals xs us → xs[i]? = some x → ∃ u, us[i]? = some u ∧ RelV x u
  | _, _, _, _, .nil, e => by simp at e
  | _, _, 0, _, .cons r _, e => by simp at e; subst e; exact ⟨_, rfl, r⟩
  | _, _, i + 1, x, .cons _ t, e => by
    obtain ⟨u, h1, h2⟩ := Vals.get (i := i) (x := x) t (by simpa using e)
    exact ⟨u, by simpa using h1, h2⟩
theorem Vals.set {x : V} {u : Value} (r : RelV x u) : ∀ {xs : List V} {us : List Value} (i : Nat), Vals xs us → Vals (xs.set i x) (us.set i u)
  | _, _, _, .nil => .nil
  | _, _, 0, .cons _ t => .cons r t
  | _, _, i + 1, .cons q t => .cons q (Vals.set r i t)
theorem Vals.append : ∀ {xs ys : List V} {us ws : List Value}, Vals xs us → Vals ys ws → Vals (xs ++ ys) (us ++ ws)
  | _, _, _, _, .nil, s => s
  | _, _, _, _, .cons r t, s => .cons r (Vals.append t s)
theorem Vals.take : ∀ {xs : List V} {us : List Value} (n : Nat), Vals xs us → Vals (xs.take n) (us.take n)
  | _, _, 0, _ => .nil
  | _, _, _ + 1, .nil => .nil
  | _, _, n + 1, .cons r t => .cons r (Vals.take n t)
theorem Vals.drop : ∀ {xs : List V} {us : List Value} (n : Nat), Vals xs us → Vals (xs.drop n) (us.drop n)
  | _, _, 0, r => r
  | _, _, _ + 1, .nil => .nil
  | _, _, n + 1, .cons _ t => Vals.drop n t

def RelO : Option V → Option Value → Prop
  | some v, some u => RelV v u
  | none, none => True
  | _, _ => False
def KV {κ : Type} : List (κ × V) → List (κ × Value) → Prop := Paired fun (p : κ × V) (q : κ × Value) => p.1 = q.1 ∧ RelV p.2 q.2

/-- a key of a dict (00_mix): an int or a text -/
def kV : Key → V
  | .inl i => .int i
  | .inr x => .str x

/-- what stands at a tracked address -/
inductive HO where
  /-- a list -/
  | lst (xs : List V)
  /-- a tuple (never changes) -/
  | tup (xs : List V)
  /-- a dict whose keys are ints and texts; one whose keys are tuples of ints and texts (the empty one is both) -/
  | dK (kvs : List (Key × V)) | dT (kvs : List (List Key × V))
  /-- a set of ints: its members, its size -/
  | set (S : Int → Bool) (n : Nat)
  /-- an instance of the class at C, its dict at dx, its attributes -/
  | ins (C dx : Addr) (fs : List (Str × V))
  /-- the dict of the instance at x -/
  | own (x : Addr)
  /-- the dict of an exception -/
  | xd (fs : List (Str × V))
  /-- a bound method, f of x -/
  | met (f x : Addr)
  /-- a range object lo, lo + 1, .. below hi -/
  | rng (lo hi : Int)
  /-- a thing that is known to the object (the script; a dict while a loop walks it): read, never written while it is so -/
  | frz (o : Obj) (u : HO)
  /-- a code object's table -/
  | tbl (ps : Array Value)
  /-- any other thing, by what is true of its one object (a def of one's own: SetO a S n := HO.ext fun h => ..) -/
  | ext (φ : Heap → Prop)

abbrev Hp := Addr → Option HO
def upd (H : Hp) (a : Addr) (o : HO) : Hp := fun b => if b = a then some o else H b
theorem upd_same {H : Hp} {a : Addr} {o : HO} : upd H a o a = some o := by unfold upd; rw [if_pos rfl]
theorem upd_ne {H : Hp} {a b : Addr} {o : HO} (h : b ≠ a) : upd H a o b = H b := by unfold upd; rw [if_neg h]
/-- two objects of different content stand apart -/
theorem ne_of {H : Hp} {a b : Addr} {o u : HO} (h : H a = some o) (h' : H b = some u) (d : o ≠ u) : a ≠ b := by
  intro e; subst e; rw [h] at h'; exact d (Option.some.inj h')
theorem ne_of_none {H : Hp} {a b : Addr} {o : HO} (h : H a = some o) (h' : H b = none) : a ≠ b := by
  intro e; subst e; rw [h] at h'; cases h'

section
variable (P : Program) (w : World)
def ObjOk (H : Hp) (h : Heap) (a : Addr) : HO → Prop
  | .lst xs => xs.length ≤ sizeLine ∧ ∃ (its : List Value) (n : Nat), Vals xs its ∧ h.get? a = some { cls := .type "list", data := .seq its.toArray n }
  | .tup xs => xs.length ≤ sizeLine ∧ ∃ its : List Value, Vals xs its ∧ IsTup h a its.toArray
  | .dK kvs => kvs.length ≤ sizeLine ∧ (a == sysModules) = false ∧ ∃ vs, KV kvs vs ∧ h.DictOf (mixKind P w) a vs
  | .dT kvs => kvs.length ≤ sizeLine ∧ (a == sysModules) = false ∧ ∃ xs : List (List Key × Addr × Value),
      Paired (fun (p : List Key × V) (q : List Key × Addr × Value) => p.1 = q.1 ∧ H q.2.1 = some (.tup (p.1.map kV)) ∧ RelV p.2 q.2.2) kvs xs ∧
      ∃ o es ep, h.get? a = some o ∧ o.ExactDict ∧ o.data = .dict es ep ∧ es.toList = xs.map (entryOfKey (tupleKind (mixKind P w))) ∧ (xs.map (·.1)).Nodup
  | .set S n => h.SetOf (intKind P w) a S n
  | .ins C dx fs => H dx = some (.own a) ∧ fs.length ≤ 1000 ∧ dx ≠ a ∧ h.get? a = some (PySem.W.instObj C dx) ∧
      ∃ mA, h.Ns1 dx mA ∧ (∀ f, RelO (fs.lookup f) (mA f)) ∧ PySem.Within mA (fs.map (·.1))
  | .own _ => ∃ o, h.get? a = some o
  | .xd fs => ∃ mA, h.Ns1 a mA ∧ ∀ f, RelO (fs.lookup f) (mA f)
  | .rng lo hi => ∃ t u v, h.get? a = some { cls := .type "range", data := .fields #[.int lo t, .int hi u, .int 1 v] }
  | .frz o u => h.get? a = some o ∧ ObjOk H h a u
  | .tbl ps => h.get? a = some { cls := .none, data := .fields ps }
  | .met f x => h.get? a = some (PySem.W.methodObj (.ref f) (.ref x))
  | .ext φ => φ h ∧ (∃ o, h.get? a = some o) ∧ ∀ h1 h2 : Heap, φ h1 → (∀ o, h1.get? a = some o → h2.get? a = some o) → φ h2
/-- the abstract heap is held -/
def HOk (H : Hp) (h : Heap) : Prop := ∀ a o, H a = some o → ObjOk P w H h a o
end

section
variable {P : Program} {w : World} {H H' : Hp} {h h' : Heap} {a : Addr} {o : HO}
theorem ObjOk.lt (x : ObjOk P w H h a o) : a < h.objs.size := by
  cases o with
  | lst xs => obtain ⟨_, _, _, _, e⟩ := x; exact Heap.lt_size e
  | tup xs => obtain ⟨_, _, _, p⟩ := x; exact p.lt
  | dK kvs => obtain ⟨_, _, _, _, o, _, _, e, _⟩ := x; exact Heap.lt_size e
  | dT kvs => obtain ⟨_, _, _, _, o, _, _, e, _⟩ := x; exact Heap.lt_size e
  | set S n => obtain ⟨o, _, _, _, e, _⟩ := x; exact Heap.lt_size e
  | ins C dx fs => obtain ⟨_, _, _, e, _⟩ := x; exact Heap.lt_size e
  | own y => obtain ⟨_, e⟩ := x; exact Heap.lt_size e
  | xd fs => obtain ⟨_, ⟨_, _, _, e, _⟩, _⟩ := x; exact Heap.lt_size e
  | rng lo hi => obtain ⟨_, _, _, e⟩ := x; exact Heap.lt_size e
  | frz ob u => obtain ⟨e, _⟩ := x; exact Heap.lt_size e
  | tbl ps => exact Heap.lt_size (show h.get? a = some _ from x)
  | met f y => exact Heap.lt_size (show h.get? a = some _ from x)
  | ext φ => obtain ⟨_, ⟨_, e⟩, _⟩ := x; exact Heap.lt_size e
theorem Paired.mapP {α β : Type} {F G : α → β → Prop} : ∀ {l₁ : List α} {l₂ : List β}, Paired F l₁ l₂ → (∀ a b, F a b → G a b) → Paired G l₁ l₂
  | _, _, .nil, _ => .nil
  | _, _, .cons r t, f => .cons (f _ _ r) (Paired.mapP t f)
/-- what an object's description leans on: its own object, its own dict, the tuples -/
theorem ObjOk.stay (x : ObjOk P w H h a o) (k : ∀ b u, (b = a ∨ H b = some (.own a)) → h.get? b = some u → h'.get? b = some u)
    (ho : ∀ b, H b = some (.own a) → H' b = some (.own a)) (ht : ∀ b xs, H b = some (.tup xs) → H' b = some (.tup xs)) : ObjOk P w H' h' a o := by
  induction o with
  | lst xs => obtain ⟨z, its, n, r, e⟩ := x; exact ⟨z, its, n, r, k _ _ (.inl rfl) e⟩
  | tup xs => obtain ⟨z, its, r, ob, e, c⟩ := x; exact ⟨z, its, r, ob, k _ _ (.inl rfl) e, c⟩
  | dK kvs => obtain ⟨z, y, vs, r, ob, es, ep, e, c⟩ := x; exact ⟨z, y, vs, r, ob, es, ep, k _ _ (.inl rfl) e, c⟩
  | dT kvs =>
    obtain ⟨z, y, xs, r, ob, es, ep, e, c⟩ := x
    exact ⟨z, y, xs, Paired.mapP r fun p q z => ⟨z.1, ht _ _ z.2.1, z.2.2⟩, ob, es, ep, k _ _ (.inl rfl) e, c⟩
  | set S n => obtain ⟨ob, es, ep, t, e, c⟩ := x; exact ⟨ob, es, ep, t, k _ _ (.inl rfl) e, c⟩
  | ins C dx fs =>
    obtain ⟨d, z, ne, e, mA, ⟨od, es, ep, e2, c⟩, r⟩ := x
    exact ⟨ho _ d, z, ne, k _ _ (.inl rfl) e, mA, ⟨od, es, ep, k _ _ (.inr d) e2, c⟩, r⟩
  | own y => obtain ⟨ob, e⟩ := x; exact ⟨ob, k _ _ (.inl rfl) e⟩
  | xd fs => obtain ⟨mA, ⟨od, es, ep, e, c⟩, r⟩ := x; exact ⟨mA, ⟨od, es, ep, k _ _ (.inl rfl) e, c⟩, r⟩
  | rng lo hi => obtain ⟨t, u, v, e⟩ := x; exact ⟨t, u, v, k _ _ (.inl rfl) e⟩
  | frz ob u ih => obtain ⟨e, q⟩ := x; exact ⟨k _ _ (.inl rfl) e, ih q⟩
  | tbl ps =>
    have e : h.get? a = some { cls := .none, data := .fields ps } := x
    show h'.get? a = some { cls := .none, data := .fields ps }
    exact k a _ (.inl rfl) e
  | met f y =>
    have e : h.get? a = some (PySem.W.methodObj (.ref f) (.ref y)) := x
    show h'.get? a = some (PySem.W.methodObj (.ref f) (.ref y))
    exact k a _ (.inl rfl) e
  | ext φ => obtain ⟨p, ⟨o, e⟩, st⟩ := x; exact ⟨st _ _ p fun o q => k _ _ (.inl rfl) q, ⟨o, k _ _ (.inl rfl) e⟩, st⟩
theorem HOk.lt (x : HOk P w H h) (e : H a = some o) : a < h.objs.size := (x a o e).lt
theorem HOk.fresh (x : HOk P w H h) (e : h.objs.size ≤ a) : H a = none := by
  cases q : H a with
  | none => rfl
  | some u => exact absurd (Nat.lt_of_lt_of_le (x.lt q) e) (Nat.lt_irrefl _)
/-- every object of the heap is kept -/
theorem HOk.kept (x : HOk P w H h) (k : ∀ b u, h.get? b = some u → h'.get? b = some u) : HOk P w H h' := fun a o e =>
  (x a o e).stay (fun b u _ q => k b u q) (fun _ q => q) fun _ _ q => q
/-- a new object is laid and tracked -/
theorem HOk.laid (x : HOk P w H h) (k : ∀ b u, h.get? b = some u → h'.get? b = some u) (hp : h.objs.size ≤ a) (new : ObjOk P w (upd H a o) h' a o) : HOk P w (upd H a o) h' := fun b u e => by
  have hn := x.fresh hp
  by_cases hb : b = a
  · subst hb; rw [upd_same] at e; cases e; exact new
  · rw [upd_ne hb] at e
    exact (x b u e).stay (fun c v _ q => k c v q) (fun c q => by rw [upd_ne (ne_of_none q hn)]; exact q) fun c xs q => by rw [upd_ne (ne_of_none q hn)]; exact q
end

/-- what may be read as u: it is u, or a known u -/
def Rd (H : Hp) (a : Addr) (u : HO) : Prop := H a = some u ∨ ∃ o, H a = some (.frz o u)
theorem Rd.ok {P : Program} {w : World} {H : Hp} {h : Heap} {a : Addr} {u : HO} (r : Rd H a u) (x : HOk P w H h) : ObjOk P w H h a u := by
  rcases r with r | ⟨o, r⟩
  · exact x a u r
  · obtain ⟨_, q⟩ := x a _ r
    exact q
/-- what may be written -/
def Mut : Option HO → Prop
  | some (.lst _) => True
  | some (.dK _) => True
  | some (.dT _) => True
  | some (.set _ _) => True
  | some (.ins _ _ _) => True
  | some (.ext _) => True
  | _ => False
section
variable {P : Program} {w : World} {H : Hp} {h h' : Heap} {x e : Addr} {o' : HO}
/-- the object at e is changed: x itself, or the dict of the instance x -/
theorem HOk.write (ok : HOk P w H h) (mu : Mut (H x)) (he : e = x ∨ H e = some (.own x)) (k : ∀ b u, b ≠ e → h.get? b = some u → h'.get? b = some u) (heo : ∃ u, h'.get? e = some u)
    (new : ObjOk P w (upd H x o') h' x o') : HOk P w (upd H x o') h' := fun b u q => by
  have nown : ∀ c y, H c = some (.own y) → c ≠ x := fun c y r z => by subst z; rw [r] at mu; exact mu
  have ntup : ∀ c xs, H c = some (.tup xs) → c ≠ x := fun c xs r z => by subst z; rw [r] at mu; exact mu
  by_cases hb : b = x
  · subst hb; rw [upd_same] at q; cases q; exact new
  · rw [upd_ne hb] at q
    by_cases hbe : b = e
    · have q' : H b = some (.own x) := by
        rcases he with z | z
        · exact absurd (hbe.trans z) hb
        · rw [hbe]; exact z
      rw [q] at q'; cases q'
      obtain ⟨v, hv⟩ := heo
      exact ⟨v, by rw [hbe]; exact hv⟩
    · refine (ok b u q).stay (fun c v hc r => k c v ?_ r) (fun c r => by rw [upd_ne (nown c b r)]; exact r) fun c xs r => by rw [upd_ne (ntup c xs r)]; exact r
      rcases hc with rfl | hc
      · exact hbe
      · rintro rfl
        rcases he with z | z
        · exact nown c b hc z
        · rw [hc] at z; cases z; exact hb rfl
end

/-! ### kept unless tracked; of the frames at fs (the callers') the slots may change (an exception that passes writes there); of the records at ex (iterators) nothing is said -/
structure Un (fs ex : List Addr) (H H' : Hp) (h h' : Heap) : Prop where
  keep : ∀ b o, h.get? b = some o → H b = none → b ∉ fs → b ∉ ex → h'.get? b = some o
  slot : ∀ b o, h.get? b = some o → H b = none → b ∈ fs → b ∉ ex → ∃ sl, h'.get? b = some { o with slots := sl }
  free : ∀ b o, h.get? b = some o → H b = none → b ∉ ex → H' b = none
  there : ∀ b o, h.get? b = some o → b ∉ ex → ∃ o', h'.get? b = some o'
  tups : ∀ b xs, H b = some (.tup xs) → H' b = some (.tup xs)
  frzs : ∀ b o u, H b = some (.frz o u) → H' b = some (.frz o u)
  tbls : ∀ b ps, H b = some (.tbl ps) → ∃ more, H' b = some (.tbl (ps ++ more))
section
variable {fs fs' ex ex' : List Addr} {H H1 H2 : Hp} {h h1 h2 h' : Heap} {a x e : Addr} {o : HO}
theorem Un.any (u : Un fs ex H H1 h h1) {b : Addr} {ob : Obj} (q : h.get? b = some ob) (n : H b = none) (hx : b ∉ ex) : ∃ sl, h1.get? b = some { ob with slots := sl } := by
  by_cases hb : b ∈ fs
  · exact u.slot b ob q n hb hx
  · exact ⟨ob.slots, u.keep b ob q n hb hx⟩
theorem Un.kept (k : ∀ b u, h.get? b = some u → h'.get? b = some u) : Un fs ex H H h h' :=
  ⟨fun b ob q _ _ _ => k b ob q, fun b ob q _ _ _ => ⟨ob.slots, k b ob q⟩, fun _ _ _ n _ => n, fun b ob q _ => ⟨ob, k b ob q⟩, fun _ _ q => q, fun _ _ _ q => q, fun _ ps q => ⟨#[], by rw [q]; simp⟩⟩
theorem Un.refl : Un fs ex H H h h := Un.kept fun _ _ q => q
theorem Un.laid (k : ∀ b u, h.get? b = some u → h'.get? b = some u) (hp : h.objs.size ≤ a) (hn : H a = none) : Un fs ex H (upd H a o) h h' where
  keep := fun b u q _ _ _ => k b u q
  slot := fun b u q _ _ _ => ⟨u.slots, k b u q⟩
  free := fun b u q n _ => by rw [upd_ne (Nat.ne_of_lt (Nat.lt_of_lt_of_le (Heap.lt_size q) hp))]; exact n
  there := fun b u q _ => ⟨u, k b u q⟩
  tups := fun b xs q => by rw [upd_ne (ne_of_none q hn)]; exact q
  frzs := fun b u xs q => by rw [upd_ne (ne_of_none q hn)]; exact q
  tbls := fun b ps q => ⟨#[], by rw [upd_ne (ne_of_none q hn), q]; simp⟩
theorem Un.write (mu : Mut (H x)) (he : e = x ∨ H e = some (.own x)) (k : ∀ b u, b ≠ e → h.get? b = some u → h'.get? b = some u) (heo : ∃ u, h'.get? e = some u) : Un fs ex H (upd H x o) h h' := by
  have hx : ∀ b, H b = none → b ≠ x := fun b n z => by subst z; rw [n] at mu; exact mu
  have hb : ∀ b, H b = none → b ≠ e := fun b n z => by
    subst z
    rcases he with r | r
    · exact hx b n r
    · rw [n] at r; cases r
  have hm : ∀ b u, H b = some u → ¬ Mut (some u) → b ≠ x := fun b u q nm z => by subst z; rw [q] at mu; exact nm mu
  refine ⟨fun b u q n _ _ => k b u (hb b n) q, fun b u q n _ _ => ⟨u.slots, k b u (hb b n) q⟩, fun b u q n _ => by rw [upd_ne (hx b n)]; exact n, fun b u q _ => ?_,
    fun b xs q => by rw [upd_ne (hm b _ q fun z => z)]; exact q, fun b u xs q => by rw [upd_ne (hm b _ q fun z => z)]; exact q, fun b ps q => ⟨#[], by rw [upd_ne (hm b _ q fun z => z), q]; simp⟩⟩
  by_cases hbe : b = e
  · subst hbe; exact heo
  · exact ⟨u, k b u hbe q⟩
end

/-! ### the heap without what is tracked -/
def trk (h : Heap) (H : Hp) : List Addr := (List.range h.objs.size).filter fun a => (H a).isSome
def hidT (h : Heap) (H : Hp) : Heap := PySem.W.hideAll h (trk h H)
theorem hidT_size (h : Heap) (H : Hp) : (hidT h H).objs.size = h.objs.size := PySem.W.hideAll_size _ _
theorem hidT_get {h : Heap} {H : Hp} {b : Addr} {o : Obj} (e : h.get? b = some o) (n : H b = none) : (hidT h H).get? b = some o :=
  PySem.W.hideAll_get _ e fun hm => by
    have q : (H b).isSome = true := (List.mem_filter.mp hm).2
    rw [n] at q; simp at q
theorem of_hidT {h : Heap} {H : Hp} {b : Addr} {o : Obj} (e : (hidT h H).get? b = some o) : h.get? b = some o ∧ H b = none := by
  have e' : h.get? b = some o := PySem.W.of_hideAll (trk h H) e
  refine ⟨e', ?_⟩
  cases q : H b with
  | none => rfl
  | some x =>
    have hm : b ∈ trk h H := List.mem_filter.mpr ⟨List.mem_range.mpr (Heap.lt_size e'), by simp [q]⟩
    have z : (hidT h H).get? b = none := PySem.W.hideAll_none (trk h H) hm
    rw [z] at e; cases e

/-! ### OpenK's ledger, filled with every new object but one -/
end L2

namespace L2
open PySem PySem.Spec PyProof.Rows

/-- the module's facts, over the base: the heap at the law's entry without what is tracked there -/
structure Mod (K : PySem.W.Frag) (mg : Str → Option Value) (base : Heap) : Prop where
  kin : K.In base
  glob : base.Ns mainGlobals mg
  blt : ∃ mb, base.Ns builtinsNs mb ∧ ∀ x : Str, x ≠ "__name__" → mb x = bootBuiltins x
  nolimit : base.NoLimit

/-- the context: a def's body (or a comprehension's block) running. base: fixed through the whole law; s₀, H₀: the entry; outer: the frames whose slots others may change (a def's callers); stack: all frames that run;
   ex: iterators that were made ahead of the entry and are walked here (a comprehension's); fn: the names whose cells were made at the entry (a def: all; a comprehension's block: its own); calm: not within an except suite; pn: pins that every state bears; xe: what is wanted of an exception that leaves the code -/
structure Cx where
  prog : Program
  w : World
  K : PySem.W.Frag
  mg : Str → Option Value
  base : Heap
  A : Around
  N : List Str
  s₀ : Shared
  H₀ : Hp
  env : Env
  outer : List Env
  stack : List Env
  ex : List Addr
  fn : Str → Bool
  calm : Bool
  pn : List (Addr × Obj)
  xe : Value → Shared → Prop
/-- the callers' frames -/
def frs (l : List Env) : List Addr := l.filterMap (·.frame)
abbrev Cx.fs (X : Cx) : List Addr := frs X.outer

def Vis (sc : Scope) (x : Str) : Prop := sc.names.lookup x = some .local ∨ sc.names.lookup x = some .cell ∨ sc.names.lookup x = some .free
def Loc (sc : Scope) (x : Str) : Prop := sc.names.lookup x = some .local ∨ sc.names.lookup x = some .cell
def Look (env : Env) (h : Heap) (m : Str → Option Value) (x : Str) (u : Value) : Prop :=
  (env.kindOf x = some .local ∧ m x = some u) ∨ ((env.kindOf x = some .cell ∨ env.kindOf x = some .free) ∧ ∃ c, env.cells.lookup x = some c ∧ h.IsCell c (some u))

structure Cx.Ok (X : Cx) : Prop where
  mod : Mod X.K X.mg X.base
  kind : X.env.scope.kind = .function
  glob : X.env.globals = mainGlobals
  blt : X.env.builtins = builtinsNs
  above : X.s₀.heap.objs.size ≤ X.env.locals
  inj : ∀ x y c, X.env.cells.lookup x = some c → X.env.cells.lookup y = some c → x = y
  has : ∀ x, (X.env.kindOf x = some .cell ∨ X.env.kindOf x = some .free) → ∃ c, X.env.cells.lookup x = some c
  cab : ∀ x c, X.fn x = true → X.env.cells.lookup x = some c → X.s₀.heap.objs.size ≤ c
  hd : X.calm = true → X.A.handled = none
  frames : X.A.frames = some X.stack
  stk : X.stack = X.outer ∨ (X.stack = X.env :: X.outer ∧ X.env.frame = some X.env.locals)
  exf : ∀ b ∈ X.ex, b ≠ X.env.locals ∧ ∀ x c, X.env.cells.lookup x = some c → c ≠ b
  bs : ∀ b o, X.base.get? b = some o → X.s₀.heap.get? b = some o ∧ X.H₀ b = none
  bsz : X.base.objs.size ≤ X.s₀.heap.objs.size
  noex : ∀ b o, X.base.get? b = some o → b ∉ X.ex
  exfs : ∀ b ∈ X.ex, b ∉ X.fs
  funs : X.s₀.heap.FunFrames X.base X.outer
  frf : ∀ b ∈ X.fs, X.H₀ b = none

structure Inv (X : Cx) (pins : List (Addr × Obj)) (σ : List (Option V)) (H : Hp) (s : Shared) : Prop where
  ok : X.Ok
  os : s.os = X.s₀.os
  bare : AllBare s.gens
  base : Un X.fs X.ex X.H₀ H X.s₀.heap s.heap
  loc : ∃ m, s.heap.Ns X.env.locals m ∧ ∀ (i : Nat) (x : Str) (v : V), X.N[i]? = some x → σ[i]? = some (some v) → Vis X.env.scope x → ∃ u, RelV v u ∧ Look X.env s.heap m x u
  cell : ∀ x c, X.env.cells.lookup x = some c → ∃ v, s.heap.IsCell c v
  free : H X.env.locals = none
  freeC : ∀ x c, X.env.cells.lookup x = some c → H c = none
  pin : ∀ p ∈ X.pn ++ pins, s.heap.get? p.1 = some p.2 ∧ H p.1 = none ∧ p.1 ≠ X.env.locals ∧ p.1 ∉ X.fs ∧ ∀ v, p.2.data ≠ .cell v
  hok : HOk X.prog X.w H s.heap
  len : σ.length = X.N.length

section
variable {X : Cx} {pins : List (Addr × Obj)} {σ : List (Option V)} {H H' : Hp} {s : Shared} {h' : Heap}

theorem Cx.Ok.nofr (ok : X.Ok) {b : Addr} {o : Obj} (e : X.base.get? b = some o) : b ∉ X.fs := fun hb => by
  have := (ok.funs.mem hb).1
  rw [e] at this; cases this
theorem Inv.bs (I : Inv X pins σ H s) : ∀ b o, X.base.get? b = some o → s.heap.get? b = some o ∧ H b = none := fun b o e =>
  ⟨I.base.keep b o (I.ok.bs b o e).1 (I.ok.bs b o e).2 (I.ok.nofr e) (I.ok.noex b o e), I.base.free b o (I.ok.bs b o e).1 (I.ok.bs b o e).2 (I.ok.noex b o e)⟩
theorem Inv.bk (I : Inv X pins σ H s) : ∀ b o, X.base.get? b = some o → s.heap.get? b = some o := fun b o e => (I.bs b o e).1
theorem Inv.mod (I : Inv X pins σ H s) : Mod X.K X.mg X.base := I.ok.mod
theorem Inv.kIn (I : Inv X pins σ H s) : X.K.In s.heap := I.ok.mod.kin.keeps I.bk
theorem Inv.lt (I : Inv X pins σ H s) : X.env.locals < s.heap.objs.size := let ⟨_, hn, _⟩ := I.loc; hn.lt
theorem Inv.sz (I : Inv X pins σ H s) : X.s₀.heap.objs.size ≤ s.heap.objs.size := Nat.le_trans I.ok.above (Nat.le_of_lt I.lt)
theorem Inv.nofs (I : Inv X pins σ H s) {a : Addr} (h : s.heap.objs.size ≤ a) : a ∉ X.fs := fun hb => by
  obtain ⟨_, o, ho, _⟩ := I.ok.funs.mem hb
  exact absurd (Nat.lt_of_lt_of_le (Heap.lt_size ho) (Nat.le_trans I.sz h)) (Nat.lt_irrefl _)
theorem Inv.cne (I : Inv X pins σ H s) : ∀ x c, X.env.cells.lookup x = some c → c ≠ X.env.locals := fun x c e z => by
  obtain ⟨v, o, ho, hd⟩ := I.cell x c e
  obtain ⟨m, ⟨o', es, ep, ho', hd', _⟩, _⟩ := I.loc
  rw [z, ho'] at ho; cases ho; rw [hd'] at hd; cases hd
theorem Inv.funs (I : Inv X pins σ H s) : s.heap.FunFrames X.base X.outer := by
  have all : ∀ (l : List Env), (∀ b ∈ frs l, b ∈ X.fs) → X.s₀.heap.FunFrames X.base l → s.heap.FunFrames X.base l := by
    intro l
    induction l with
    | nil => intro _ _; trivial
    | cons env r ih =>
      intro hs hl
      obtain ⟨hk, ⟨L, o, hf, hn, ho, hd⟩, hr⟩ := hl
      have hL : L ∈ X.fs := hs L (by unfold frs; rw [List.filterMap_cons, hf]; exact List.mem_cons_self)
      obtain ⟨sl, e⟩ := I.base.slot L o ho (I.ok.frf L hL) hL fun z => I.ok.exfs L z hL
      exact ⟨hk, ⟨L, _, hf, hn, e, hd⟩, ih (fun b hb => hs b (by unfold frs; rw [List.filterMap_cons, hf]; exact List.mem_cons_of_mem _ hb)) hr⟩
  exact all X.outer (fun _ hb => hb) I.ok.funs

/-- the frames that run, for a call -/
theorem Inv.stack (I : Inv X pins σ H s) : s.heap.FunFrames X.base X.stack := by
  rcases I.ok.stk with e | ⟨e, hf⟩
  · rw [e]; exact I.funs
  · rw [e]
    obtain ⟨m, hn, _⟩ := I.loc
    refine .cons (by rw [I.ok.kind]; decide) hf hn ?_ I.funs
    exact Heap.get?_none_of_le (Nat.le_trans I.ok.bsz I.ok.above)
theorem Inv.stkSub (I : Inv X pins σ H s) : ∀ b ∈ frs X.stack, b ∈ X.env.locals :: X.fs := fun b hb => by
  rcases I.ok.stk with e | ⟨e, hf⟩
  · rw [e] at hb; exact List.mem_cons_of_mem _ hb
  · rw [e] at hb
    unfold frs at hb
    rw [List.filterMap_cons, hf] at hb
    exact hb
theorem Inv.stkFree (I : Inv X pins σ H s) : ∀ b ∈ frs X.stack, H b = none := fun b hb => by
  rcases List.mem_cons.mp (I.stkSub b hb) with e | hb
  · rw [e]; exact I.free
  · obtain ⟨_, o, ho, _⟩ := I.ok.funs.mem hb
    exact I.base.free b o ho (I.ok.frf b hb) fun z => I.ok.exfs b z hb

/-- THE STEP: the untracked objects but the frame and the records at ch are kept (the callers' frames up to slots), the frame's map is kept, the new abstract heap is held -/
theorem Inv.step {g' : Array GenState} {t' : Nat} {d' : Drawn} {ch : List Addr} (I : Inv X pins σ H s)
    (hch : ∀ b ∈ ch, (b ∈ X.ex ∨ X.s₀.heap.objs.size ≤ b) ∧ b ≠ X.env.locals ∧ (∀ x c, X.env.cells.lookup x = some c → c ≠ b) ∧ ∀ p ∈ X.pn ++ pins, p.1 ≠ b)
    (keep : ∀ b o, b ≠ X.env.locals → b ∉ X.fs → b ∉ ch → s.heap.get? b = some o → H b = none → h'.get? b = some o)
    (slot : ∀ b o, b ≠ X.env.locals → b ∈ X.fs → b ∉ ch → s.heap.get? b = some o → H b = none → ∃ sl, h'.get? b = some { o with slots := sl }) (free : ∀ b o, b ∉ ch → s.heap.get? b = some o → H b = none → H' b = none)
    (there : ∀ b o, b ∉ ch → s.heap.get? b = some o → ∃ o', h'.get? b = some o')
    (tups : ∀ b xs, H b = some (.tup xs) → H' b = some (.tup xs)) (frzs : ∀ b o u, H b = some (.frz o u) → H' b = some (.frz o u)) (tbls : ∀ b ps, H b = some (.tbl ps) → ∃ more, H' b = some (.tbl (ps ++ more)))
    (ns : ∀ m, s.heap.Ns X.env.locals m → h'.Ns X.env.locals m) (hok : HOk X.prog X.w H' h') (hg : AllBare g') :
    Inv X pins σ H' { s with heap := h', gens := g', drawn := d', toks := t' } := by
  have neL : ∀ b o, X.s₀.heap.get? b = some o → b ≠ X.env.locals := fun b o e => Nat.ne_of_lt (Nat.lt_of_lt_of_le (Heap.lt_size e) I.ok.above)
  have neC : ∀ b o, X.s₀.heap.get? b = some o → b ∉ X.ex → b ∉ ch := fun b o e hx hb => by
    rcases (hch b hb).1 with z | z
    · exact hx z
    · exact absurd (Nat.lt_of_lt_of_le (Heap.lt_size e) z) (Nat.lt_irrefl _)
  have cellK : ∀ x c, X.env.cells.lookup x = some c → ∀ v, s.heap.IsCell c v → h'.IsCell c v := fun x c e v ⟨o, ho, hd⟩ => by
    have nch : c ∉ ch := fun z => (hch c z).2.2.1 x c e rfl
    by_cases hc : c ∈ X.fs
    · obtain ⟨sl, q⟩ := slot c o (I.cne x c e) hc nch ho (I.freeC x c e)
      exact ⟨_, q, hd⟩
    · exact ⟨o, keep c o (I.cne x c e) hc nch ho (I.freeC x c e), hd⟩
  refine ⟨I.ok, I.os, hg, ⟨fun b o e n hb hx => ?_, fun b o e n hb hx => ?_, fun b o e n hx => ?_, fun b o e hx => ?_, fun b xs e => tups b xs (I.base.tups b xs e), fun b o xs e => frzs b o xs (I.base.frzs b o xs e), fun b ps e => ?_⟩, ?_, fun x c e => ?_, ?_, fun x c e => ?_, fun p hp => ?_, hok, I.len⟩
  · exact keep b o (neL b o e) hb (neC b o e hx) (I.base.keep b o e n hb hx) (I.base.free b o e n hx)
  · obtain ⟨sl, e1⟩ := I.base.slot b o e n hb hx
    obtain ⟨sl', e2⟩ := slot b _ (neL b o e) hb (neC b o e hx) e1 (I.base.free b o e n hx)
    exact ⟨sl', e2⟩
  · obtain ⟨o', e1⟩ := I.base.there b o e hx
    exact free b o' (neC b o e hx) e1 (I.base.free b o e n hx)
  · obtain ⟨o', e1⟩ := I.base.there b o e hx
    exact there b o' (neC b o e hx) e1
  · obtain ⟨m1, e1⟩ := I.base.tbls b ps e
    obtain ⟨m2, e2⟩ := tbls b _ e1
    exact ⟨m1 ++ m2, by rw [e2, Array.append_assoc]⟩
  · obtain ⟨m, hn, hl⟩ := I.loc
    refine ⟨m, ns m hn, fun i x v e1 e2 e3 => ?_⟩
    obtain ⟨u, r, l⟩ := hl i x v e1 e2 e3
    refine ⟨u, r, ?_⟩
    rcases l with l | ⟨k, c, e, z⟩
    · exact .inl l
    · exact .inr ⟨k, c, e, cellK x c e _ z⟩
  · obtain ⟨v, z⟩ := I.cell x c e
    exact ⟨v, cellK x c e v z⟩
  · obtain ⟨m, ⟨o, _, _, ho, _⟩, _⟩ := I.loc
    exact free _ o (fun z => (hch _ z).2.1 rfl) ho I.free
  · obtain ⟨v, o, ho, hd⟩ := I.cell x c e
    exact free c o (fun z => (hch c z).2.2.1 x c e rfl) ho (I.freeC x c e)
  · obtain ⟨e, n, ne, nf, d⟩ := I.pin p hp
    have nch : p.1 ∉ ch := fun z => (hch p.1 z).2.2.2 p hp rfl
    exact ⟨keep p.1 p.2 ne nf nch e n, free p.1 p.2 nch e n, ne, nf, d⟩
/-- .. where the frame's own object is kept too -/
theorem Inv.un {t' : Nat} (I : Inv X pins σ H s) (u : Un X.fs [] H H' s.heap h') (hok : HOk X.prog X.w H' h') : Inv X pins σ H' { s with heap := h', toks := t' } := by
  obtain ⟨m, ⟨o, es, ep, ho, r⟩, _⟩ := id I.loc
  obtain ⟨sl, hL⟩ := u.any ho I.free (by simp)
  exact I.step (g' := s.gens) (d' := s.drawn) (ch := []) (fun _ z => nomatch z) (fun b o _ hb _ e n => u.keep b o e n hb (by simp)) (fun b o _ hb _ e n => u.slot b o e n hb (by simp)) (fun b o _ e n => u.free b o e n (by simp)) (fun b o _ e => u.there b o e (by simp)) u.tups u.frzs u.tbls (fun m' hm => by
    obtain ⟨o', es', ep', ho', r'⟩ := hm
    rw [ho] at ho'; cases ho'
    exact ⟨_, es', ep', hL, r'⟩) hok I.bare
/-- behind a call (or a comprehension's block): the slots of this frame may have changed too, the records at ch may have turned -/
theorem Inv.call {g' : Array GenState} {t' : Nat} {d' : Drawn} {ch : List Addr} (I : Inv X pins σ H s) (u : Un (frs X.stack) ch H H' s.heap h') (hok : HOk X.prog X.w H' h') (hg : AllBare g')
    (hch : ∀ b ∈ ch, (b ∈ X.ex ∨ X.s₀.heap.objs.size ≤ b) ∧ b ≠ X.env.locals ∧ (∀ x c, X.env.cells.lookup x = some c → c ≠ b) ∧ ∀ p ∈ X.pn ++ pins, p.1 ≠ b) :
    Inv X pins σ H' { s with heap := h', gens := g', drawn := d', toks := t' } := by
  obtain ⟨m, ⟨o, es, ep, ho, r⟩, _⟩ := id I.loc
  obtain ⟨sl, hL⟩ := u.any ho I.free fun z => (hch _ z).2.1 rfl
  exact I.step (ch := ch) hch (fun b o hL hb hc e n => u.keep b o e n (fun z => (List.mem_cons.mp (I.stkSub b z)).elim hL hb) hc) (fun b o _ _ hc e n => u.any e n hc) (fun b o hc e n => u.free b o e n hc) (fun b o hc e => u.there b o e hc) u.tups u.frzs u.tbls (fun m' hm => by
    obtain ⟨o', es', ep', ho', r'⟩ := hm
    rw [ho] at ho'; cases ho'
    exact ⟨_, es', ep', hL, r'⟩) hok hg
/-- an untracked record of ours (an iterator) has turned -/
theorem Inv.turned {t' : Nat} {it : Addr} (I : Inv X pins σ H s) (k : ∀ b o, b ≠ it → s.heap.get? b = some o → h'.get? b = some o) (hn : H it = none) (hL : it ≠ X.env.locals)
    (h1 : it ∈ X.ex ∨ X.s₀.heap.objs.size ≤ it) (h2 : ∀ x c, X.env.cells.lookup x = some c → c ≠ it) (h3 : ∀ p ∈ X.pn ++ pins, p.1 ≠ it) : Inv X pins σ H { s with heap := h', toks := t' } := by
  have nit : ∀ b u, H b = some u → b ≠ it := fun b u e z => by rw [z, hn] at e; cases e
  refine I.step (g' := s.gens) (d' := s.drawn) (ch := [it]) (fun b hb => ?_) (fun b o _ _ hc e _ => k b o (fun z => hc (by simp [z])) e) (fun b o _ _ hc e _ => ⟨o.slots, k b o (fun z => hc (by simp [z])) e⟩) (fun _ _ _ _ n => n)
    (fun b o hc e => ⟨o, k b o (fun z => hc (by simp [z])) e⟩) (fun _ _ e => e) (fun _ _ _ e => e) (fun b ps e => ⟨#[], by rw [e]; simp⟩) (fun m hm => ?_) (fun b u e => ?_) I.bare
  · have e : b = it := by simpa using hb
    subst e
    exact ⟨h1, hL, h2, h3⟩
  · obtain ⟨o, es, ep, ho, r⟩ := hm
    exact ⟨o, es, ep, k _ o (Ne.symm hL) ho, r⟩
  · refine (I.hok b u e).stay (fun c v hc q => k c v ?_ q) (fun _ q => q) fun _ _ q => q
    rcases hc with z | z
    · rw [z]; exact nit b u e
    · exact nit c _ z
theorem Inv.tok (I : Inv X pins σ H s) (t : Nat) : Inv X pins σ H { s with toks := t } := I.un (h' := s.heap) (t' := t) Un.refl I.hok
/-- all objects kept -/
theorem Inv.kept {t' : Nat} (I : Inv X pins σ H s) (k : ∀ b u, s.heap.get? b = some u → h'.get? b = some u) : Inv X pins σ H { s with heap := h', toks := t' } := I.un (Un.kept k) (I.hok.kept k)
/-- a new object laid and tracked -/
theorem Inv.laid {a : Addr} {o : HO} {t' : Nat} (I : Inv X pins σ H s) (k : ∀ b u, s.heap.get? b = some u → h'.get? b = some u) (hp : s.heap.objs.size ≤ a) (new : ObjOk X.prog X.w (upd H a o) h' a o) :
    Inv X pins σ (upd H a o) { s with heap := h', toks := t' } := I.un (Un.laid k hp (I.hok.fresh hp)) (I.hok.laid k hp new)
/-- an object written -/
theorem Inv.write {x e : Addr} {o : HO} {t' : Nat} (I : Inv X pins σ H s) (mu : Mut (H x)) (he : e = x ∨ H e = some (.own x)) (k : ∀ b u, b ≠ e → s.heap.get? b = some u → h'.get? b = some u) (heo : ∃ u, h'.get? e = some u)
    (new : ObjOk X.prog X.w (upd H x o) h' x o) : Inv X pins σ (upd H x o) { s with heap := h', toks := t' } := I.un (Un.write mu he k heo) (I.hok.write mu he k heo new)
theorem Inv.pins_of {pins' : List (Addr × Obj)} (I : Inv X pins σ H s) (h : ∀ p ∈ pins', s.heap.get? p.1 = some p.2 ∧ H p.1 = none ∧ p.1 ≠ X.env.locals ∧ p.1 ∉ X.fs ∧ ∀ v, p.2.data ≠ .cell v) : Inv X pins' σ H s :=
  ⟨I.ok, I.os, I.bare, I.base, I.loc, I.cell, I.free, I.freeC, fun p hp => (List.mem_append.mp hp).elim (fun z => I.pin p (List.mem_append_left _ z)) (h p), I.hok, I.len⟩

theorem nodup_ix {N : List Str} (hN : N.Nodup) {i j : Nat} {x : Str} (a : N[i]? = some x) (b : N[j]? = some x) : i = j := by
  obtain ⟨h1, e1⟩ := List.getElem?_eq_some_iff.mp a
  obtain ⟨h2, e2⟩ := List.getElem?_eq_some_iff.mp b
  exact (List.getElem_inj hN).mp (e1.trans e2.symm)

/-- a name is stored; what changed -/
theorem store_ok2 {M : Model} {A : Around} {E : Value → Shared → Prop} {i : Nat} {x : Str} {v : V} {u : Value} {Q : Unit → Shared → Prop} (I : Inv X pins σ H s) (hN : X.N.Nodup) (hi : X.N[i]? = some x) (hx : Loc X.env.scope x) (r : RelV v u)
    (h : ∀ s', Inv X pins (σ.set i (some v)) H s' → (∃ a, Heap.SameBut a s.heap s'.heap ∧ (a = X.env.locals ∨ X.env.cells.lookup x = some a)) → Q () s') (hf : X.fn x = true ∨ X.env.scope.names.lookup x = some .local := by first | exact .inl rfl | exact .inr rfl | assumption) : wpAny M A (storeName X.env x u) Q E s := by
  obtain ⟨m, hn, hl⟩ := id I.loc
  have hcls : (X.env.scope.kind == .class || (X.env.scope.kind == .module && X.env.locals != X.env.globals)) = false := by rw [I.ok.kind]; rfl
  have hiσ : i < σ.length := by rw [I.len]; exact (List.getElem?_eq_some_iff.mp hi).1
  have cne := I.cne
  have tracked : ∀ {a : Addr} {h' : Heap}, (∃ o, s.heap.get? a = some o ∧ H a = none) → Heap.SameBut a s.heap h' → HOk X.prog X.w H h' := fun {a h'} ha hs b ob e => by
    obtain ⟨_, _, hfree⟩ := ha
    refine (I.hok b ob e).stay (fun c w' hc q => (hs.2 c ?_).trans q) (fun _ q => q) fun _ _ q => q
    rintro rfl
    rcases hc with rfl | hc
    · rw [hfree] at e; cases e
    · rw [hfree] at hc; cases hc
  rcases hx with hk | hk
  · refine wpAny_storeName_local hk hn (fun h' hn' hs => ?_) hcls
    obtain ⟨oL, _, _, hoL, _⟩ := id hn
    refine h _ ⟨I.ok, I.os, I.bare, ⟨fun b o e n hb hx => ?_, fun b o e n hb hx => ?_, I.base.free, fun b o e hx => ?_, I.base.tups, I.base.frzs, I.base.tbls⟩, ⟨_, hn', fun j y v' e1 e2 e3 => ?_⟩, fun y c e => ?_, I.free, I.freeC, fun p hp => ?_, tracked ⟨oL, hoL, I.free⟩ hs, by simpa using I.len⟩ ⟨_, hs, .inl rfl⟩
    · exact (hs.2 b (Nat.ne_of_lt (Nat.lt_of_lt_of_le (Heap.lt_size e) I.ok.above))).trans (I.base.keep b o e n hb hx)
    · obtain ⟨sl, e1⟩ := I.base.slot b o e n hb hx
      exact ⟨sl, (hs.2 b (Nat.ne_of_lt (Nat.lt_of_lt_of_le (Heap.lt_size e) I.ok.above))).trans e1⟩
    · obtain ⟨o', e1⟩ := I.base.there b o e hx
      exact ⟨o', (hs.2 b (Nat.ne_of_lt (Nat.lt_of_lt_of_le (Heap.lt_size e) I.ok.above))).trans e1⟩
    · by_cases hj : j = i
      · subst hj
        rw [hi] at e1; cases e1
        rw [List.getElem?_set_self hiσ] at e2
        cases e2
        exact ⟨u, r, .inl ⟨hk, by simp⟩⟩
      · rw [List.getElem?_set_ne (Ne.symm hj)] at e2
        obtain ⟨u', r', q⟩ := hl j y v' e1 e2 e3
        refine ⟨u', r', ?_⟩
        rcases q with ⟨k, e⟩ | ⟨k, c, e, z⟩
        · refine .inl ⟨k, ?_⟩
          have : y ≠ x := fun e => hj (nodup_ix hN e1 (e ▸ hi))
          simp [this, e]
        · exact .inr ⟨k, c, e, z.sameBut hs (cne y c e)⟩
    · obtain ⟨w', z⟩ := I.cell y c e
      exact ⟨w', z.sameBut hs (cne y c e)⟩
    · obtain ⟨e, n, ne, nf, d⟩ := I.pin p hp
      exact ⟨(hs.2 p.1 ne).trans e, n, ne, nf, d⟩
  · have hfn : X.fn x = true := by
      rcases hf with z | z
      · exact z
      · rw [z] at hk; cases hk
    obtain ⟨c, hc⟩ := I.ok.has x (.inl hk)
    obtain ⟨w', z⟩ := I.cell x c hc
    refine wpAny_storeName_cell I.ok.kind hk hc z (fun h' hc' hs => ?_)
    obtain ⟨oc, hoc, hocd⟩ := id z
    refine h { s with heap := h' } ⟨I.ok, I.os, I.bare, ⟨fun b o e n hb hx => ?_, fun b o e n hb hx => ?_, I.base.free, fun b o e hx => ?_, I.base.tups, I.base.frzs, I.base.tbls⟩, ⟨m, hn.sameBut hs (Ne.symm (cne x c hc)), fun j y v' e1 e2 e3 => ?_⟩, fun y c' e => ?_, I.free, I.freeC, fun p hp => ?_, tracked ⟨oc, hoc, I.freeC x c hc⟩ hs, by simpa using I.len⟩ ⟨c, hs, .inr hc⟩
    · exact (hs.2 b (Nat.ne_of_lt (Nat.lt_of_lt_of_le (Heap.lt_size e) (I.ok.cab x c hfn hc)))).trans (I.base.keep b o e n hb hx)
    · obtain ⟨sl, e1⟩ := I.base.slot b o e n hb hx
      exact ⟨sl, (hs.2 b (Nat.ne_of_lt (Nat.lt_of_lt_of_le (Heap.lt_size e) (I.ok.cab x c hfn hc)))).trans e1⟩
    · obtain ⟨o', e1⟩ := I.base.there b o e hx
      exact ⟨o', (hs.2 b (Nat.ne_of_lt (Nat.lt_of_lt_of_le (Heap.lt_size e) (I.ok.cab x c hfn hc)))).trans e1⟩
    · by_cases hj : j = i
      · subst hj
        rw [hi] at e1; cases e1
        rw [List.getElem?_set_self hiσ] at e2
        cases e2
        exact ⟨u, r, .inr ⟨.inl hk, c, hc, hc'⟩⟩
      · rw [List.getElem?_set_ne (Ne.symm hj)] at e2
        obtain ⟨u', r', q⟩ := hl j y v' e1 e2 e3
        refine ⟨u', r', ?_⟩
        rcases q with q | ⟨k, c', e, z'⟩
        · exact .inl q
        · refine .inr ⟨k, c', e, z'.sameBut hs ?_⟩
          rintro rfl
          exact hj (nodup_ix hN e1 (I.ok.inj _ _ _ e hc ▸ hi))
    · by_cases hcc : c' = c
      · subst hcc; exact ⟨_, hc'⟩
      · obtain ⟨w2, z2⟩ := I.cell y c' e
        exact ⟨w2, z2.sameBut hs hcc⟩
    · obtain ⟨e, n, ne, nf, d⟩ := I.pin p hp
      refine ⟨(hs.2 p.1 ?_).trans e, n, ne, nf, d⟩
      intro q
      rw [q, hoc] at e
      have q' : oc = p.2 := Option.some.inj e
      exact d w' (by rw [← q']; exact hocd)
theorem store_ok {M : Model} {A : Around} {E : Value → Shared → Prop} {i : Nat} {x : Str} {v : V} {u : Value} {Q : Unit → Shared → Prop} (I : Inv X pins σ H s) (hN : X.N.Nodup) (hi : X.N[i]? = some x) (hx : Loc X.env.scope x) (r : RelV v u)
    (h : ∀ s', Inv X pins (σ.set i (some v)) H s' → Q () s') (hf : X.fn x = true ∨ X.env.scope.names.lookup x = some .local := by first | exact .inl rfl | exact .inr rfl | assumption) : wpAny M A (storeName X.env x u) Q E s :=
  store_ok2 I hN hi hx r (fun s' I' _ => h s' I') hf
/-- behind a call or a block, the state as it is -/
theorem Inv.call' {s' : Shared} {ch : List Addr} (I : Inv X pins σ H s) (ho : s'.os = s.os) (u : Un (frs X.stack) ch H H' s.heap s'.heap) (hok : HOk X.prog X.w H' s'.heap) (hg : AllBare s'.gens)
    (hch : ∀ b ∈ ch, (b ∈ X.ex ∨ X.s₀.heap.objs.size ≤ b) ∧ b ≠ X.env.locals ∧ (∀ x c, X.env.cells.lookup x = some c → c ≠ b) ∧ ∀ p ∈ X.pn ++ pins, p.1 ≠ b) : Inv X pins σ H' s' := by
  obtain ⟨h', g', d', t', o'⟩ := s'
  have e : o' = s.os := ho
  subst e
  exact I.call (g' := g') (t' := t') (d' := d') u hok hg hch
end

/-! ### the judgements -/
/-- an exception: its class, its own dict's address (where it has one), the abstract heap behind it -/
abbrev XK := Value → Option Addr → Hp → Prop
abbrev St := List (Option V)
abbrev VK := V → Hp → Prop
/-- an expression's reading; a test's; an argument list's -/
abbrev TE := St → Hp → VK → Prop
abbrev TT := St → Hp → (Bool → Hp → Prop) → Prop
abbrev TA := St → Hp → (List V → Hp → Prop) → Prop
/-- what is wanted behind a statement -/
structure Ends where
  nx : St → Hp → Prop
  rt : VK
  bk : St → Hp → Prop := fun _ _ => False
  ct : St → Hp → Prop := fun _ _ => False
abbrev TS := Ends → St → Hp → Prop

def EP (X : Cx) (pins : List (Addr × Obj)) (σ : St) (Q : VK) (u : Value) (s' : Shared) : Prop := ∃ v H', Inv X pins σ H' s' ∧ RelV v u ∧ Q v H'
def TP (X : Cx) (pins : List (Addr × Obj)) (σ : St) (Q : Bool → Hp → Prop) (b : Bool) (s' : Shared) : Prop := ∃ H', Inv X pins σ H' s' ∧ Q b H'
def AP (X : Cx) (pins : List (Addr × Obj)) (σ : St) (Q : List V → Hp → Prop) (us : List Value) (s' : Shared) : Prop := ∃ vs H', Inv X pins σ H' s' ∧ Vals vs us ∧ Q vs H'
def SP (X : Cx) (pins : List (Addr × Obj)) (D : Ends) (f : Flow) (s' : Shared) : Prop :=
  match f with
  | .next => ∃ σ' H', Inv X pins σ' H' s' ∧ D.nx σ' H'
  | .brk => ∃ σ' H', Inv X pins σ' H' s' ∧ D.bk σ' H'
  | .cont => ∃ σ' H', Inv X pins σ' H' s' ∧ D.ct σ' H'
  | .ret u => ∃ v σ' H', Inv X pins σ' H' s' ∧ RelV v u ∧ D.rt v H'

def PE (X : Cx) (e : Expr) (t : TE) : Prop :=
  ∀ (pins : List (Addr × Obj)) (s : Shared) (σ : St) (H : Hp) (Q : VK), Inv X pins σ H s → t σ H Q → wpAny (model X.prog X.w) X.A (eval e X.env) (EP X pins σ Q) X.xe s
def PT (X : Cx) (e : Expr) (t : TT) : Prop :=
  ∀ (pins : List (Addr × Obj)) (s : Shared) (σ : St) (H : Hp) (Q : Bool → Hp → Prop), Inv X pins σ H s → t σ H Q → wpAny (model X.prog X.w) X.A (isTrue e X.env (eval e X.env)) (TP X pins σ Q) X.xe s
/-- a test whatever its 'whole' is (and, or) -/
def PW (X : Cx) (e : Expr) (t : TT) : Prop :=
  ∀ (whole : Sem Value) (pins : List (Addr × Obj)) (s : Shared) (σ : St) (H : Hp) (Q : Bool → Hp → Prop), Inv X pins σ H s → t σ H Q → wpAny (model X.prog X.w) X.A (isTrue e X.env whole) (TP X pins σ Q) X.xe s
theorem PW.pt {X : Cx} {e : Expr} {t : TT} (h : PW X e t) : PT X e t := h _
/-- an argument list (no star), from the left -/
def PA (X : Cx) (es : List Expr) (t : TA) : Prop :=
  ∀ (pos : Pos) (pins : List (Addr × Obj)) (s : Shared) (σ : St) (H : Hp) (Q : List V → Hp → Prop), Inv X pins σ H s → t σ H Q → wpAny (model X.prog X.w) X.A (spliced (backTo pos (starEach es X.env))) (AP X pins σ Q) X.xe s
def PS (X : Cx) (st : Stmt) (t : TS) : Prop :=
  ∀ (pins : List (Addr × Obj)) (s : Shared) (σ : St) (H : Hp) (D : Ends), Inv X pins σ H s → t D σ H → wpAny (model X.prog X.w) X.A (exec st X.env) (SP X pins D) X.xe s
def PSs (X : Cx) (st : List Stmt) (t : TS) : Prop :=
  ∀ (pins : List (Addr × Obj)) (s : Shared) (σ : St) (H : Hp) (D : Ends), Inv X pins σ H s → t D σ H → wpAny (model X.prog X.w) X.A (execs st X.env) (SP X pins D) X.xe s
/-- weaken the end -/
theorem thn {α : Type} {t : Sem α} {Q Q' : α → Shared → Prop} {M : Model} {A : Around} {E : Value → Shared → Prop} {s : Shared} (h : wpAny M A t Q E s) (hQ : ∀ a s, Q a s → Q' a s) : wpAny M A t Q' E s := wpAny_mono h hQ fun _ _ x => x
end L2

namespace L2
open PySem PySem.Spec PyProof.Rows
section
variable {X : Cx}


/-! ### names and constants -/
def tVar (i : Nat) : TE := fun σ H Q => ∃ v, σ[i]? = some (some v) ∧ Q v H
def tC (v : V) : TE := fun _ H Q => Q v H
theorem pe_var {i : Nat} {x : Str} {pos : Pos} (hN : X.N[i]? = some x) (hv : Vis X.env.scope x) (hd : (x == ("__debug__" : Str)) = false := by decide) (hcd : (x == ("__classdict__" : Str)) = false := by decide) : PE X (.Name x pos) (tVar i) := by
  intro pins s σ H Q I h
  obtain ⟨v, e, h⟩ := h
  obtain ⟨m, hn, hl⟩ := I.loc
  obtain ⟨u, r, l⟩ := hl i x v hN e hv
  have fin : EP X pins σ Q u s := ⟨v, H, I, r, h⟩
  rcases l with ⟨hk, hm⟩ | ⟨hk, c, hc, hcell⟩
  · exact wpAny_Name (wpAny_loadName_local I.ok.kind hk hn hm fin) hd
  · rcases hk with hk | hk
    · exact wpAny_Name (wpAny_loadName_cell I.ok.kind hk hc hcell fin) hd
    · exact wpAny_Name (wpAny_loadName_free I.ok.kind hk hc hcell fin hcd) hd
theorem pe_int {i j pos} : PE X (.Constant (.int i) j pos) (tC (.int i)) := fun _ _ _ H _ I h => wpAny_Constant_int ⟨.int i, H, I.tok _, ⟨_, rfl⟩, h⟩
theorem pe_bl {b j pos} : PE X (.Constant (.bool b) j pos) (tC (.bl b)) := fun _ _ _ H _ I h => Constant_bool ⟨.bl b, H, I, rfl, h⟩

/-- a global name of the def -/
def Gl (X : Cx) (x : Str) : Prop := X.env.kindOf x = some .globalImplicit
theorem ld_glob {E : Value → Shared → Prop} {pins : List (Addr × Obj)} {s : Shared} {σ : St} {H : Hp} {x : Str} {u : Value} {pos : Pos} {Q : Value → Shared → Prop} (I : Inv X pins σ H s) (hg : Gl X x) (hm : X.mg x = some u) (h : Q u s)
    (hd : (x == ("__debug__" : Str)) = false := by decide) : wpAny (model X.prog X.w) X.A (eval (.Name x pos) X.env) Q E s :=
  Calls.Name_function_global I.ok.kind hg (Calls.loadGlobal_global (by rw [I.ok.glob]; exact I.mod.glob.keeps I.bk) hm h) hd
theorem ld_blt {E : Value → Shared → Prop} {pins : List (Addr × Obj)} {s : Shared} {σ : St} {H : Hp} {x : Str} {u : Value} {pos : Pos} {Q : Value → Shared → Prop} (I : Inv X pins σ H s) (hg : Gl X x) (hm : X.mg x = none) (hv : bootBuiltins x = some u) (h : Q u s)
    (hn : x ≠ "__name__" := by decide) (hd : (x == ("__debug__" : Str)) = false := by decide) : wpAny (model X.prog X.w) X.A (eval (.Name x pos) X.env) Q E s := by
  obtain ⟨mb, h1, h2⟩ := I.mod.blt
  exact Calls.Name_function_global I.ok.kind hg (Calls.loadGlobal_builtin (by rw [I.ok.glob]; exact I.mod.glob.keeps I.bk) hm (by rw [I.ok.blt]; exact h1.keeps I.bk) ((h2 x hn).trans hv) h) hd
theorem pe_bltn {x : Str} {v : V} {u : Value} {pos : Pos} (hg : Gl X x) (hm : X.mg x = none) (hv : bootBuiltins x = some u) (r : RelV v u) (hn : x ≠ "__name__" := by decide) (hd : (x == ("__debug__" : Str)) = false := by decide) : PE X (.Name x pos) (tC v) :=
  fun _ _ _ H _ I h => ld_blt I hg hm hv ⟨v, H, I, r, h⟩ hn hd

/-! ### arithmetic -/
variable {a b : Expr} {ta tb : TE} {pos : Pos}

/-! ### comparisons -/
/-- a comparison as a value, as a test -/
def tB (t : TE) : TT := fun σ H Q => t σ H fun x H1 => ∃ c, x = .bl c ∧ Q c H1
/-- an expression whose value is a bool, as a test -/
theorem pt_val {e : Expr} {t : TE} (h : PE X e t) (he : ∀ whole, isTrue e X.env whole = (do let v ← whole; standAt e.pos; holding [v] (truthy v)) := by intro _; rfl) : PT X e (tB t) := by
  intro pins s σ H Q I hw
  refine isTrue_plain (thn (h pins s σ H _ I hw) fun v s1 ⟨x, H1, I1, r1, q1⟩ => ?_) (he _)
  obtain ⟨d, rfl, q⟩ := q1
  cases r1
  exact wpAny_truthy_bool ⟨H1, I1, q⟩

/-! ### and, or, not -/
variable {tA tB' : TT} {rest : List Expr}
def tAnd (t u : TT) : TT := fun σ H Q => t σ H fun c H1 => if c = true then u σ H1 Q else Q false H1
def tOr (t u : TT) : TT := fun σ H Q => t σ H fun c H1 => if c = true then Q true H1 else u σ H1 Q
def tNot (t : TT) : TT := fun σ H Q => t σ H fun c H1 => Q (!c) H1
theorem pw_and1 (ha : PT X a tA) : PW X (.BoolOp .And [a] pos) tA := by
  intro wh pins s σ H Q I h
  refine isTrue_and (thn (ha pins s σ H Q I h) fun c s1 e => ?_)
  cases c with
  | true => exact isTrue_and_nil e
  | false => exact e
theorem pw_or1 (ha : PT X a tA) : PW X (.BoolOp .Or [a] pos) tA := by
  intro wh pins s σ H Q I h
  refine isTrue_or (thn (ha pins s σ H Q I h) fun c s1 e => ?_)
  cases c with
  | false => exact isTrue_or_nil e
  | true => exact e
theorem pw_and (ha : PT X a tA) (hb : PW X (.BoolOp .And (b :: rest) pos) tB') : PW X (.BoolOp .And (a :: b :: rest) pos) (tAnd tA tB') := by
  intro wh pins s σ H Q I h
  refine isTrue_and (thn (ha pins s σ H _ I h) fun c s1 ⟨H1, I1, q1⟩ => ?_)
  cases c with
  | true => exact hb wh pins s1 σ H1 Q I1 q1
  | false => exact ⟨H1, I1, q1⟩
theorem pw_or (ha : PT X a tA) (hb : PW X (.BoolOp .Or (b :: rest) pos) tB') : PW X (.BoolOp .Or (a :: b :: rest) pos) (tOr tA tB') := by
  intro wh pins s σ H Q I h
  refine isTrue_or (thn (ha pins s σ H _ I h) fun c s1 ⟨H1, I1, q1⟩ => ?_)
  cases c with
  | true => exact ⟨H1, I1, q1⟩
  | false => exact hb wh pins s1 σ H1 Q I1 q1
theorem pt_not (ha : PT X a tA) : PT X (.UnaryOp .Not a pos) (tNot tA) := by
  intro pins s σ H Q I h
  exact isTrue_not (ha pins s σ H (fun c H1 => Q (!c) H1) I h)
/-- .. as values (bools) -/
def tAndV (ta tb : TE) : TE := fun σ H Q => ta σ H fun x H1 => ∃ c, x = .bl c ∧ if c = true then tb σ H1 Q else Q (.bl false) H1
def tNotV (ta : TE) : TE := fun σ H Q => ta σ H fun x H1 => ∃ c, x = .bl c ∧ Q (.bl (!c)) H1
theorem pe_one {op} {t : TE} (h : PE X a t) : PE X (.BoolOp op [a] pos) t := fun pins s σ H Q I hw => BoolOp_one (h pins s σ H Q I hw)
theorem pe_and (ha : PE X a ta) (hb : PE X (.BoolOp .And (b :: rest) pos) tb) : PE X (.BoolOp .And (a :: b :: rest) pos) (tAndV ta tb) := by
  intro pins s σ H Q I h
  refine BoolOp_and (thn (ha pins s σ H _ I h) fun v s1 ⟨x, H1, I1, r1, q1⟩ => ?_)
  obtain ⟨c, rfl, q1⟩ := q1
  cases r1
  refine wpAny_truthy_bool ?_
  cases c with
  | true => exact hb pins s1 σ H1 Q I1 q1
  | false => exact ⟨.bl false, H1, I1, rfl, q1⟩
theorem pe_not (ha : PE X a ta) : PE X (.UnaryOp .Not a pos) (tNotV ta) := by
  intro pins s σ H Q I h
  refine UnaryOp_ (thn (ha pins s σ H _ I h) fun v s1 ⟨x, H1, I1, r1, q1⟩ => ?_)
  obtain ⟨c, rfl, q1⟩ := q1
  cases r1
  exact not_of (wpAny_truthy_bool ⟨.bl (!c), H1, I1, rfl, q1⟩)
end
end L2

namespace L2
open PySem PySem.Spec PyProof.Rows

/-! ### a list, a tuple that is read: tracked, frozen, or an object of the module -/
def SqL (K : PySem.W.Frag) (H : Hp) (a : Addr) (xs : List V) : Prop :=
  Rd H a (.lst xs) ∨
    ∃ (o : Obj) (its : Array Value) (n : Nat), K.lookup a = some o ∧ o.cls = .type "list" ∧ o.dict = none ∧ o.data = .seq its n ∧ its.size ≤ sizeLine ∧ Vals xs its.toList
def SqT (K : PySem.W.Frag) (H : Hp) (a : Addr) (xs : List V) : Prop :=
  Rd H a (.tup xs) ∨
    ∃ (o : Obj) (its : Array Value) (n : Nat), K.lookup a = some o ∧ o.cls = .type "tuple" ∧ o.data = .seq its n ∧ its.size ≤ sizeLine ∧ Vals xs its.toList
def absV : Value → Option V
  | .none => some .non
  | .bool b => some (.bl b)
  | .int i _ => some (.int i)
  | .str x _ => some (.str x)
  | .bytes b _ => some (.byt b)
  | .float b _ => some (.flt b)
  | .ref a => some (.ref a)
  | .type n => some (.ty n)
  | _ => none
theorem RelV.abs {x : V} {u : Value} (r : RelV x u) : absV u = some x := by
  cases x with
  | non => cases r; rfl
  | bl _ => cases r; rfl
  | int _ => obtain ⟨t, rfl⟩ := r; rfl
  | str _ => obtain ⟨t, rfl⟩ := r; rfl
  | byt _ => obtain ⟨t, rfl⟩ := r; rfl
  | flt _ => obtain ⟨t, rfl⟩ := r; rfl
  | ref _ => cases r; rfl
  | ty _ => cases r; rfl
theorem RelV.inj {x y : V} {u : Value} (r : RelV x u) (q : RelV y u) : x = y := Option.some.inj (r.abs.symm.trans q.abs)
theorem Vals.inj : ∀ {xs ys : List V} {us : List Value}, Vals xs us → Vals ys us → xs = ys
  | _, _, _, .nil, .nil => rfl
  | _, _, _, .cons r t, .cons r' t' => by rw [r.inj r', Vals.inj t t']
section
variable {X : Cx} {pins : List (Addr × Obj)} {σ : St} {H : Hp} {s : Shared} {a : Addr} {xs ys : List V}
theorem SqL.of {K : PySem.W.Frag} (h : H a = some (.lst xs)) : SqL K H a xs := .inl (.inl h)
theorem SqT.of {K : PySem.W.Frag} (h : H a = some (.tup xs)) : SqT K H a xs := .inl (.inl h)
theorem Inv.list (I : Inv X pins σ H s) (h : SqL X.K H a xs) : ∃ its : List Value, Vals xs its ∧ PlainL s.heap a its.toArray ∧ xs.length ≤ sizeLine := by
  rcases h with h | ⟨o, its, n, hk, hc, hd, hs, hz, r⟩
  · obtain ⟨z, its, n, r, e⟩ := h.ok I.hok
    exact ⟨its, r, ⟨_, n, e, rfl, rfl, rfl⟩, z⟩
  · refine ⟨its.toList, r, ⟨o, n, I.kIn a o hk, hc, hd, by simpa using hs⟩, ?_⟩
    have e := r.length
    simp only [Array.length_toList] at e
    omega
theorem Inv.tuple (I : Inv X pins σ H s) (h : SqT X.K H a xs) : ∃ its : List Value, Vals xs its ∧ IsTup s.heap a its.toArray ∧ xs.length ≤ sizeLine := by
  rcases h with h | ⟨o, its, n, hk, hc, hs, hz, r⟩
  · obtain ⟨z, its, r, p⟩ := h.ok I.hok
    exact ⟨its, r, p, z⟩
  · refine ⟨its.toList, r, ⟨o, I.kIn a o hk, hc, n, by simpa using hs⟩, ?_⟩
    have e := r.length
    simp only [Array.length_toList] at e
    omega
theorem Inv.tuple_inj (I : Inv X pins σ H s) (h : SqT X.K H a xs) (h' : SqT X.K H a ys) : xs = ys := by
  obtain ⟨its, r, ⟨o, e, _, n, d⟩, _⟩ := I.tuple h
  obtain ⟨its', r', ⟨o', e', _, n', d'⟩, _⟩ := I.tuple h'
  rw [e] at e'; cases e'
  rw [d] at d'
  injection d' with d1 _
  have : its = its' := by simpa using congrArg Array.toList d1
  subst this
  exact r.inj r'
end

/-! ### another wish about exceptions -/
abbrev Cx.wish (X : Cx) (E : Value → Shared → Prop) : Cx := { X with xe := E }
/-- no exception leaves -/
abbrev Cx.nox (X : Cx) : Cx := X.wish fun _ _ => False
theorem Cx.Ok.wish {X : Cx} (ok : X.Ok) (E : Value → Shared → Prop) : (X.wish E).Ok :=
  ⟨ok.mod, ok.kind, ok.glob, ok.blt, ok.above, ok.inj, ok.has, ok.cab, ok.hd, ok.frames, ok.stk, ok.exf, ok.bs, ok.bsz, ok.noex, ok.exfs, ok.funs, ok.frf⟩
theorem Cx.Ok.unwish {X : Cx} {E : Value → Shared → Prop} (ok : (X.wish E).Ok) : X.Ok :=
  ⟨ok.mod, ok.kind, ok.glob, ok.blt, ok.above, ok.inj, ok.has, ok.cab, ok.hd, ok.frames, ok.stk, ok.exf, ok.bs, ok.bsz, ok.noex, ok.exfs, ok.funs, ok.frf⟩
section
variable {X : Cx} {pins : List (Addr × Obj)} {σ : St} {H : Hp} {s : Shared} {E : Value → Shared → Prop}
theorem Inv.wish (I : Inv X pins σ H s) (E : Value → Shared → Prop) : Inv (X.wish E) pins σ H s := ⟨I.ok.wish E, I.os, I.bare, I.base, I.loc, I.cell, I.free, I.freeC, I.pin, I.hok, I.len⟩
theorem Inv.unwish (I : Inv (X.wish E) pins σ H s) : Inv X pins σ H s := ⟨I.ok.unwish, I.os, I.bare, I.base, I.loc, I.cell, I.free, I.freeC, I.pin, I.hok, I.len⟩
theorem SP.unwish {D : Ends} {f : Flow} {s' : Shared} (h : SP (X.wish E) pins D f s') : SP X pins D f s' := by
  cases f with
  | next => obtain ⟨σ', H', I, q⟩ := h; exact ⟨σ', H', I.unwish, q⟩
  | brk => obtain ⟨σ', H', I, q⟩ := h; exact ⟨σ', H', I.unwish, q⟩
  | cont => obtain ⟨σ', H', I, q⟩ := h; exact ⟨σ', H', I.unwish, q⟩
  | ret u => obtain ⟨v, σ', H', I, r, q⟩ := h; exact ⟨v, σ', H', I.unwish, r, q⟩
theorem PSs.nox {st : List Stmt} {t : TS} (h : PSs X.nox st t) : PSs X st t := fun pins s σ H D I hw =>
  wpAny_mono (h pins s σ H D (I.wish _) hw) (fun _ _ q => q.unwish) fun _ _ z => False.elim z
end

/-! ### blocks and small statements -/
section
variable {X : Cx} {st : Stmt} {rest : List Stmt} {t u : TS} {e : Expr} {te : TE} {pos : Pos}
def tNext : TS := fun D σ H => D.nx σ H
def tSeq (t u : TS) : TS := fun D σ H => t { D with nx := u D } σ H
theorem pss_nil : PSs X [] tNext := fun _ _ σ H _ I h => wpAny_execs_nil ⟨σ, H, I, h⟩
theorem pss_cons (h1 : PS X st t) (h2 : PSs X rest u) : PSs X (st :: rest) (tSeq t u) := by
  intro pins s σ H D I h
  refine wpAny_execs_cons (thn (h1 pins s σ H { D with nx := u D } I h) fun f s1 q => ?_)
  cases f with
  | next =>
    obtain ⟨σ', H', I', q⟩ := q
    exact h2 pins s1 σ' H' D I' q
  | ret v => exact q
  | brk => exact q
  | cont => exact q
theorem pss_one (h1 : PS X st t) : PSs X [st] t := by
  intro pins s σ H D I h
  refine wpAny_execs_cons (thn (h1 pins s σ H D I h) fun f s1 q => ?_)
  cases f with
  | next => exact wpAny_execs_nil q
  | ret v => exact q
  | brk => exact q
  | cont => exact q
/-- in a def's body nothing is shown -/
theorem Inv.quiet {pins : List (Addr × Obj)} {σ : St} {H : Hp} {s : Shared} (I : Inv X pins σ H s) : interactive X.env = false := by simp [interactive, I.ok.kind]
/-- an expression whose value is dropped -/
def tDrop (te : TE) : TS := fun D σ H => te σ H fun _ H1 => D.nx σ H1
theorem ps_expr (he : PE X e te) (hs : swapsWith e none pos.line X.env = pure false := by rfl) : PS X (.Expr e pos) (tDrop te) := by
  intro pins s σ H D I h
  exact wpAny_Expr_any (thn (he pins s σ H _ I h) fun v s1 ⟨x, H1, I1, r1, q1⟩ => ⟨σ, H1, I1, q1⟩) I.quiet hs
def tRet (te : TE) : TS := fun D σ H => te σ H D.rt
theorem ps_ret (he : PE X e te) : PS X (.Return (some e) pos) (tRet te) := by
  intro pins s σ H D I h
  exact wpAny_Return_some (thn (he pins s σ H _ I h) fun v s1 ⟨x, H1, I1, r1, q1⟩ => ⟨x, σ, H1, I1, r1, q1⟩)
def tIfS (c : TT) (t u : TS) : TS := fun D σ H => c σ H fun b H1 => if b = true then t D σ H1 else u D σ H1
theorem ps_if {c : Expr} {a b : List Stmt} {tc : TT} (hc : PT X c tc) (ha : PSs X a t) (hb : PSs X b u) : PS X (.If c a b pos) (tIfS tc t u) := by
  intro pins s σ H D I h
  refine wpAny_If (thn (hc pins s σ H _ I h) fun d s1 ⟨H1, I1, q1⟩ => ?_)
  cases d with
  | true => exact ha pins s1 σ H1 D I1 q1
  | false => exact hb pins s1 σ H1 D I1 q1
/-- code that the proof never comes to -/
def tNever : TS := fun _ _ _ => False
theorem ps_never : PS X st tNever := fun _ _ _ _ _ _ h => h.elim
theorem pss_never {sts : List Stmt} : PSs X sts tNever := fun _ _ _ _ _ _ h => h.elim
end

/-! ### targets -/
abbrev TG := V → St → Hp → (St → Hp → Prop) → Prop
def PG (X : Cx) (target : Expr) (t : TG) : Prop :=
  ∀ (pins : List (Addr × Obj)) (s : Shared) (σ : St) (H : Hp) (v : V) (u : Value) (Q : St → Hp → Prop), Inv X pins σ H s → RelV v u → t v σ H Q →
    wpAny (model X.prog X.w) X.A (assign target X.env u) (fun _ s' => ∃ σ' H', Inv X pins σ' H' s' ∧ Q σ' H') X.xe s
/-- o[i] = v, by values -/
abbrev TSet := V → V → V → Hp → (Hp → Prop) → Prop
def PSet (X : Cx) (t : TSet) : Prop :=
  ∀ (pins : List (Addr × Obj)) (s : Shared) (σ : St) (H : Hp) (o i v : V) (ov iv u : Value) (Q : Hp → Prop), Inv X pins σ H s → RelV o ov → RelV i iv → RelV v u → t o i v H Q →
    wpAny (model X.prog X.w) X.A (setItem ov iv u) (fun _ s' => ∃ H', Inv X pins σ H' s' ∧ Q H') X.xe s
/-- a op= b, by values -/
abbrev TIp := V → V → Hp → VK → Prop
def PIp (X : Cx) (op : Operator) (t : TIp) : Prop :=
  ∀ (pins : List (Addr × Obj)) (s : Shared) (σ : St) (H : Hp) (x y : V) (v u : Value) (Q : VK), Inv X pins σ H s → RelV x v → RelV y u → t x y H Q →
    wpAny (model X.prog X.w) X.A (inplaceOp op v u) (EP X pins σ Q) X.xe s
section
variable {X : Cx} {pos : Pos}
def gName (i : Nat) : TG := fun v σ H Q => Q (σ.set i (some v)) H
theorem pg_name {i : Nat} {x : Str} (hN : X.N.Nodup) (hi : X.N[i]? = some x) (hx : Loc X.env.scope x) (hf : X.fn x = true ∨ X.env.scope.names.lookup x = some .local := by first | exact .inl rfl | exact .inr rfl | assumption) : PG X (.Name x pos) (gName i) := by
  intro pins s σ H v u Q I r h
  exact wpAny_assign_Name (store_ok I hN hi hx r (fun s' I' => ⟨_, H, I', h⟩) hf)
/-- o[i] = .. -/
def gSub (to ti : TE) (t : TSet) : TG := fun v σ H Q => to σ H fun o H1 => ti σ H1 fun i H2 => t o i v H2 fun H3 => Q σ H3
theorem pg_sub {o i : Expr} {to ti : TE} {t : TSet} (ho : PE X o to) (hi : PE X i ti) (hs : PSet X t)
    (ha : ∀ v, assign (.Subscript o i pos) X.env v = (do
      let ov ← holding [v] (eval o X.env)
      let iv ← holding [v, ov] (eval i X.env)
      standAt pos
      holding [v, ov, iv] (setItem ov iv v)
      release [v, ov, iv] []) := by intro _; rfl) : PG X (.Subscript o i pos) (gSub to ti t) := by
  intro pins s σ H v u Q I r h
  rw [ha]
  refine wpAny_bind (wpAny_holding (thn (ho pins s σ H _ I h) fun ov s1 ⟨x, H1, I1, r1, q1⟩ => ?_))
  refine wpAny_bind (wpAny_holding (thn (hi pins s1 σ H1 _ I1 q1) fun iv s2 ⟨y, H2, I2, r2, q2⟩ => ?_))
  refine wpAny_bind (wpAny_standAt (wpAny_bind (wpAny_holding (thn (hs pins s2 σ H2 x y v ov iv u _ I2 r1 r2 r q2) fun _ s3 ⟨H3, I3, q3⟩ => ?_))))
  exact wpAny_release ⟨σ, H3, I3, q3⟩
/-- target = value -/
def tAsg (te : TE) (g : TG) : TS := fun D σ H => te σ H fun x H1 => g x σ H1 D.nx
theorem ps_asg {tg e : Expr} {te : TE} {g : TG} (he : PE X e te) (hg : PG X tg g) (hs : swapsWithSole [tg] e pos.line X.env = pure false := by rfl) (hw : swappedStores [tg] e X.env = pure none := by rfl)
    (h1 : (assignEach [tg] X.env).map (·.2) = [assign tg X.env] := by rfl) : PS X (.Assign [tg] e pos) (tAsg te g) := by
  intro pins s σ H D I h
  refine wpAny_Assign_stores (thn (he pins s σ H _ I h) fun v s1 ⟨x, H1, I1, r1, q1⟩ => ?_) hs hw
  rw [h1]
  exact thn (hg pins s1 σ H1 x v _ I1 r1 q1) fun _ s2 q => q
/-- name = value -/
theorem ps_set {i : Nat} {x : Str} {e : Expr} {te : TE} {pos' : Pos} (hN : X.N.Nodup) (hi : X.N[i]? = some x) (hx : Loc X.env.scope x) (he : PE X e te) (hs : swapsWith e (some (.Name x pos')) pos.line X.env = pure false := by rfl) (hf : X.fn x = true ∨ X.env.scope.names.lookup x = some .local := by first | exact .inl rfl | exact .inr rfl | assumption) :
    PS X (.Assign [.Name x pos'] e pos) (tAsg te (gName i)) := by
  intro pins s σ H D I h
  refine wpAny_Assign_Name (thn (he pins s σ H _ I h) fun v s1 ⟨y, H1, I1, r1, q1⟩ => ?_) hs
  exact store_ok I1 hN hi hx r1 (fun s2 I2 => ⟨_, H1, I2, q1⟩) hf
/-- a, b = x, y with plain local names: stored from the right; the pair itself is not tracked (the opening rows as in PyProof/Rows/TupAssign.lean:23) -/
def tPar (i j : Nat) (ta : TA) : TS := fun D σ H => ta σ H fun vs H1 => ∃ v w, vs = [v, w] ∧ D.nx ((σ.set i (some v)).set j (some w)) H1
theorem ps_par {i j : Nat} {x y : Str} {a b : Expr} {ta : TA} {px py pt : Pos} {kt k2 pt2} (hc : X.calm = true) (hN : X.N.Nodup) (hi : X.N[i]? = some x) (hj : X.N[j]? = some y) (hij : i ≠ j)
    (hx : X.env.scope.names.lookup x = some .local) (hy : X.env.scope.names.lookup y = some .local) (ha : PA X [a, b] ta)
    (hw : swappedStores [.Tuple [.Name x px, .Name y py] kt pt] (.Tuple [a, b] k2 pt2) X.env = pure (some [x, y]))
    (hs : swapsWithSole [.Tuple [.Name x px, .Name y py] kt pt] (.Tuple [a, b] k2 pt2) pos.line X.env = pure false := by rfl) :
    PS X (.Assign [.Tuple [.Name x px, .Name y py] kt pt] (.Tuple [a, b] k2 pt2) pos) (tPar i j ta) := by
  intro pins s σ H D I h
  rw [exec_Assign_arm]
  refine wpAny_bind (wpAny_standAt ?_)
  rw [hs]
  refine wpAny_bind (wpAny_pure ?_)
  rw [if_neg (by decide)]
  refine wpAny_bind (Tuple_ (thn (ha _ pins s σ H _ I h) fun us s1 ⟨vs, H1, I1, r1, q1⟩ => ?_))
  obtain ⟨v, w, e1, q1⟩ := q1
  subst e1
  obtain ⟨u1, u2, rfl, rv, rw'⟩ : ∃ u1 u2, us = [u1, u2] ∧ RelV v u1 ∧ RelV w u2 := by
    cases r1 with
    | cons p q =>
      cases q with
      | cons p' q' =>
        cases q'
        exact ⟨_, _, rfl, p, p'⟩
  refine wpAny_newObj_type ?_ (by show 2 ≤ sizeLine; decide)
  have I2 : Inv X pins σ H1 { s1 with heap := s1.heap.push { cls := .type "tuple", data := .seq [u1, u2].toArray } } := I1.kept (t' := s1.toks) fun b o e => Heap.get?_push_of_some _ e
  rw [hw]
  refine wpAny_bind (wpAny_pure ?_)
  show wpAny (model X.prog X.w) X.A (do rule "assign.swapped-stores"; let items ← unpackItems (.ref s1.heap.objs.size) 2 none; assignInOrder [fun v => bindName X.env y v, fun v => bindName X.env x v] items.reverse; pure Flow.next) _ _ _
  refine wpAny_bind (wpAny_rule (wpAny_bind (unpackItems_tuple (items := #[u1, u2]) (I.ok.hd hc) (IsTup.new s1.heap _) fun h' hx' => ?_)))
  have I3 := I2.kept (h' := h') (t' := s1.toks) fun b o e => hx' b o (Nat.ne_of_lt (Heap.lt_size e)) e
  show wpAny _ _ (assignInOrder [fun v => bindName X.env y v, fun v => bindName X.env x v] [u2, u1] >>= fun _ => pure Flow.next) _ _ _
  refine wpAny_bind (assignInOrder_cons (wpAny_bindName (store_ok I3 hN hj (.inl hy) rw' (fun s2 I4 => ?_) (.inr hy))))
  refine assignInOrder_cons (wpAny_bindName (store_ok I4 hN hi (.inl hx) rv (fun s3 I5 => assignInOrder_nil (wpAny_pure ?_)) (.inr hx)))
  rw [List.set_comm _ _ (Ne.symm hij)] at I5
  exact ⟨_, H1, I5, q1⟩
/-- o[i] op= e -/
def tAugS (to ti te : TE) (tget : V → V → Hp → VK → Prop) (tip : TIp) (tset : TSet) : TS := fun D σ H => to σ H fun o H1 => ti σ H1 fun i H2 => tget o i H2 fun x H3 => te σ H3 fun y H4 => tip x y H4 fun z H5 => tset o i z H5 fun H6 => D.nx σ H6
/-- o[i], by values -/
def PGet (X : Cx) (t : V → V → Hp → VK → Prop) : Prop :=
  ∀ (pins : List (Addr × Obj)) (s : Shared) (σ : St) (H : Hp) (o i : V) (ov iv : Value) (Q : VK), Inv X pins σ H s → RelV o ov → RelV i iv → t o i H Q →
    wpAny (model X.prog X.w) X.A (getItem ov iv) (EP X pins σ Q) X.xe s
theorem ps_augS {o i e : Expr} {to ti te : TE} {tget : V → V → Hp → VK → Prop} {tip : TIp} {tset : TSet} {op : Operator} {tpos : Pos} (ho : PE X o to) (hi : PE X i ti) (hg : PGet X tget) (he : PE X e te) (hp : PIp X op tip) (hs : PSet X tset)
    (ha : ∀ ov iv new, augStore i ov iv new = (do holding [new, ov, iv] (setItem ov iv new); release [new, ov, iv] []; pure .next) := by intros; rfl) : PS X (.AugAssign (.Subscript o i tpos) op e pos) (tAugS to ti te tget tip tset) := by
  intro pins s σ H D I h
  refine wpAny_AugAssign_SubscriptAny (thn (ho pins s σ H _ I h) fun ov s1 ⟨x1, H1, I1, r1, q1⟩ => ?_) ha
  refine thn (hi pins s1 σ H1 _ I1 q1) fun iv s2 ⟨x2, H2, I2, r2, q2⟩ => ?_
  refine thn (hg pins s2 σ H2 x1 x2 ov iv _ I2 r1 r2 q2) fun old s3 ⟨x3, H3, I3, r3, q3⟩ => ?_
  refine thn (he pins s3 σ H3 _ I3 q3) fun v s4 ⟨x4, H4, I4, r4, q4⟩ => ?_
  refine thn (hp pins s4 σ H4 x3 x4 old v _ I4 r3 r4 q4) fun new s5 ⟨x5, H5, I5, r5, q5⟩ => ?_
  exact thn (hs pins s5 σ H5 x1 x2 x5 ov iv new _ I5 r1 r2 r5 q5) fun _ s6 ⟨H6, I6, q6⟩ => ⟨σ, H6, I6, q6⟩
/-- ints -/
def ipI (f : Int → Int → Int) : TIp := fun x y H Q => ∃ i j, x = .int i ∧ y = .int j ∧ Q (.int (f i j)) H
theorem ip_add : PIp X .Add (ipI fun i j => i + j) := by
  intro pins s σ H x y v u Q I r1 r2 h
  obtain ⟨i, j, e1, e2, q⟩ := h
  subst e1; subst e2
  obtain ⟨t, rfl⟩ := r1
  obtain ⟨t', rfl⟩ := r2
  exact iadd_int ⟨.int _, H, I.tok _, ⟨_, rfl⟩, q⟩
theorem ip_sub : PIp X .Sub (ipI fun i j => i - j) := by
  intro pins s σ H x y v u Q I r1 r2 h
  obtain ⟨i, j, e1, e2, q⟩ := h
  subst e1; subst e2
  obtain ⟨t, rfl⟩ := r1
  obtain ⟨t', rfl⟩ := r2
  exact isub_int ⟨.int _, H, I.tok _, ⟨_, rfl⟩, q⟩
end

/-! ### while -/
section
variable {X : Cx} {pos : Pos}
/-- the invariant W with its measure -/
def tWhile (c : TT) (tb : TS) : TS := fun D σ H => ∃ W : Nat → St → Hp → Prop, (∃ m, W m σ H) ∧ ∀ m σ H, W m σ H →
  c σ H fun b H1 => if b = true then ∃ N : St → Hp → Prop, (∀ σ' H', N σ' H' → ∃ m', m' < m ∧ W m' σ' H') ∧ tb { D with nx := N, ct := N, bk := D.nx } σ H1 else D.nx σ H1
theorem ps_while {c : Expr} {body : List Stmt} {tc : TT} {tb : TS} (hp : PassesOwn (model X.prog X.w) X.A X.env X.xe) (hc : PT X c tc) (hb : PSs X body tb) : PS X (.While c body [] pos) (tWhile tc tb) := by
  intro pins s σ H D I h
  obtain ⟨W, ⟨m0, w0⟩, turn⟩ := h
  refine wpAny_While (codeAny_whileLoop (fun n s' => ∃ σ' H', Inv X pins σ' H' s' ∧ W n σ' H') ?_ m0 ⟨σ, H, I, w0⟩)
  rintro n s1 ⟨σ1, H1, I1, w1⟩
  refine wpAny_passesOwn hp (thn (hc pins s1 σ1 H1 _ I1 (turn n σ1 H1 w1)) fun b s2 ⟨H2, I2, q2⟩ => ?_)
  cases b with
  | true =>
    obtain ⟨N, hN, q2⟩ := q2
    rw [if_pos rfl]
    refine wpAny_passesOwn hp (thn (hb pins s2 σ1 H2 _ I2 q2) fun f s3 q3 => ?_)
    cases f with
    | next =>
      obtain ⟨σ3, H3, I3, n3⟩ := q3
      obtain ⟨m', hm, w3⟩ := hN σ3 H3 n3
      exact ⟨m', hm, σ3, H3, I3, w3⟩
    | cont =>
      obtain ⟨σ3, H3, I3, n3⟩ := q3
      obtain ⟨m', hm, w3⟩ := hN σ3 H3 n3
      exact ⟨m', hm, σ3, H3, I3, w3⟩
    | brk => exact q3
    | ret v => exact q3
  | false =>
    rw [if_neg Bool.false_ne_true]
    exact wpAny_execs_nil ⟨σ1, H2, I2, q2⟩
end

/-! ### what a loop or a comprehension walks -/
/-- at turn i: it yields x (the heap may grow), or it stops -/
structure It where
  go : Nat → Hp → Prop
  yld : Nat → Hp → V → Hp → Prop
  stop : Nat → Hp → Prop
/-- the iterator's own objects may turn: they are not the frame's, not pinned, younger than the entry (or a comprehension's own) -/
def FpOk (X : Cx) (pins : List (Addr × Obj)) (H : Hp) (b : Addr) : Prop :=
  H b = none ∧ b ≠ X.env.locals ∧ b ∉ X.fs ∧ (b ∈ X.ex ∨ X.s₀.heap.objs.size ≤ b) ∧ (∀ x c, X.env.cells.lookup x = some c → c ≠ b) ∧ ∀ p ∈ X.pn ++ pins, p.1 ≠ b
theorem Inv.fpOk {X : Cx} {pins : List (Addr × Obj)} {σ : St} {H H' : Hp} {s : Shared} {b : Addr} (I : Inv X pins σ H s) (hb : s.heap.objs.size ≤ b) (hn : H' b = none) : FpOk X pins H' b := by
  refine ⟨hn, Nat.ne_of_gt (Nat.lt_of_lt_of_le I.lt hb), I.nofs hb, .inr (Nat.le_trans I.sz hb), fun x c e z => ?_, fun p hp z => ?_⟩
  · obtain ⟨v, q⟩ := I.cell x c e
    exact absurd (Nat.lt_of_lt_of_le q.lt (by rw [z]; exact hb)) (Nat.lt_irrefl _)
  · exact absurd (Nat.lt_of_lt_of_le (Heap.lt_size (I.pin p hp).1) (by rw [z]; exact hb)) (Nat.lt_irrefl _)
structure Turn (P : Program) (w : World) (K : PySem.W.Frag) (tg : Expr) (J : It) (fp : List Addr) (it : Addr) (tn : Nat → Heap → Prop) : Prop where
  mem : it ∈ fp
  obj : ∀ i h, tn i h → ∀ b ∈ fp, ∃ o, h.get? b = some o ∧ ∀ v, o.data ≠ .cell v
  keep : ∀ i h h', tn i h → (∀ b ∈ fp, ∀ o, h.get? b = some o → h'.get? b = some o) → tn i h'
  item : ∀ (X : Cx), X.prog = P → X.w = w → X.K = K → X.calm = true → ∀ (i : Nat) (pins : List (Addr × Obj)) (s : Shared) (σ : St) (H : Hp) (E : Value → Shared → Prop), Inv X pins σ H s → (∀ b ∈ fp, FpOk X pins H b) → tn i s.heap → J.go i H →
    wpAny (model P w) X.A (pyNext (.ref it)) (fun r s1 => ∃ u, r = some u ∧
      wpAny (model P w) X.A (letOwnedTupleGo tg (.ref it) u) (fun _ s2 => ∃ x H', Inv X pins σ H' s2 ∧ RelV x u ∧ J.yld i H x H' ∧ tn (i + 1) s2.heap ∧ ∀ b ∈ fp, H' b = none) E s1) E s
  done : ∀ (X : Cx), X.prog = P → X.w = w → X.K = K → X.calm = true → ∀ (i : Nat) (pins : List (Addr × Obj)) (s : Shared) (σ : St) (H : Hp) (E : Value → Shared → Prop), Inv X pins σ H s → (∀ b ∈ fp, FpOk X pins H b) → tn i s.heap → J.stop i H →
    wpAny (model P w) X.A (pyNext (.ref it)) (fun r s1 => r = none ∧ Inv X pins σ H s1) E s
  self : ∀ (A : Around) (i : Nat) (s : Shared) (Q : Value → Shared → Prop) (E : Value → Shared → Prop), tn i s.heap → Q (.ref it) s → wpAny (model P w) A (pyIter (.ref it)) Q E s
abbrev TI := St → Hp → (It → Hp → Prop) → Prop
/-- an iterator has come -/
def PIE (X : Cx) (pins : List (Addr × Obj)) (σ : St) (tg : Expr) (R : It → Hp → Prop) (itv : Value) (s2 : Shared) : Prop :=
  ∃ (it : Addr) (fp : List Addr) (tn : Nat → Heap → Prop) (J : It) (H' : Hp), itv = .ref it ∧ Inv X pins σ H' s2 ∧ Turn X.prog X.w X.K tg J fp it tn ∧ tn 0 s2.heap ∧ (∀ b ∈ fp, FpOk X pins H' b) ∧ R J H'
def PI (X : Cx) (tg iter : Expr) (wi : TI) : Prop :=
  ∀ (pins : List (Addr × Obj)) (s : Shared) (σ : St) (H : Hp) (R : It → Hp → Prop), Inv X pins σ H s → wi σ H R →
    wpAny (model X.prog X.w) X.A (eval iter X.env) (fun v s1 => wpAny (model X.prog X.w) X.A (pyIter v) (PIE X pins σ tg R) X.xe s1) X.xe s

/-- the step ahead of the store is nothing for an iterator that keeps no tuple -/
theorem go_of {M : Model} {A : Around} {E : Value → Shared → Prop} {s : Shared} {tg : Expr} {it : Addr} {u : Value} {o : Obj} {n : String} {vs : Array Value} {Q : Unit → Shared → Prop} (ho : s.heap.get? it = some o) (hc : o.cls = .type n) (hd : o.data = .fields vs)
    (hn : ["enumerate", "zip", "dict_itemiterator", "dict_reverseitemiterator", "odict_iterator", "itertools.zip_longest", "itertools.pairwise"].contains n = false) (hQ : Q () s) : wpAny M A (letOwnedTupleGo tg (.ref it) u) Q E s := by
  unfold letOwnedTupleGo
  cases tg <;> first
    | exact wpAny_pure hQ
    | (cases u <;> first
        | exact wpAny_pure hQ
        | (refine wpAny_bind (wpAny_load ho ?_)
           rw [hc, hd]
           show wpAny M A (if (["enumerate", "zip", "dict_itemiterator", "dict_reverseitemiterator", "odict_iterator", "itertools.zip_longest", "itertools.pairwise"].contains n && vs[0]? == some (rawInt _)) = true then _ else _) Q E s
           rw [if_neg (by intro h; rw [hn, Bool.false_and] at h; cases h)]
           exact wpAny_pure hQ))

def Itt (K : PySem.W.Frag) (a : Addr) : It :=
  ⟨fun i H => ∃ xs x, SqT K H a xs ∧ xs[i]? = some x, fun i H x H' => H' = H ∧ ∀ xs, SqT K H a xs → xs[i]? = some x, fun i H => ∃ xs, SqT K H a xs ∧ xs.length ≤ i⟩
/-- lo, lo + 1, .. (n of them) -/
def Itr (lo : Int) (n : Nat) : It := ⟨fun i _ => i < n, fun i H x H' => H' = H ∧ x = .int (lo + i), fun i _ => n ≤ i⟩
theorem turn_tuple {P : Program} {w : World} {K : PySem.W.Frag} {tg : Expr} (a it : Addr) : Turn P w K tg (Itt K a) [it] it (fun i h => h.IsTupleIter it a i) where
  mem := by simp
  obj := fun i h st b hb => by
    have e : b = it := by simpa using hb
    subst e
    obtain ⟨o, e, c, d⟩ := st
    exact ⟨o, e, fun v z => by rw [d] at z; cases z⟩
  keep := fun i h h' st k => st.at fun o e => k it (by simp) o e
  item := by
    intro X hP hw hK hc i pins s σ H E I hf st hg
    subst hP hw hK
    obtain ⟨xs, x, hq, hx⟩ := hg
    obtain ⟨its, rv, p, hz⟩ := I.tuple hq
    obtain ⟨u, hu, ru⟩ := rv.get hx
    obtain ⟨f0, f1, f2, f3, f4, f5⟩ := hf it (by simp)
    refine wpAny_pyNext_tuple_item st (show s.heap.IsTuple a its.toArray from p) (x := u) (by simpa using hu) fun h' st' sb => ?_
    have I1 : Inv X pins σ H { s with heap := h' } := I.turned (t' := s.toks) (fun b o hb e => (sb.2 b hb).trans e) f0 f1 f3 f4 f5
    obtain ⟨o, e, c, d⟩ := id st'
    exact ⟨u, rfl, go_of (s := { s with heap := h' }) e c d (by decide) ⟨x, H, I1, ru, ⟨rfl, fun ys hy => by rw [I.tuple_inj hy hq]; exact hx⟩, st', fun b hb => (hf b hb).1⟩⟩
  done := by
    intro X hP hw hK hc i pins s σ H E I hf st hg
    subst hP hw hK
    obtain ⟨xs, hq, hx⟩ := hg
    obtain ⟨its, rv, p, hz⟩ := I.tuple hq
    obtain ⟨f0, f1, f2, f3, f4, f5⟩ := hf it (by simp)
    have hl := rv.length
    exact wpAny_pyNext_tuple_end (I.ok.hd hc) st (show s.heap.IsTuple a its.toArray from p) (by simp; omega) fun h' eb => ⟨rfl, I.turned (t' := s.toks) (fun b o hb e => eb b o hb e) f0 f1 f3 f4 f5⟩
  self := fun _ _ _ _ _ st h => wpAny_pyIter_tupleiter st h
theorem turn_range {P : Program} {w : World} {K : PySem.W.Frag} {tg : Expr} (it : Addr) (lo : Int) (n : Nat) : Turn P w K tg (Itr lo n) [it] it (fun i h => IsRangeIter h it (lo + (i : Nat) * 1) ((n : Int) - (i : Nat)) 1) where
  mem := by simp
  obj := fun i h st b hb => by
    have e : b = it := by simpa using hb
    subst e
    exact ⟨_, st, fun v z => by
      have z' : Data.fields _ = Data.cell v := z
      cases z'⟩
  keep := fun i h h' st k => k it (by simp) _ st
  item := by
    intro X hP hw hK hc i pins s σ H E I hf st hg
    subst hP hw hK
    obtain ⟨f0, f1, f2, f3, f4, f5⟩ := hf it (by simp)
    have W := Walks.range (prog := X.prog) (w := X.w) (I.ok.hd hc) it lo 1 n
    refine W.item i s _ _ hg st fun v h' tk hv st' kk => ?_
    obtain ⟨t, rfl⟩ := hv
    have I1 : Inv X pins σ H { s with heap := h', toks := tk } := I.turned (fun b o hb e => kk b o (by simpa using hb) e) f0 f1 f3 f4 f5
    refine ⟨_, rfl, go_of (s := { s with heap := h', toks := tk }) (n := "range_iterator") st' rfl rfl (by decide) ⟨.int (lo + i), H, I1, ⟨t, ?_⟩, ⟨rfl, rfl⟩, st', fun b hb => (hf b hb).1⟩⟩
    rw [Int.mul_one]
  done := by
    intro X hP hw hK hc i pins s σ H E I hf st hg
    subst hP hw hK
    obtain ⟨f0, f1, f2, f3, f4, f5⟩ := hf it (by simp)
    exact wpAny_pyNext_range_end (I.ok.hd hc) st (by have : n ≤ i := hg; omega) fun h' eb => ⟨rfl, I.turned (t' := s.toks) (fun b o hb e => eb b o hb e) f0 f1 f3 f4 f5⟩
  self := fun _ _ _ _ _ st h => wpAny_pyIter_rangeiter st h
end L2

namespace L2
open PySem PySem.Spec PyProof.Rows
section
variable {X : Cx} {tg : Expr}
def iTup (K : PySem.W.Frag) (tl : TE) : TI := fun σ H R => tl σ H fun x H1 => ∃ a, x = .ref a ∧ (∃ xs, SqT K H1 a xs) ∧ R (Itt K a) H1
theorem pi_tup {l : Expr} {tl : TE} (hl : PE X l tl) : PI X tg l (iTup X.K tl) := by
  intro pins s σ H R I h
  refine thn (hl pins s σ H _ I h) fun v s1 ⟨x, H1, I1, r1, q1⟩ => ?_
  obtain ⟨a, e, ⟨xs, hq⟩, q⟩ := q1
  subst e
  cases r1
  obtain ⟨its, rv, p, hz⟩ := I1.tuple hq
  refine wpAny_pyIter_tuple (show s1.heap.IsTuple a its.toArray from p) ?_
  refine ⟨s1.heap.objs.size, [s1.heap.objs.size], _, _, H1, rfl, I1.kept (t' := s1.toks) fun b o e => Heap.get?_push_of_some _ e, turn_tuple a _, ⟨_, Heap.get?_push_size _ rfl, rfl, rfl⟩, fun b hb => ?_, q⟩
  have e : b = s1.heap.objs.size := by simpa using hb
  subst e
  exact I1.fpOk (Nat.le_refl _) (I1.hok.fresh (Nat.le_refl _))
/-- a range object just made, walked -/
theorem range_it {pins : List (Addr × Obj)} {σ : St} {H : Hp} {s : Shared} {R : It → Hp → Prop} {E : Value → Shared → Prop} {lo hi : Int} {t u v : Tok} {tk : Nat} (I : Inv X pins σ H s) (h1 : -(2 ^ 62) ≤ lo) (h2 : lo < 2 ^ 62) (h3 : -(2 ^ 62) ≤ hi) (h4 : hi < 2 ^ 62)
    (q : R (Itr lo (hi - lo).toNat) H) : wpAny (model X.prog X.w) X.A (pyIter (.ref s.heap.objs.size)) (PIE X pins σ tg R) E { s with heap := s.heap.push { cls := .type "range", data := .fields #[.int lo t, .int hi u, .int 1 v] }, toks := tk } := by
  refine wpAny_pyIter_range (IsRange.new ..) (small_one h1 h2 h3 h4) ?_
  have I1 : Inv X pins σ H { s with heap := s.heap.push { cls := .type "range", data := .fields #[.int lo t, .int hi u, .int 1 v] }, toks := tk } := I.kept fun b o e => Heap.get?_push_of_some _ e
  refine ⟨(s.heap.push { cls := .type "range", data := .fields #[.int lo t, .int hi u, .int 1 v] }).objs.size, [(s.heap.push { cls := .type "range", data := .fields #[.int lo t, .int hi u, .int 1 v] }).objs.size], _, _, H, rfl,
    I1.kept (t' := tk) fun b o e => Heap.get?_push_of_some _ e, turn_range _ lo (hi - lo).toNat, ?_, fun b hb => ?_, q⟩
  · have e1 : lo + ((0 : Nat) : Int) * 1 = lo := by simp
    have e2 : (((hi - lo).toNat : Nat) : Int) - ((0 : Nat) : Int) = Builtin.Range.rangeSize lo hi 1 := by rw [rangeSize_one]; split <;> omega
    show IsRangeIter _ _ (lo + ((0 : Nat) : Int) * 1) ((((hi - lo).toNat : Nat) : Int) - ((0 : Nat) : Int)) 1
    rw [e1, e2]
    exact Heap.get?_push_size _ rfl
  · have e : b = (s.heap.push { cls := .type "range", data := .fields #[.int lo t, .int hi u, .int 1 v] }).objs.size := by simpa using hb
    subst e
    exact I1.fpOk (Nat.le_refl _) (I1.hok.fresh (Nat.le_refl _))
def iRng1 (ta : TA) : TI := fun σ H R => ta σ H fun vs H1 => ∃ j : Int, vs = [.int j] ∧ -(2 ^ 62) ≤ j ∧ j < 2 ^ 62 ∧ R (Itr 0 j.toNat) H1
theorem pi_range1 {a : Expr} {ta : TA} {p pos : Pos} (hg : Gl X "range") (hm : X.mg "range" = none) (ha : PA X [a] ta) (hs : starEach [a] X.env = [(false, eval a X.env)] := by rfl) : PI X tg (.Call (.Name "range" p) [a] [] pos) (iRng1 ta) := by
  intro pins s σ H R I h
  refine Call_ (ld_blt I hg hm boot_range (PyProof.Rows.callWith_type1 (thn (ha pos pins s σ H _ I h) fun us s1 ⟨vs, H1, I1, r1, q1⟩ => ?_) hs rfl))
  obtain ⟨j, e, q1, q2, q⟩ := q1
  subst e
  cases r1 with
  | cons r rr =>
    cases rr
    obtain ⟨t, rfl⟩ := r
    exact call_range_1 (range_it I1 (by omega) (by omega) q1 q2 (by simpa using q))

/-! ### for -/
/-- W: the invariant by the turn and a measure; N: what the body is to reach -/
def tFor (wi : TI) (g : TG) (tb : TS) : TS := fun D σ H => wi σ H fun J H1 => ∃ W : Nat → Nat → St → Hp → Prop, (∃ m, W 0 m σ H1) ∧ ∀ i m σ H, W i m σ H →
  (J.stop i H ∧ D.nx σ H) ∨ (J.go i H ∧ ∃ N : St → Hp → Prop, (∀ σ' H', N σ' H' → ∃ m', m' < m ∧ W (i + 1) m' σ' H') ∧ ∀ x H', J.yld i H x H' → g x σ H' fun σ2 H2 => tb { D with nx := N, ct := N, bk := D.nx } σ2 H2)
/-- the records at fp as they stand -/
def pinsAt (fp : List Addr) (h : Heap) : List (Addr × Obj) := fp.filterMap fun b => (h.get? b).map fun o => (b, o)
theorem mem_pinsAt {fp : List Addr} {h : Heap} {b : Addr} {o : Obj} (hb : b ∈ fp) (e : h.get? b = some o) : (b, o) ∈ pinsAt fp h := List.mem_filterMap.mpr ⟨b, hb, by rw [e]; rfl⟩
theorem of_pinsAt {fp : List Addr} {h : Heap} {p : Addr × Obj} (hp : p ∈ pinsAt fp h) : p.1 ∈ fp ∧ h.get? p.1 = some p.2 := by
  obtain ⟨b, hb, e⟩ := List.mem_filterMap.mp hp
  cases q : h.get? b with
  | none => rw [q] at e; cases e
  | some o =>
    rw [q] at e
    have e' : (b, o) = p := Option.some.inj e
    subst e'
    exact ⟨hb, q⟩
theorem Inv.pinned {pins : List (Addr × Obj)} {σ : St} {H : Hp} {s : Shared} {fp : List Addr} (I : Inv X pins σ H s) (hf : ∀ b ∈ fp, FpOk X pins H b) (ho : ∀ b ∈ fp, ∃ o, s.heap.get? b = some o ∧ ∀ v, o.data ≠ .cell v) : Inv X (pins ++ pinsAt fp s.heap) σ H s :=
  I.pins_of fun p hp => (List.mem_append.mp hp).elim (fun z => I.pin p (List.mem_append_right _ z)) fun z => by
    obtain ⟨hb, e⟩ := of_pinsAt z
    obtain ⟨f0, f1, f2, _⟩ := hf p.1 hb
    obtain ⟨o, e', d⟩ := ho p.1 hb
    rw [e] at e'; cases e'
    exact ⟨e, f0, f1, f2, d⟩
theorem Inv.unpinned {pins pl : List (Addr × Obj)} {σ : St} {H : Hp} {s : Shared} (I : Inv X (pins ++ pl) σ H s) : Inv X pins σ H s := I.pins_of fun p hp => I.pin p (List.mem_append_right _ (List.mem_append_left _ hp))
theorem ps_for {iter : Expr} {body : List Stmt} {wi : TI} {g : TG} {tb : TS} {pos : Pos} (hp : PassesOwn (model X.prog X.w) X.A X.env X.xe) (hc : X.calm = true) (hi : PI X tg iter wi) (hg : PG X tg g) (hb : PSs X body tb)
    (hs : ∀ x, foldedSetIterable iter X.env x = pure x := by intro _; rfl) : PS X (.For tg iter body [] pos) (tFor wi g tb) := by
  intro pins s σ H D I h
  refine wpAny_For (thn (hi pins s σ H _ I h) fun v s1 h1 => thn h1 fun itv s2 h2 => ?_) hs
  obtain ⟨it, fp, tn, J, H2, e, I2, T, st2, f2, W, ⟨m0, w0⟩, turn⟩ := h2
  subst e
  -- what stays true of the iterator's objects through the loop
  have stat : ∀ {H' : Hp}, (∀ b ∈ fp, H' b = none) → ∀ b ∈ fp, FpOk X pins H' b := fun hn b hb => ⟨hn b hb, (f2 b hb).2⟩
  refine codeAny_forLoop_any (fun n s' => ∃ i σ' H', Inv X pins σ' H' s' ∧ tn i s'.heap ∧ (∀ b ∈ fp, H' b = none) ∧ W i n σ' H') ?_ m0 ⟨0, σ, H2, I2, st2, fun b hb => (f2 b hb).1, w0⟩
  rintro n s3 ⟨i, σ3, H3, I3, st3, fr3, w3⟩
  rcases turn i n σ3 H3 w3 with ⟨stop, qn⟩ | ⟨go, N, hN, step⟩
  · refine wpAny_passesOwn hp (thn (T.done X rfl rfl rfl hc i pins s3 σ3 H3 X.xe I3 (stat fr3) st3 stop) fun r s4 ⟨hr, I4⟩ => ?_)
    subst hr
    exact wpAny_execs_nil ⟨σ3, H3, I4, qn⟩
  · refine wpAny_passesOwn hp (thn (T.item X rfl rfl rfl hc i pins s3 σ3 H3 X.xe I3 (stat fr3) st3 go) fun r s4 ⟨u, hr, h4⟩ => ?_)
    subst hr
    refine wpAny_passesOwn hp (thn h4 fun _ s5 ⟨x, H5, I5, r5, y5, st5, fr5⟩ => ?_)
    have I5' := I5.pinned (stat fr5) (T.obj _ _ st5)
    refine wpAny_passesOwn hp (thn (hg _ s5 σ3 H5 x u _ I5' r5 (step x H5 y5)) fun _ s6 ⟨σ6, H6, I6, q6⟩ => ?_)
    refine wpAny_passesOwn hp (thn (hb _ s6 σ6 H6 _ I6 q6) fun f s7 q7 => ?_)
    have again : ∀ {σ7 : St} {H7 : Hp}, Inv X (pins ++ pinsAt fp s5.heap) σ7 H7 s7 → N σ7 H7 → ∃ m, m < n ∧ ∃ i σ' H', Inv X pins σ' H' s7 ∧ tn i s7.heap ∧ (∀ b ∈ fp, H' b = none) ∧ W i m σ' H' := fun {σ7 H7} I7 n7 => by
      obtain ⟨m', hm, w7⟩ := hN σ7 H7 n7
      refine ⟨m', hm, i + 1, σ7, H7, I7.unpinned, T.keep _ _ _ st5 fun b hb o e => (I7.pin (b, o) (List.mem_append_right _ (List.mem_append_right _ (mem_pinsAt hb e)))).1, fun b hb => ?_, w7⟩
      obtain ⟨o, e, d⟩ := T.obj _ _ st5 b hb
      exact (I7.pin (b, o) (List.mem_append_right _ (List.mem_append_right _ (mem_pinsAt hb e)))).2.1
    cases f with
    | next => obtain ⟨σ7, H7, I7, n7⟩ := q7; exact again I7 n7
    | cont => obtain ⟨σ7, H7, I7, n7⟩ := q7; exact again I7 n7
    | brk => obtain ⟨σ7, H7, I7, q7⟩ := q7; exact ⟨σ7, H7, I7.unpinned, q7⟩
    | ret v => obtain ⟨x7, σ7, H7, I7, r7, q7⟩ := q7; exact ⟨x7, σ7, H7, I7.unpinned, r7, q7⟩
end

/-! ### the forms one uses -/
theorem for_tup {K : PySem.W.Frag} {a : Addr} {xs : List V} {g : TG} {tb : TS} {D : Ends} {σ : St} {H : Hp} (Pv : Nat → St → Hp → Prop) (h0 : Pv 0 σ H) (hl : ∀ i σ H, i ≤ xs.length → Pv i σ H → SqT K H a xs)
    (hs : ∀ i x σ H, xs[i]? = some x → Pv i σ H → g x σ H fun σ2 H2 => tb { D with nx := Pv (i + 1), ct := Pv (i + 1), bk := D.nx } σ2 H2) (hd : ∀ σ H, Pv xs.length σ H → D.nx σ H) :
    ∃ W : Nat → Nat → St → Hp → Prop, (∃ m, W 0 m σ H) ∧ ∀ i m σ H, W i m σ H →
      ((Itt K a).stop i H ∧ D.nx σ H) ∨ ((Itt K a).go i H ∧ ∃ N : St → Hp → Prop, (∀ σ' H', N σ' H' → ∃ m', m' < m ∧ W (i + 1) m' σ' H') ∧ ∀ x H', (Itt K a).yld i H x H' → g x σ H' fun σ2 H2 => tb { D with nx := N, ct := N, bk := D.nx } σ2 H2) := by
  refine ⟨fun i m σ H => m = xs.length - i ∧ i ≤ xs.length ∧ Pv i σ H, ⟨xs.length, by simp, Nat.zero_le _, h0⟩, ?_⟩
  rintro i m σ H ⟨rfl, hi, p⟩
  have q := hl i σ H hi p
  by_cases hlt : i < xs.length
  · refine .inr ⟨⟨xs, xs[i], q, by simp [hlt]⟩, Pv (i + 1), fun σ' H' p' => ⟨xs.length - (i + 1), by omega, rfl, hlt, p'⟩, fun x H' y => ?_⟩
    obtain ⟨e, y⟩ := y
    subst e
    exact hs i x σ _ (y xs q) p
  · have e : i = xs.length := by omega
    subst e
    exact .inl ⟨⟨xs, q, Nat.le_refl _⟩, hd σ H p⟩
theorem for_range {lo : Int} {n : Nat} {g : TG} {tb : TS} {D : Ends} {σ : St} {H : Hp} (Pv : Nat → St → Hp → Prop) (h0 : Pv 0 σ H)
    (hs : ∀ i σ H, i < n → Pv i σ H → g (.int (lo + i)) σ H fun σ2 H2 => tb { D with nx := Pv (i + 1), ct := Pv (i + 1), bk := D.nx } σ2 H2) (hd : ∀ σ H, Pv n σ H → D.nx σ H) :
    ∃ W : Nat → Nat → St → Hp → Prop, (∃ m, W 0 m σ H) ∧ ∀ i m σ H, W i m σ H →
      ((Itr lo n).stop i H ∧ D.nx σ H) ∨ ((Itr lo n).go i H ∧ ∃ N : St → Hp → Prop, (∀ σ' H', N σ' H' → ∃ m', m' < m ∧ W (i + 1) m' σ' H') ∧ ∀ x H', (Itr lo n).yld i H x H' → g x σ H' fun σ2 H2 => tb { D with nx := N, ct := N, bk := D.nx } σ2 H2) := by
  refine ⟨fun i m σ H => m = n - i ∧ i ≤ n ∧ Pv i σ H, ⟨n, by simp, Nat.zero_le _, h0⟩, ?_⟩
  rintro i m σ H ⟨rfl, hi, p⟩
  by_cases hlt : i < n
  · refine .inr ⟨hlt, Pv (i + 1), fun σ' H' p' => ⟨n - (i + 1), by omega, rfl, hlt, p'⟩, fun x H' y => ?_⟩
    obtain ⟨e, y⟩ := y
    subst e y
    exact hs i σ _ hlt p
  · have e : i = n := by omega
    subst e
    exact .inl ⟨Nat.le_refl _, hd σ H p⟩
end L2

namespace L2
open PySem PySem.Spec PyProof.Rows

abbrev R2 := V → V → Hp → VK → Prop
/-- a two-place operation on values: f is binaryOp op, inplaceOp op or compareOp op -/
def OpR (X : Cx) (f : Value → Value → Sem Value) (r : R2) : Prop :=
  ∀ (pins : List (Addr × Obj)) (s : Shared) (σ : St) (H : Hp) (x y : V) (v u : Value) (Q : VK), Inv X pins σ H s → RelV x v → RelV y u → r x y H Q →
    wpAny (model X.prog X.w) X.A (f v u) (EP X pins σ Q) X.xe s
/-- a one-place operation -/
def UnR (X : Cx) (f : Value → Sem Value) (r : V → Hp → VK → Prop) : Prop :=
  ∀ (pins : List (Addr × Obj)) (s : Shared) (σ : St) (H : Hp) (x : V) (v : Value) (Q : VK), Inv X pins σ H s → RelV x v → r x H Q →
    wpAny (model X.prog X.w) X.A (f v) (EP X pins σ Q) X.xe s
/-- a call of a value that is known (a builtin, a type) with values -/
def CallR (X : Cx) (f : Value) (r : List V → Hp → VK → Prop) : Prop :=
  ∀ (pins : List (Addr × Obj)) (s : Shared) (σ : St) (H : Hp) (xs : List V) (us : List Value) (Q : VK), Inv X pins σ H s → Vals xs us → r xs H Q →
    wpAny (model X.prog X.w) X.A (call f us) (EP X pins σ Q) X.xe s

def tOp (r : R2) (ta tb : TE) : TE := fun σ H Q => ta σ H fun x H1 => tb σ H1 fun y H2 => r x y H2 Q
def tUn (r : V → Hp → VK → Prop) (ta : TE) : TE := fun σ H Q => ta σ H fun x H1 => r x H1 Q
/-- ints in, under C, and a value out -/
def rI (C : Int → Int → Prop) (g : Int → Int → V) : R2 := fun x y H Q => ∃ i j, x = .int i ∧ y = .int j ∧ C i j ∧ Q (g i j) H
def rI0 (g : Int → Int → V) : R2 := fun x y H Q => ∃ i j, x = .int i ∧ y = .int j ∧ Q (g i j) H
def rU (g : Int → V) : V → Hp → VK → Prop := fun x H Q => ∃ i, x = .int i ∧ Q (g i) H

section
variable {X : Cx} {a b c : Expr} {ta tb tc : TE} {pos : Pos}

theorem binT (ha : PE X a ta) (hb : PE X b tb) {pins : List (Addr × Obj)} {s : Shared} {σ : St} {H : Hp} {R : V → V → Hp → Prop} (I : Inv X pins σ H s)
    (h : ta σ H fun x H1 => tb σ H1 fun y H2 => R x y H2) {Q : Value → Shared → Prop} {f : Value → Value → Sem Value}
    (hf : ∀ v u s2 x y H2, Inv X pins σ H2 s2 → RelV x v → RelV y u → R x y H2 → wpAny (model X.prog X.w) X.A (f v u) Q X.xe s2) :
    wpAny (model X.prog X.w) X.A (eval a X.env) (fun v s₁ => wpAny (model X.prog X.w) X.A (eval b X.env) (fun u s₂ => wpAny (model X.prog X.w) X.A (f v u) Q X.xe s₂) X.xe s₁) X.xe s := by
  refine thn (ha pins s σ H _ I h) fun v s1 ⟨x, H1, I1, r1, q1⟩ => ?_
  refine thn (hb pins s1 σ H1 _ I1 q1) fun u s2 ⟨y, H2, I2, r2, q2⟩ => ?_
  exact hf v u s2 x y H2 I2 r1 r2 q2

theorem pe_op {op : Operator} {r : R2} (ho : OpR X (binaryOp op) r) (ha : PE X a ta) (hb : PE X b tb) : PE X (.BinOp a op b pos) (tOp r ta tb) := by
  intro pins s σ H Q I h
  exact wpAny_BinOp (binT ha hb I h fun v u s2 x y H2 I2 rx ry q => ho pins s2 σ H2 x y v u Q I2 rx ry q)
theorem pe_un {op : UnaryOp} {r : V → Hp → VK → Prop} (ho : UnR X (unaryOp op) r) (ha : PE X a ta) : PE X (.UnaryOp op a pos) (tUn r ta) := by
  intro pins s σ H Q I h
  exact UnaryOp_ (thn (ha pins s σ H _ I h) fun v s1 ⟨x, H1, I1, r1, q1⟩ => ho pins s1 σ H1 x v Q I1 r1 q1)

/-! ### ints -/
theorem opI {f : Value → Value → Sem Value} {C : Int → Int → Prop} {g : Int → Int → Int}
    (rule : ∀ (i j : Int) (t u : Tok) (s : Shared) (Q : Value → Shared → Prop) (E : Value → Shared → Prop), C i j → Q (.int (g i j) s.toks) { s with toks := s.toks + 1 } → wpAny (model X.prog X.w) X.A (f (.int i t) (.int j u)) Q E s) :
    OpR X f (rI C fun i j => .int (g i j)) := by
  intro pins s σ H x y v u Q I rx ry h
  obtain ⟨i, j, rfl, rfl, hc, q⟩ := h
  obtain ⟨t, rfl⟩ := rx
  obtain ⟨t', rfl⟩ := ry
  exact rule i j t t' s _ _ hc ⟨.int (g i j), H, I.tok _, ⟨_, rfl⟩, q⟩
theorem opI0 {f : Value → Value → Sem Value} {g : Int → Int → Int}
    (rule : ∀ (i j : Int) (t u : Tok) (s : Shared) (Q : Value → Shared → Prop) (E : Value → Shared → Prop), Q (.int (g i j) s.toks) { s with toks := s.toks + 1 } → wpAny (model X.prog X.w) X.A (f (.int i t) (.int j u)) Q E s) :
    OpR X f (rI0 fun i j => .int (g i j)) := by
  intro pins s σ H x y v u Q I rx ry h
  obtain ⟨i, j, rfl, rfl, q⟩ := h
  obtain ⟨t, rfl⟩ := rx
  obtain ⟨t', rfl⟩ := ry
  exact rule i j t t' s _ _ ⟨.int (g i j), H, I.tok _, ⟨_, rfl⟩, q⟩
theorem opB0 {f : Value → Value → Sem Value} {g : Int → Int → Bool}
    (rule : ∀ (i j : Int) (t u : Tok) (s : Shared) (Q : Value → Shared → Prop) (E : Value → Shared → Prop), Q (.bool (g i j)) s → wpAny (model X.prog X.w) X.A (f (.int i t) (.int j u)) Q E s) :
    OpR X f (rI0 fun i j => .bl (g i j)) := by
  intro pins s σ H x y v u Q I rx ry h
  obtain ⟨i, j, rfl, rfl, q⟩ := h
  obtain ⟨t, rfl⟩ := rx
  obtain ⟨t', rfl⟩ := ry
  exact rule i j t t' s _ _ ⟨.bl (g i j), H, I, rfl, q⟩

def CPow (i j : Int) : Prop := 0 ≤ j ∧ j ≤ 1000000 ∧ i.natAbs < 2 ^ 64

theorem op_add : OpR X (binaryOp .Add) (rI0 fun i j => .int (i + j)) := opI0 fun _ _ _ _ _ _ _ q => add_int q
theorem op_sub : OpR X (binaryOp .Sub) (rI0 fun i j => .int (i - j)) := opI0 fun _ _ _ _ _ _ _ q => sub_int q
theorem op_modN : OpR X (binaryOp .Mod) (rI (fun _ j => j ≠ 0) fun i j => .int (i.fmod j)) := opI fun _ _ _ _ _ _ _ hc q => mod_int' hc q
theorem op_pow : OpR X (binaryOp .Pow) (rI CPow fun i j => .int (i ^ j.toNat)) := opI fun _ _ _ _ _ _ _ hc q => pow_int_small hc.1 hc.2.1 hc.2.2 q


theorem unI {f : Value → Sem Value} {g : Int → Int}
    (rule : ∀ (i : Int) (t : Tok) (s : Shared) (Q : Value → Shared → Prop) (E : Value → Shared → Prop), Q (.int (g i) s.toks) { s with toks := s.toks + 1 } → wpAny (model X.prog X.w) X.A (f (.int i t)) Q E s) :
    UnR X f (rU fun i => .int (g i)) := by
  intro pins s σ H x v Q I rx h
  obtain ⟨i, rfl, q⟩ := h
  obtain ⟨t, rfl⟩ := rx
  exact rule i t s _ _ ⟨.int (g i), H, I.tok _, ⟨_, rfl⟩, q⟩
theorem un_neg : UnR X (unaryOp .USub) (rU fun i => .int (-i)) := unI fun _ _ _ _ _ q => neg_int q

/-! ### bools among ints: n += (a < b) -/
end

/-! ### comparisons -/
/-- the scalars that == tells apart as data does -/
def scal : V → V → Bool
  | .non, .non => true | .non, .int _ => true | .int _, .non => true | .non, .bl _ => true | .bl _, .non => true | .non, .str _ => true | .str _, .non => true
  | .int _, .int _ => true | .bl _, .bl _ => true | .str _, .str _ => true | .byt _, .byt _ => true
  | .int _, .str _ => true | .str _, .int _ => true | .bl _, .str _ => true | .str _, .bl _ => true
  | _, _ => false
def rEq : R2 := fun x y H Q => scal x y = true ∧ Q (.bl (decide (x = y))) H
def rNe : R2 := fun x y H Q => scal x y = true ∧ Q (.bl (!decide (x = y))) H

theorem dec_int {i j : Int} : decide (V.int i = V.int j) = (i == j) := by
  rw [Bool.eq_iff_iff]
  simp
theorem dec_bl {i j : Bool} : decide (V.bl i = V.bl j) = (i == j) := by
  rw [Bool.eq_iff_iff]
  simp
theorem dec_str {i j : Str} : decide (V.str i = V.str j) = (i == j) := by
  rw [Bool.eq_iff_iff]
  simp
theorem dec_byt {i j : Array UInt8} : decide (V.byt i = V.byt j) = (i.toList == j.toList) := by
  rw [Bool.eq_iff_iff]
  cases i
  cases j
  simp

section
variable {X : Cx} {a b c : Expr} {ta tb tc : TE} {pos : Pos}
theorem fin_bl {pins : List (Addr × Obj)} {σ : St} {H : Hp} {s : Shared} {Q : VK} {k k' : Bool} (I : Inv X pins σ H s) (q : Q (.bl k) H) (e : k = k') : EP X pins σ Q (.bool k') s := by
  subst e
  exact ⟨.bl k, H, I, rfl, q⟩
theorem op_eq : OpR X (compareOp .Eq) rEq := by
  intro pins s σ H x y v u Q I rx ry h
  obtain ⟨hs, q⟩ := h
  cases x with
  | non =>
    cases rx
    cases y with
    | non => cases ry; exact PySem.EqNone.eq_none_none (fin_bl I q (by simp))
    | bl j => cases ry; exact PySem.EqNone.eq_none_bool (fin_bl I q (by simp))
    | int j => obtain ⟨t', rfl⟩ := ry; exact PySem.EqNone.eq_none_int (fin_bl I q (by simp))
    | str j => obtain ⟨t', rfl⟩ := ry; exact PySem.EqNone.eq_none_str (fin_bl I q (by simp))
    | _ => exact absurd (show false = true from hs) Bool.false_ne_true
  | bl i =>
    cases rx
    cases y with
    | non => cases ry; exact PySem.EqNone.eq_bool_none (fin_bl I q (by simp))
    | bl j => cases ry; exact eq_bool (fin_bl I q dec_bl)
    | str j => obtain ⟨t', rfl⟩ := ry; exact PySem.EqMixed.eq_bool_str (fin_bl I q (by simp))
    | _ => exact absurd (show false = true from hs) Bool.false_ne_true
  | int i =>
    obtain ⟨t, rfl⟩ := rx
    cases y with
    | non => cases ry; exact PySem.EqNone.eq_int_none (fin_bl I q (by simp))
    | int j => obtain ⟨t', rfl⟩ := ry; exact eq_int (fin_bl I q dec_int)
    | str j => obtain ⟨t', rfl⟩ := ry; exact PySem.EqMixed.eq_int_str (fin_bl I q (by simp))
    | _ => exact absurd (show false = true from hs) Bool.false_ne_true
  | str i =>
    obtain ⟨t, rfl⟩ := rx
    cases y with
    | non => cases ry; exact PySem.EqNone.eq_str_none (fin_bl I q (by simp))
    | bl j => cases ry; exact PySem.EqMixed.eq_str_bool (fin_bl I q (by simp))
    | int j => obtain ⟨t', rfl⟩ := ry; exact PySem.EqMixed.eq_str_int (fin_bl I q (by simp))
    | str j => obtain ⟨t', rfl⟩ := ry; exact eq_str (fin_bl I q dec_str)
    | _ => exact absurd (show false = true from hs) Bool.false_ne_true
  | byt i =>
    obtain ⟨t, rfl⟩ := rx
    cases y with
    | byt j => obtain ⟨t', rfl⟩ := ry; exact PySem.W.eq_bytes (fin_bl I q dec_byt)
    | _ => exact absurd (show false = true from hs) Bool.false_ne_true
  | _ => cases y <;> exact absurd (show false = true from hs) Bool.false_ne_true
theorem op_ne : OpR X (compareOp .NotEq) rNe := by
  intro pins s σ H x y v u Q I rx ry h
  obtain ⟨hs, q⟩ := h
  cases x with
  | non =>
    cases rx
    cases y with
    | non => cases ry; exact PySem.EqNone.ne_none_none (fin_bl I q (by simp))
    | bl j => cases ry; exact PySem.EqNone.ne_none_bool (fin_bl I q (by simp))
    | int j => obtain ⟨t', rfl⟩ := ry; exact PySem.EqNone.ne_none_int (fin_bl I q (by simp))
    | str j => obtain ⟨t', rfl⟩ := ry; exact PySem.EqNone.ne_none_str (fin_bl I q (by simp))
    | _ => exact absurd (show false = true from hs) Bool.false_ne_true
  | bl i =>
    cases rx
    cases y with
    | non => cases ry; exact PySem.EqNone.ne_bool_none (fin_bl I q (by simp))
    | bl j => cases ry; exact ne_bool (fin_bl I q (congrArg not dec_bl))
    | str j => obtain ⟨t', rfl⟩ := ry; exact PySem.EqMixed.ne_bool_str (fin_bl I q (by simp))
    | _ => exact absurd (show false = true from hs) Bool.false_ne_true
  | int i =>
    obtain ⟨t, rfl⟩ := rx
    cases y with
    | non => cases ry; exact PySem.EqNone.ne_int_none (fin_bl I q (by simp))
    | int j => obtain ⟨t', rfl⟩ := ry; exact ne_int (fin_bl I q (congrArg not dec_int))
    | str j => obtain ⟨t', rfl⟩ := ry; exact PySem.EqMixed.ne_int_str (fin_bl I q (by simp))
    | _ => exact absurd (show false = true from hs) Bool.false_ne_true
  | str i =>
    obtain ⟨t, rfl⟩ := rx
    cases y with
    | non => cases ry; exact PySem.EqNone.ne_str_none (fin_bl I q (by simp))
    | bl j => cases ry; exact PySem.EqMixed.ne_str_bool (fin_bl I q (by simp))
    | int j => obtain ⟨t', rfl⟩ := ry; exact PySem.EqMixed.ne_str_int (fin_bl I q (by simp))
    | str j => obtain ⟨t', rfl⟩ := ry; exact ne_str (fin_bl I q (congrArg not dec_str))
    | _ => exact absurd (show false = true from hs) Bool.false_ne_true
  | byt i =>
    obtain ⟨t, rfl⟩ := rx
    cases y with
    | byt j => obtain ⟨t', rfl⟩ := ry; exact PySem.W.ne_bytes (fin_bl I q (congrArg not dec_byt))
    | _ => exact absurd (show false = true from hs) Bool.false_ne_true
  | _ => cases y <;> exact absurd (show false = true from hs) Bool.false_ne_true

theorem op_lt : OpR X (compareOp .Lt) (rI0 fun i j => .bl (decide (i < j))) := opB0 fun _ _ _ _ _ _ _ q => lt_int q
theorem op_le : OpR X (compareOp .LtE) (rI0 fun i j => .bl (decide (i ≤ j))) := opB0 fun _ _ _ _ _ _ _ q => le_int q
theorem op_gt : OpR X (compareOp .Gt) (rI0 fun i j => .bl (decide (j < i))) := opB0 fun _ _ _ _ _ _ _ q => gt_int q
theorem op_ge : OpR X (compareOp .GtE) (rI0 fun i j => .bl (decide (j ≤ i))) := opB0 fun _ _ _ _ _ _ _ q => ge_int q




theorem nomark (b : Expr) {op : CmpOp} (h : op ≠ .In := by decide) (h2 : op ≠ .NotIn := by decide) : behindInMarks op b = false := by
  have e1 : (op == CmpOp.In) = false := by cases op <;> first | rfl | exact absurd rfl h
  have e2 : (op == CmpOp.NotIn) = false := by cases op <;> first | rfl | exact absurd rfl h2
  cases b <;> simp [behindInMarks, e1, e2]
/-- a reading of a value as a test -/
def tTest (t : TE) : TT := fun σ H Q => t σ H fun x H' => ∃ k, x = .bl k ∧ Q k H'
theorem pt_cmpR {op : CmpOp} {r : R2} (ho : OpR X (compareOp op) r) (ha : PE X a ta) (hb : PE X b tb) (hm : behindInMarks op b = false) : PT X (.Compare a [op] [b] pos) (tTest (tOp r ta tb)) := by
  intro pins s σ H Q I h
  refine wpAny_isTrue_Compare1 (thn (ha pins s σ H _ I h) fun v s1 ⟨x, H1, I1, r1, q1⟩ => thn (hb pins s1 σ H1 _ I1 q1) fun u s2 ⟨y, H2, I2, r2, q2⟩ =>
    thn (ho pins s2 σ H2 x y v u _ I2 r1 r2 q2) fun c s3 ⟨z, H3, I3, r3, k, e, q3⟩ => ?_) hm
  subst e
  cases r3
  exact wpAny_truthy_bool ⟨H3, I3, q3⟩

/-! ### truth -/
theorem line63 : (sizeLine : Nat) < 2 ^ 63 := by rw [sizeLine_eq]; decide

/-! ### strs and bytes -/


/-! ### scalar builtins, by CallR -/
theorem vals1 {x : V} {us : List Value} (r : Vals [x] us) : ∃ u, us = [u] ∧ RelV x u := by
  cases r with
  | cons r1 r2 => cases r2; exact ⟨_, rfl, r1⟩
theorem vals2 {x y : V} {us : List Value} (r : Vals [x, y] us) : ∃ u w', us = [u, w'] ∧ RelV x u ∧ RelV y w' := by
  cases r with
  | cons r1 r2 =>
    cases r2 with
    | cons r3 r4 => cases r4; exact ⟨_, _, rfl, r1, r3⟩
theorem call_abs : CallR X (.builtin "abs") (fun xs H Q => ∃ i, xs = [.int i] ∧ Q (.int (if i < 0 then -i else i)) H) := by
  intro pins s σ H xs us Q I r h
  obtain ⟨i, rfl, q⟩ := h
  obtain ⟨u, rfl, t, rfl⟩ := vals1 r
  exact call_abs_int fun u tk => ⟨.int (if i < 0 then -i else i), H, I.tok _, ⟨_, rfl⟩, q⟩
end
end L2

namespace L2
open PySem PySem.Spec PyProof.Rows

/-! ### an instance, its attributes a map -/
structure ObjM (h : Heap) (x dx C : Addr) (mA : Str → Option Value) : Prop where
  obj : h.get? x = some (PySem.W.instObj C dx)
  ns : h.Ns1 dx mA
  ne : dx ≠ x

theorem lookIn_ns {h : Heap} {dx : Addr} {mA : Str → Option Value} (n : h.Ns1 dx mA) : ∃ od, h.get? dx = some od ∧ ∀ name, PySem.W.lookIn name od = some (mA name) := by
  obtain ⟨o, es, ep, ho, hd, hk, _, hm⟩ := n
  refine ⟨o, ho, fun name => ?_⟩
  have e := hm name
  unfold nsFind findBy at e
  rw [← Array.find?_toList] at e
  unfold PySem.W.lookIn
  rw [hd]
  dsimp only
  split
  · rename_i y q
    rw [q] at e
    exact congrArg some e
  · rename_i q
    rw [q] at e
    have a : es.toList.any (·.refKey) = false := by
      rw [List.any_eq_false]
      intro y hy
      obtain ⟨z, t, hkey⟩ := hk y (Array.mem_toList_iff.mp hy)
      simp [DictEntry.refKey, hkey]
    have a' : ¬ es.toList.any (·.refKey) = true := by rw [a]; exact Bool.false_ne_true
    rw [if_neg a']
    exact congrArg some e

theorem ObjM.look {h : Heap} {x dx C : Addr} {mA : Str → Option Value} (I : ObjM h x dx C mA) : ∃ od, PySem.W.InstAt h x (PySem.W.instObj C dx) C (some od) ∧ ∀ name, PySem.W.lookIn name od = some (mA name) :=
  let ⟨od, ho, hl⟩ := lookIn_ns I.ns
  ⟨od, ⟨I.obj, rfl, rfl, ho⟩, hl⟩

section
variable {prog : Program} {w : World} {A : Around} {E : Value → Shared → Prop} {s : Shared} {K : PySem.W.Frag} {x dx C f : Addr} {mA : Str → Option Value} {name : Str} {v : Value}





end

/-! ### the attributes as a list of pairs -/


section
variable {P : Program} {w : World} {H H' : Hp} {h h' : Heap} {a C dx : Addr} {fs fs' : List (Str × V)}
theorem ins_get (hok : HOk P w H h) (e : H a = some (.ins C dx fs)) : ∃ mA, ObjM h a dx C mA ∧ (∀ f, RelO (fs.lookup f) (mA f)) ∧ PySem.Within mA (fs.map (·.1)) ∧ fs.length ≤ 1000 ∧ H dx = some (.own a) := by
  obtain ⟨d, z, ne, ob, mA, n, r, q⟩ := (show ObjOk P w H h a (.ins C dx fs) from hok a _ e)
  exact ⟨mA, ⟨ob, n, ne⟩, r, q, z, d⟩
end

/-! ### what of the text a class must have -/
structure Cls (K : PySem.W.Frag) (C : Addr) : Prop where
  pg : PySem.W.plainGet K C Str.empty = true
  hd : PySem.W.hasDictIn K C = true
  po : PySem.W.plainOver K C = true
  sa : PySem.W.findIn K (.ref C) "__setattr__" = some (some (.builtin "object.__setattr__"))
theorem Cls.get {K : PySem.W.Frag} {C : Addr} (c : Cls K C) (f : Str) : PySem.W.plainGet K C f = true := c.pg

section
variable {X : Cx} {pins : List (Addr × Obj)} {σ : St} {H : Hp} {s : Shared} {a C dx : Addr} {fs : List (Str × V)} {f : Str} {v : V} {A : Around} {E : Value → Shared → Prop}






end

/-! ### readings and rules -/

section
variable {X : Cx} {o e value : Expr} {f : Str} {pos pos' tpos : Pos} {ta tv : TE}

end

/-! ### isinstance -/
section
variable {X : Cx} {pins : List (Addr × Obj)} {σ : St} {H : Hp} {s : Shared} {A : Around} {E : Value → Shared → Prop} {Q : Value → Shared → Prop} {c : Value} {b : Bool}
/-- the type of a value, as the fragment's deciders take it; for an instance its class -/
inductive TyOf (K : PySem.W.Frag) (H : Hp) : V → Value → Prop where
  | non : TyOf K H .non (.type "NoneType")
  | bl (x : Bool) : TyOf K H (.bl x) (.type "bool")
  | int (i : Int) : TyOf K H (.int i) (.type "int")
  | str (x : Str) : TyOf K H (.str x) (.type "str")
  | flt (x : UInt64) : TyOf K H (.flt x) (.type "float")
  | lst {a : Addr} {xs : List V} (e : H a = some (.lst xs)) : TyOf K H (.ref a) (.type "list")
  | frz {a : Addr} {o : Obj} {xs : List V} (e : H a = some (.frz o (.lst xs))) : TyOf K H (.ref a) (.type "list")
  | tup {a : Addr} {xs : List V} (e : H a = some (.tup xs)) : TyOf K H (.ref a) (.type "tuple")
  | dK {a : Addr} {kvs : List (Key × V)} (e : H a = some (.dK kvs)) : TyOf K H (.ref a) (.type "dict")
  | dT {a : Addr} {kvs : List (List Key × V)} (e : H a = some (.dT kvs)) : TyOf K H (.ref a) (.type "dict")
  | ins {a C dx : Addr} {fs : List (Str × V)} (e : H a = some (.ins C dx fs)) (cl : Cls K C) (ha : PySem.W.findIn K (.ref C) "__class__" = some (some (.builtin "object.__class__")))
      (hn : PySem.W.specialIn K (.builtin "object.__class__") "__get__" = some (some (.builtin "getset_descriptor.__get__"))) (htk : PySem.W.takesIn K (.builtin "object.__class__") = some true)
      (hm : PySem.W.mroIn K C (.type "object") = some true) : TyOf K H (.ref a) (.ref C)
/-- isinstance(x, c) for one class c, a built-in or an own one: kitOne's answer -/
theorem isinst_ok {x : V} {u t : Value} (I : Inv X pins σ H s) (rx : RelV x u) (ty : TyOf X.K H x t) (e : PySem.W.kitOne X.K t c = some b) (h : ∀ tk, Q (.bool b) { s with toks := tk }) :
    wpAny (model X.prog X.w) A (call (.builtin "isinstance") [u, c]) Q E s := by
  cases ty with
  | non => cases (show u = Value.none from rx); exact PySem.W.kia_one PySem.W.kitx_none I.kIn True.intro e (fun z => nomatch z) h
  | bl y => cases (show u = Value.bool y from rx); exact PySem.W.kia_one PySem.W.kitx_bool I.kIn True.intro e (fun z => nomatch z) h
  | int i => obtain ⟨t, q⟩ := (show ∃ t, u = Value.int i t from rx); cases q; exact PySem.W.kia_one PySem.W.kitx_int I.kIn True.intro e (fun z => nomatch z) h
  | str y => obtain ⟨t, q⟩ := (show ∃ t, u = Value.str y t from rx); cases q; exact PySem.W.kia_one PySem.W.kitx_str I.kIn True.intro e (fun z => nomatch z) h
  | flt y => obtain ⟨t, q⟩ := (show ∃ t, u = Value.float y t from rx); cases q; exact PySem.W.kia_one PySem.W.kitx_float I.kIn True.intro e (fun z => nomatch z) h
  | @lst a xs ea =>
    cases (show u = Value.ref a from rx)
    obtain ⟨_, _, n, _, h1⟩ := (show ObjOk X.prog X.w H s.heap a (.lst xs) from I.hok a _ ea)
    exact PySem.W.kia_one PySem.W.kitx_list I.kIn ⟨_, h1, rfl⟩ e (fun z => nomatch z) h
  | @frz a ob xs ea =>
    cases (show u = Value.ref a from rx)
    obtain ⟨_, _, _, n, _, h1⟩ := (show ObjOk X.prog X.w H s.heap a (.frz ob (.lst xs)) from I.hok a _ ea)
    exact PySem.W.kia_one PySem.W.kitx_list I.kIn ⟨_, h1, rfl⟩ e (fun z => nomatch z) h
  | @tup a xs ea =>
    cases (show u = Value.ref a from rx)
    obtain ⟨_, _, _, p⟩ := (show ObjOk X.prog X.w H s.heap a (.tup xs) from I.hok a _ ea)
    obtain ⟨o, h1, h2, _⟩ := p
    exact PySem.W.kia_one PySem.W.kitx_tuple I.kIn ⟨o, h1, h2⟩ e (fun z => nomatch z) h
  | @dK a kvs ea =>
    cases (show u = Value.ref a from rx)
    obtain ⟨_, _, vs, _, p⟩ := (show ObjOk X.prog X.w H s.heap a (.dK kvs) from I.hok a _ ea)
    obtain ⟨o, es, ep, h1, h2, _⟩ := p
    exact PySem.W.kia_one PySem.W.kitx_dict I.kIn ⟨o, h1, h2.1⟩ e (fun z => nomatch z) h
  | @dT a kvs ea =>
    cases (show u = Value.ref a from rx)
    obtain ⟨_, _, xs, _, o, es, ep, h1, h2, _⟩ := (show ObjOk X.prog X.w H s.heap a (.dT kvs) from I.hok a _ ea)
    exact PySem.W.kia_one PySem.W.kitx_dict I.kIn ⟨o, h1, h2.1⟩ e (fun z => nomatch z) h
  | @ins a C dx fs ea cl ha hn htk hm =>
    cases (show u = Value.ref a from rx)
    obtain ⟨mA, O, _⟩ := ins_get I.hok ea
    obtain ⟨od, J, _⟩ := O.look
    exact PySem.W.kia_one (PySem.W.kitx_own (cl.get _) cl.hd ha hn htk hm) I.kIn J e (fun z => nomatch z) h
end
end L2

namespace L2
open PySem PySem.Spec PyProof.Rows

/-! ### room -/
structure Room (k : Nat) (A : Around) : Prop where
  hd : A.handled = none
  dp : A.depth + 3 * k + 5 < recursionLimit
  un : A.units + 16 * k + 200 < cLine
theorem Room.mono {j k : Nat} {A : Around} (r : Room k A) (h : j ≤ k) : Room j A := ⟨r.hd, by have := r.dp; omega, by have := r.un; omega⟩
theorem Room.deeper {k : Nat} {A : Around} (r : Room (k + 1) A) (env : Env) : Room k (A.deeper env) :=
  ⟨r.hd, by have := r.dp; show A.depth + 1 + 3 * k + 5 < _; omega, by have := r.un; show A.units + 3 + 16 * k + 200 < _; omega⟩
theorem Room.depth {k : Nat} {A : Around} (r : Room k A) : A.depth < recursionLimit := by have := r.dp; omega
theorem Room.units {k : Nat} {A : Around} (r : Room k A) : A.units + 64 < cLine := by have := r.un; omega

/-! ### argument lists and displays -/
def tNil : TA := fun _ H Q => Q [] H
def tCons (ta : TE) (tr : TA) : TA := fun σ H Q => ta σ H fun x H1 => tr σ H1 fun xs H2 => Q (x :: xs) H2
section
variable {X : Cx} {e : Expr} {es : List Expr} {te : TE} {t : TA} {pos : Pos}
theorem pa_nil : PA X [] tNil := fun _ _ _ _ H Q I h => Calls.spliced_nil ⟨[], H, I, .nil, h⟩
theorem pa_cons (ha : PE X e te) (hr : PA X es t) (hs : starEach (e :: es) X.env = (false, eval e X.env) :: starEach es X.env := by rfl) : PA X (e :: es) (tCons te t) := by
  intro pos pins s σ H Q I h
  rw [hs]
  show wpAny _ _ (spliced ((false, eval e X.env) :: backTo pos (starEach es X.env))) _ _ s
  refine Calls.spliced_cons (thn (ha pins s σ H _ I h) fun u s1 ⟨x, H1, I1, r1, q1⟩ => ?_)
  exact thn (hr pos pins s1 σ H1 _ I1 q1) fun us s2 ⟨xs, H2, I2, r2, q2⟩ => ⟨x :: xs, H2, I2, .cons r1 r2, q2⟩

/-- a tuple, a list of written items -/
def tTup (t : TA) : TE := fun σ H Q => t σ H fun xs H1 => xs.length ≤ sizeLine ∧ ∀ p, H1 p = none → Q (.ref p) (upd H1 p (.tup xs))
def tLst (t : TA) : TE := fun σ H Q => t σ H fun xs H1 => xs.length ≤ sizeLine ∧ ∀ p, H1 p = none → Q (.ref p) (upd H1 p (.lst xs))
theorem pe_tup {x1} (h : PA X es t) : PE X (.Tuple es x1 pos) (tTup t) := by
  intro pins s σ H Q I hq
  refine wpAny_Tuple_spliced (thn (h pos pins s σ H _ I hq) fun us s1 ⟨xs, H1, I1, r, z, q⟩ => ⟨by rw [← r.length]; exact z, ?_⟩)
  have hf : H1 s1.heap.objs.size = none := I1.hok.fresh (Nat.le_refl _)
  refine ⟨.ref s1.heap.objs.size, upd H1 s1.heap.objs.size (.tup xs), I1.laid (t' := s1.toks) (fun b u e => Heap.get?_push_of_some _ e) (Nat.le_refl _) ?_, rfl, q _ hf⟩
  exact ⟨z, us, r, ⟨_, Heap.get?_push_size _ rfl, rfl, _, rfl⟩⟩
theorem pe_lst (h : PA X es t) : PE X (.List es pos) (tLst t) := by
  intro pins s σ H Q I hq
  refine wpAny_List_spliced (thn (h pos pins s σ H _ I hq) fun us s1 ⟨xs, H1, I1, r, z, q⟩ => ⟨by rw [← r.length]; exact z, ?_⟩)
  have hf : H1 s1.heap.objs.size = none := I1.hok.fresh (Nat.le_refl _)
  refine ⟨.ref s1.heap.objs.size, upd H1 s1.heap.objs.size (.lst xs), I1.laid (t' := s1.toks) (fun b u e => Heap.get?_push_of_some _ e) (Nat.le_refl _) ?_, rfl, q _ hf⟩
  exact ⟨z, us, 0, r, Heap.get?_push_size _ rfl⟩
end

/-! ### what a def promises -/
/-- a def's promise: the bound arguments in the parameters' order, the heap, the wanted end, the wanted exception -/
abbrev Sp := List V → Hp → VK → XK → Prop
/-- how an exception lies behind a call (file 08 gives it): the callers' frames, abstract heap and state ahead of the call, the wish, the exception, the state -/
abbrev CXT := List Env → Hp → Shared → XK → Value → Shared → Prop

/-- the state at a call -/
structure Env0 (P : Program) (w : World) (K : PySem.W.Frag) (mg : Str → Option Value) (base : Heap) (A : Around) (outer : List Env) (s : Shared) (H : Hp) : Prop where
  frames : A.frames = some outer
  mod : Mod K mg base
  bs : ∀ b o, base.get? b = some o → s.heap.get? b = some o ∧ H b = none
  bsz : base.objs.size ≤ s.heap.objs.size
  funs : s.heap.FunFrames base outer
  frf : ∀ b ∈ frs outer, H b = none
  hok : HOk P w H s.heap
  bare : AllBare s.gens
/-- a call's end -/
def CE (outer : List Env) (P : Program) (w : World) (H : Hp) (s : Shared) (Q : VK) (u : Value) (s' : Shared) : Prop :=
  ∃ v H', s'.os = s.os ∧ AllBare s'.gens ∧ Un (frs outer) [] H H' s.heap s'.heap ∧ HOk P w H' s'.heap ∧ RelV v u ∧ Q v H'
def CR (CX : CXT) (outer : List Env) (P : Program) (w : World) (H : Hp) (s : Shared) (Q : VK) (E : XK) (r : Result) (s' : Shared) : Prop :=
  match r with
  | .ok (.ret u) => CE outer P w H s Q u s'
  | .ok _ => False
  | .error e => CX outer H s E e s'
structure FnOk (P : Program) (w : World) (K : PySem.W.Frag) (mg : Str → Option Value) (base : Heap) (CX : CXT) (k : Nat) (f : Addr) (fd : FuncData) (ps : List Str) (sp : Sp) : Prop where
  len : ∀ vs H Q E, sp vs H Q E → vs.length = ps.length
  run : ∀ (A : Around) (outer : List Env) (s : Shared) (H : Hp) (args : Args) (us : List Value) (vs : List V) (Q : VK) (E : XK), Room k A → Env0 P w K mg base A outer s H → BindsTo s fd args (ps.zip us) → Vals vs us → sp vs H Q E →
    codeAny (model P w) A (.call (.ref f) args) (CR CX outer P w H s Q E) s


section
variable {X : Cx} {pins : List (Addr × Obj)} {σ : St} {H : Hp} {s s' : Shared}
/-- from a body: what a callee wants -/
theorem Inv.env0 (I : Inv X pins σ H s) : Env0 X.prog X.w X.K X.mg X.base X.A X.stack s H :=
  ⟨I.ok.frames, I.ok.mod, I.bs, Nat.le_trans I.ok.bsz I.sz, I.stack, I.stkFree, I.hok, I.bare⟩
/-- behind a call -/
theorem Inv.after {Q : VK} {u : Value} (I : Inv X pins σ H s) (h : CE X.stack X.prog X.w H s Q u s') : EP X pins σ Q u s' := by
  obtain ⟨v, H', os, bare, un, hok, r, q⟩ := h
  obtain ⟨hh, g, d, t, os'⟩ := s'
  obtain rfl : os' = s.os := os
  exact ⟨v, H', I.call (h' := hh) (g' := g) (d' := d) (t' := t) (ch := []) un hok bare (fun b z => absurd z (by simp)), r, q⟩
end

/-! ### calls -/
/-- f(..): the written arguments, then the defaults dvs; E: what is wanted of an exception -/
def tCall (sp : Sp) (dvs : List V) (E : XK) (t : TA) : TE := fun σ H Q => t σ H fun vs H1 => sp (vs ++ dvs) H1 Q E

/-- how the parameters are bound: us the positional arguments, kw the keywords' values by name, ds the defaults that fill up -/
def Binds (K : PySem.W.Frag) (fd : FuncData) (ps : List Str) (ds : List Value) : Prop :=
  ∀ (s : Shared) (us : List Value), K.In s.heap → (us ++ ds).length = ps.length → BindsTo s fd ⟨us, []⟩ (ps.zip (us ++ ds))
/-- every parameter is given -/
theorem Binds.all {K : PySem.W.Frag} {fd : FuncData} {ps : List Str} (h : ∀ us : List Value, us.length = ps.length → bindArgs fd ⟨us, []⟩ = pure (ps.zip us)) : Binds K fd ps [] := fun s us _ hl => by
  rw [List.append_nil] at hl ⊢
  exact .of_eq (h us hl)

/-- an exception of a callee reaches what this body wants of exceptions -/
def Passes (CX : CXT) (X : Cx) (E : XK) : Prop := ∀ (pins : List (Addr × Obj)) (σ : St) (H : Hp) (s : Shared) (e : Value) (s' : Shared), Inv X pins σ H s → CX X.stack H s E e s' → X.xe e s'

section
variable {X : Cx} {CX : CXT} {k : Nat} {f C : Addr} {fd : FuncData} {ps : List Str} {sp : Sp} {dvs : List V} {ds : List Value} {E : XK} {x m : Str} {p pos apos : Pos} {e o : Expr} {es : List Expr} {ta : TE} {t : TA}

/-- the callee runs -/
theorem run_fn {pins : List (Addr × Obj)} {σ : St} {H : Hp} {s : Shared} {Q : VK} {us : List Value} {vs : List V} (F : FnOk X.prog X.w X.K X.mg X.base CX k f fd ps sp) (hr : Room k X.A) (hb : Binds X.K fd ps ds) (hd : Vals dvs ds) (hx : Passes CX X E)
    (I : Inv X pins σ H s) (r : Vals vs us) (h : sp (vs ++ dvs) H Q E) : wpAny (model X.prog X.w) X.A (call (.ref f) us) (EP X pins σ Q) X.xe s := by
  have r2 : Vals (vs ++ dvs) (us ++ ds) := r.append hd
  have hl : (us ++ ds).length = ps.length := by rw [← r2.length]; exact F.len _ _ _ _ h
  refine wpAny_call (codeAny_mono (F.run X.A X.stack s H ⟨us, []⟩ (us ++ ds) (vs ++ dvs) Q E hr I.env0 (hb s us I.kIn hl) r2 h) fun r s' hq => ?_)
  cases r with
  | error e => exact hx pins σ H s e s' I hq
  | ok fl =>
    cases fl with
    | ret u => exact I.after hq
    | next => exact False.elim hq
    | brk => exact False.elim hq
    | cont => exact False.elim hq

theorem pe_call (F : FnOk X.prog X.w X.K X.mg X.base CX k f fd ps sp) (hr : Room k X.A) (hg : Gl X x) (hm : X.mg x = some (.ref f)) (hk : PySem.W.keepIn X.K (.ref f) = true) (hb : Binds X.K fd ps ds) (hd : Vals dvs ds) (hx : Passes CX X E)
    (ha : PA X (e :: es) t) (hdb : (x == ("__debug__" : Str)) = false := by decide) (he : starEach (e :: es) X.env = (false, eval e X.env) :: starEach es X.env := by rfl) (hpl : (backTo pos (starEach es X.env)).any (·.1) = false := by rfl) :
    PE X (.Call (.Name x p) (e :: es) [] pos) (tCall sp dvs E t) := by
  intro pins s σ H Q I h
  refine wpAny_Call_Name_kw (ld_glob I hg hm ?_ hdb)
  refine PySem.W.callWith_K (h₀ := X.base) I.ok.mod.kin hk (thn (ha pos pins s σ H _ I h) fun us s1 ⟨vs, H1, I1, r, q⟩ => ⟨I1.kIn, ?_⟩) he hpl
  exact run_fn F hr hb hd hx I1 r q



end

/-! ### keywords -/
section
variable {X : Cx} {CX : CXT} {k : Nat} {f C : Addr} {fd : FuncData} {ps ks : List Str} {sp : Sp} {E : XK} {x m : Str} {p pos apos kpos : Pos} {e o : Expr} {es : List Expr} {kws : List Keyword} {te ta : TE} {t tk : TA} {nm : Option Str}

variable {g : List Value → List Value → List Value} {gV : List V → List V → List V}
end

/-! ### a def's body keeps its promise -/
/-- names: the parameters first -/
structure FnScope (N P : List Str) (sc : Scope) : Prop where
  kind : sc.kind = .function
  co : sc.isCoroutine = false
  gen : sc.isGenerator = false
  nd : N.Nodup
  pre : N.take P.length = P
  par : ∀ x ∈ P, sc.names.lookup x = some .local ∨ sc.names.lookup x = some .cell
  nofree : ∀ y ∈ sc.names, y.2 ≠ .free

theorem bindL_out {kindOf : Str → Option NameKind} {x : Str} : ∀ {binds : List (Str × Value)} {m : Str → Option Value}, (∀ v, (x, v) ∉ binds) → bindL kindOf binds m x = m x
  | [], _, _ => rfl
  | (n, v) :: r, m, h => by
    unfold bindL
    rw [bindL_out fun w hw => h w (List.mem_cons_of_mem _ hw)]
    split
    · have : x ≠ n := by rintro rfl; exact h v List.mem_cons_self
      simp [this]
    · rfl
theorem bindC_out {kindOf : Str → Option NameKind} {x : Str} : ∀ {binds : List (Str × Value)} {m : Str → Option Value}, (∀ v, (x, v) ∉ binds) → bindC kindOf binds m x = m x
  | [], _, _ => rfl
  | (n, v) :: r, m, h => by
    unfold bindC
    rw [bindC_out fun w hw => h w (List.mem_cons_of_mem _ hw)]
    split
    · rfl
    · have : x ≠ n := by rintro rfl; exact h v List.mem_cons_self
      simp [this]
theorem bindL_get {kindOf : Str → Option NameKind} {x : Str} {v : Value} : ∀ {P : List Str} {vs : List Value} {i : Nat} {m : Str → Option Value}, P.Nodup → P[i]? = some x → vs[i]? = some v → kindOf x = some .local →
    bindL kindOf (P.zip vs) m x = some v
  | [], _, _, _, _, h, _, _ => by simp at h
  | _ :: _, [], _, _, _, _, h, _ => by simp at h
  | p :: P, w :: vs, 0, m, nd, h1, h2, hk => by
    simp at h1 h2; subst h1; subst h2
    show bindL kindOf ((p, w) :: P.zip vs) m p = _
    unfold bindL
    rw [bindL_out fun v hv => (List.nodup_cons.mp nd).1 (List.of_mem_zip hv).1, if_pos hk]
    simp
  | p :: P, w :: vs, i + 1, m, nd, h1, h2, hk => by
    show bindL kindOf ((p, w) :: P.zip vs) m x = _
    unfold bindL
    exact bindL_get (i := i) (List.nodup_cons.mp nd).2 (by simpa using h1) (by simpa using h2) hk
theorem bindC_get {kindOf : Str → Option NameKind} {x : Str} {v : Value} : ∀ {P : List Str} {vs : List Value} {i : Nat} {m : Str → Option Value}, P.Nodup → P[i]? = some x → vs[i]? = some v → kindOf x ≠ some .local →
    bindC kindOf (P.zip vs) m x = some v
  | [], _, _, _, _, h, _, _ => by simp at h
  | _ :: _, [], _, _, _, _, h, _ => by simp at h
  | p :: P, w :: vs, 0, m, nd, h1, h2, hk => by
    simp at h1 h2; subst h1; subst h2
    show bindC kindOf ((p, w) :: P.zip vs) m p = _
    unfold bindC
    rw [bindC_out fun v hv => (List.nodup_cons.mp nd).1 (List.of_mem_zip hv).1, if_neg hk]
    simp
  | p :: P, w :: vs, i + 1, m, nd, h1, h2, hk => by
    show bindC kindOf ((p, w) :: P.zip vs) m x = _
    unfold bindC
    exact bindC_get (i := i) (List.nodup_cons.mp nd).2 (by simpa using h1) (by simpa using h2) hk

/-- the names' values at the entry -/
def start (N : List Str) (vs : List V) : St := vs.map some ++ List.replicate (N.length - vs.length) none

/-- the context of a def's body, at its entry; an exception leaves the frame, then lies as CX says -/
def cxOf (CX : CXT) (P : Program) (w : World) (K : PySem.W.Frag) (mg : Str → Option Value) (base : Heap) (N : List Str) (qual : Str) (scope : Scope) (f : Addr) (cd : Value) (A : Around) (outer : List Env) (s : Shared) (H : Hp) (E : XK) : Cx where
  prog := P
  w := w
  K := K
  mg := mg
  base := base
  A := A.deeper (envOfC qual scope s.heap.objs.size f cd)
  N := N
  s₀ := s
  H₀ := H
  env := envOfC qual scope s.heap.objs.size f cd
  outer := outer
  stack := envOfC qual scope s.heap.objs.size f cd :: outer
  ex := []
  calm := true
  fn := fun _ => true
  pn := []
  xe := fun e s' => wpAny (model P w) (A.deeper (envOfC qual scope s.heap.objs.size f cd)) (leaving (envOfC qual scope s.heap.objs.size f cd) e) (fun _ s'' => CX outer H s E e s'') (fun e' s'' => CX outer H s E e' s'') s'

theorem cell_has {sc : Scope} {n : Nat} {x : Str} (h : sc.names.lookup x = some .cell) : ∃ c, (cellsFrom n sc.names []).lookup x = some c := by
  have q := PySem.W.cellsFrom_some sc.names n [] (.inl h)
  exact Option.isSome_iff_exists.mp q

theorem inv_start {CX : CXT} {P : Program} {w : World} {K : PySem.W.Frag} {mg : Str → Option Value} {base : Heap} {N ps : List Str} {qual : Str} {scope : Scope} {f : Addr} {cd : Value} {A : Around} {outer : List Env} {s s1 : Shared} {H : Hp} {E : XK} {us : List Value} {vs : List V}
    (S : FnScope N ps scope) (hd : A.handled = none) (e0 : Env0 P w K mg base A outer s H) (hl : vs.length = ps.length) (r : Vals vs us)
    (x : InCallC s s.heap.objs.size (bindL (envOfC qual scope s.heap.objs.size f cd).kindOf (ps.zip us) fun _ => none) (cellsFrom (s.heap.objs.size + 1) scope.names []) (bindC (envOfC qual scope s.heap.objs.size f cd).kindOf (ps.zip us) fun _ => none) s1) :
    Inv (cxOf CX P w K mg base N qual scope f cd A outer s H E) [] (start N vs) H s1 := by
  have hpl : ps.length ≤ N.length := by have := congrArg List.length S.pre; rw [List.length_take] at this; omega
  obtain ⟨h1, tk, rfl, hk⟩ := x.done
  have noA : ∀ b : Addr, b ∉ (cxOf CX P w K mg base N qual scope f cd A outer s H E).ex := fun b z => absurd (show b ∈ ([] : List Addr) from z) (by simp)
  refine ⟨⟨e0.mod, S.kind, rfl, rfl, Nat.le_refl _, fun y z c h1 h2 => ?_, fun y hy => ?_, fun y c _ h => ?_, fun _ => hd, Around.frames_deeper e0.frames, .inr ⟨rfl, rfl⟩, fun b z => absurd z (noA b), e0.bs, e0.bsz, fun b _ _ => noA b, fun b z => absurd z (noA b), e0.funs, e0.frf⟩,
    rfl, e0.bare, Un.kept hk, ⟨_, x.toInCall.ns, fun i y v h1 h2 h3 => ?_⟩, fun y c h => ⟨_, x.cell y c h⟩, e0.hok.fresh (Nat.le_refl _), fun y c h => ?_, fun p hp => absurd (show p ∈ ([] : List (Addr × Obj)) from hp) (by simp), e0.hok.kept hk, ?_⟩
  · exact name_of_addr x.apart (PySem.mem_of_lookup h1) (PySem.mem_of_lookup h2)
  · have hy : scope.names.lookup y = some .cell ∨ scope.names.lookup y = some .free := hy
    rcases hy with hy | hy
    · exact cell_has hy
    · exact absurd rfl (S.nofree _ (PySem.mem_of_lookup hy))
  · exact Nat.le_of_lt (x.above y c (PySem.mem_of_lookup h))
  · have hi : i < vs.length := by
      unfold start at h2
      by_cases hi : i < vs.length
      · exact hi
      · rw [List.getElem?_append_right (by simpa using hi)] at h2
        rw [List.getElem?_replicate] at h2
        split at h2 <;> cases h2
    have ha : vs[i]? = some v := by
      unfold start at h2
      rw [List.getElem?_append_left (by simpa using hi), List.getElem?_map] at h2
      cases e : vs[i]? with
      | none => rw [e] at h2; cases h2
      | some a => rw [e] at h2; cases h2; rfl
    obtain ⟨u, hu, rv⟩ := r.get ha
    have hp : ps[i]? = some y := by
      rw [← S.pre, List.getElem?_take_of_lt (by omega)]; exact h1
    have ndP : ps.Nodup := by rw [← S.pre]; exact S.nd.sublist (List.take_sublist _ _)
    refine ⟨u, rv, ?_⟩
    rcases S.par y (List.mem_of_getElem? hp) with k | k
    · exact .inl ⟨k, bindL_get ndP hp hu k⟩
    · obtain ⟨c, e⟩ := cell_has (n := s.heap.objs.size + 1) k
      refine .inr ⟨.inl k, c, e, ?_⟩
      have q := x.cell y c e
      rw [bindC_get ndP hp hu (by show scope.names.lookup y ≠ _; rw [k]; decide)] at q
      exact q
  · exact e0.hok.fresh (Nat.le_of_lt (x.above y c (PySem.mem_of_lookup h)))
  · unfold start
    show _ = N.length
    rw [List.length_append, List.length_map, List.length_replicate]
    omega

/-- THE RULE: a def (or a method) of the text, by its body. The body's reading t is chosen for each entry; it is run at the parameters' values -/
theorem fn_of {CX : CXT} {P : Program} {w : World} {K : PySem.W.Frag} {mg : Str → Option Value} {base : Heap} {k : Nat} {f : Addr} {name qual : Str} {params : Arguments} {body : List Stmt} {scope : Scope} {dV kV doc pm cdv ct oc : Value} {an od : Option Addr}
    {osl : Array (Option Value)} {N ps : List Str} {sp : Sp} (lk : K.lookup f = some ⟨oc, od, .func (PySem.W.fnOf name qual params body scope dV kV doc pm an cdv ct), osl⟩) (hcd : PySem.W.codeIn K cdv qual = true) (S : FnScope N ps scope)
    (len : ∀ vs H Q E, sp vs H Q E → vs.length = ps.length)
    (hbody : ∀ (A : Around) (outer : List Env) (s : Shared) (H : Hp) (vs : List V) (Q : VK) (E : XK), Room k (A.deeper (envOfC qual scope s.heap.objs.size f cdv)) → sp vs H Q E →
      ∃ t, PSs (cxOf CX P w K mg base N qual scope f cdv A outer s H E) body t ∧ t { nx := fun _ H' => Q .non H', rt := Q } (start N vs) H) :
    FnOk P w K mg base CX (k + 1) f (PySem.W.fnOf name qual params body scope dV kV doc pm an cdv ct) ps sp := by
  refine ⟨len, fun A outer s H args us vs Q E hr e0 hb r hsp => ?_⟩
  have hl := len _ _ _ _ hsp
  have KX : K.In s.heap := e0.mod.kin.keeps fun b o e => (e0.bs b o e).1
  have lim : s.heap.NoLimit := e0.mod.nolimit.keeps fun b o e => (e0.bs b o e).1
  have hkind : ∀ y ∈ ps.zip us, scope.names.lookup y.1 = some .local ∨ (scope.names.lookup y.1 = some .cell ∧ ((cellsFrom (s.heap.objs.size + 1) scope.names []).lookup y.1).isSome = true) := fun ⟨n, v⟩ hy => by
    rcases S.par n (List.of_mem_zip hy).1 with q | q
    · exact .inl q
    · exact .inr ⟨q, PySem.W.cellsFrom_some _ _ _ (.inl q)⟩
  refine codeAny_call_function hr.depth (KX _ _ lk) rfl S.co S.gen rfl (PySem.W.codeRec_of KX hcd) (hb _ _ _ _ ?_)
  refine wpAny_newFunctionEnv_cells S.kind hkind fun env he s1 x => ?_
  subst he
  refine ⟨lim.keeps x.toInCall.keep, codeAny_func ?_⟩
  obtain ⟨t, ht, hq⟩ := hbody A outer s H vs Q E (hr.deeper _) hsp
  have I : Inv (cxOf CX P w K mg base N qual scope f cdv A outer s H E) [] (start N vs) H s1 := inv_start S hr.hd e0 hl r x
  refine wpAny_mono (ht [] s1 (start N vs) H _ I hq) (fun fl s' hs => ?_) fun e s' hs => hs
  have fin : ∀ {σ' : St} {H' : Hp} {v : V} {u : Value}, Inv (cxOf CX P w K mg base N qual scope f cdv A outer s H E) [] σ' H' s' → RelV v u → Q v H' → CE outer P w H s Q u s' :=
    fun {σ' H' v u} J rv q => ⟨v, H', J.os, J.bare, J.base, J.hok, rv, q⟩
  cases fl with
  | ret u =>
    obtain ⟨v, σ', H', J, rv, q⟩ := hs
    exact fin J rv q
  | next =>
    obtain ⟨σ', H', J, q⟩ := hs
    exact fin (v := V.non) (u := Value.none) J rfl q
  | brk =>
    obtain ⟨_, _, _, q⟩ := hs
    exact False.elim q
  | cont =>
    obtain ⟨_, _, _, q⟩ := hs
    exact False.elim q
end L2

namespace L2
open PySem PySem.Spec PyProof.Rows
section
variable {X : Cx} {x : Str} {p pos : Pos} {e : Expr} {es : List Expr} {t : TA} {id T : String} {r : List V → Hp → VK → Prop}

def tCB (r : List V → Hp → VK → Prop) (t : TA) : TE := fun σ H Q => t σ H fun vs H1 => r vs H1 Q
/-- f(e, ..), f a built-in function -/
theorem pe_callB (hc : CallR X (.builtin id) r) (hg : Gl X x) (hm : X.mg x = none) (hv : bootBuiltins x = some (.builtin id)) (ha : PA X (e :: es) t) (hn : x ≠ "__name__" := by decide) (hdb : (x == ("__debug__" : Str)) = false := by decide)
    (he : starEach (e :: es) X.env = (false, eval e X.env) :: starEach es X.env := by rfl) (hpl : (backTo pos (starEach es X.env)).any (·.1) = false := by rfl) : PE X (.Call (.Name x p) (e :: es) [] pos) (tCB r t) := by
  intro pins s σ H Q I h
  refine wpAny_Call_Name_kw (ld_blt I hg hm hv ?_ hn hdb)
  exact PyProof.Rows.callWith_builtin1 (thn (ha pos pins s σ H _ I h) fun us s1 ⟨vs, H1, I1, r1, q1⟩ => hc pins s1 σ H1 vs us Q I1 r1 q1) he hpl
/-- T(e, ..), T a built-in type -/
theorem pe_callTy (hc : CallR X (.type T) r) (hg : Gl X x) (hm : X.mg x = none) (hv : bootBuiltins x = some (.type T)) (ha : PA X (e :: es) t) (hn : x ≠ "__name__" := by decide) (hdb : (x == ("__debug__" : Str)) = false := by decide)
    (he : starEach (e :: es) X.env = (false, eval e X.env) :: starEach es X.env := by rfl) (hpl : (backTo pos (starEach es X.env)).any (·.1) = false := by rfl) : PE X (.Call (.Name x p) (e :: es) [] pos) (tCB r t) := by
  intro pins s σ H Q I h
  refine wpAny_Call_Name_kw (ld_blt I hg hm hv ?_ hn hdb)
  exact PyProof.Rows.callWith_type1 (thn (ha pos pins s σ H _ I h) fun us s1 ⟨vs, H1, I1, r1, q1⟩ => hc pins s1 σ H1 vs us Q I1 r1 q1) he hpl
end
end L2

namespace HT
open PySem PyProof.Rows



section
open PySem.SeqAt
open PySem.AutoSeq1 (wpAny_loadPart')
open PySem.MeetsSeq PySem.MeetsSeq2 PySem.MeetsSeq3

end

section
variable {prog : Program} {w : World} {A : Around} {E : Value → Shared → Prop} {s : Shared}



/-! ### t[a:b], not the whole -/
/-- a slice's bound as a place among n (d where it is left out) -/
def sIx (n d : Nat) : Option Int → Nat
  | none => d
  | some v => if v < 0 then (v + (n : Int)).toNat else min v.toNat n

end
end HT

namespace L2
open PySem PySem.Spec PyProof.Rows

/-! ### the parts of a slice -/
abbrev TO := St → Hp → (Option Int → Hp → Prop) → Prop
/-- a slice's part (left out, or an int) -/
def PO (X : Cx) (e : Option Expr) (t : TO) : Prop :=
  ∀ (pins : List (Addr × Obj)) (s : Shared) (σ : St) (H : Hp) (Q : Option Int → Hp → Prop), Inv X pins σ H s → t σ H Q →
    wpAny (model X.prog X.w) X.A (evalPart e X.env) (fun u s' => ∃ o H', Inv X pins σ H' s' ∧ IsPart u o ∧ Q o H') X.xe s
def tNoPart : TO := fun _ H Q => Q none H
def tPart (t : TE) : TO := fun σ H Q => t σ H fun x H1 => ∃ i, x = .int i ∧ Q (some i) H1


section
variable {X : Cx} {e : Expr} {te : TE} {lo hi : Option Expr} {tl th : TO} {pos p2 : Pos}

theorem po_none : PO X none tNoPart := by
  intro pins s σ H Q I h
  rw [evalPart_none]
  exact wpAny_pure ⟨none, H, I, .none, h⟩
theorem po_some (h : PE X e te) : PO X (some e) (tPart te) := by
  intro pins s σ H Q I hw
  rw [evalPart_some]
  refine thn (h pins s σ H _ I hw) fun u s1 ⟨x, H1, I1, r1, q1⟩ => ?_
  obtain ⟨i, rfl, q⟩ := q1
  obtain ⟨t, rfl⟩ := r1
  exact ⟨some i, H1, I1, .int i t, q⟩

/-- what a slice of a value is, by values: the slice object stands at sl -/
def SlR (X : Cx) (r : V → Option Int → Option Int → Hp → VK → Prop) : Prop :=
  ∀ (pins : List (Addr × Obj)) (s : Shared) (σ : St) (H : Hp) (x : V) (v vl vu : Value) (lo hi : Option Int) (sl : Addr) (Q : VK), Inv X pins σ H s → RelV x v → s.heap.IsSliceOf sl vl vu .none → IsPart vl lo → IsPart vu hi → r x lo hi H Q →
    ∃ T id, typeLookup (.type T) "__getitem__" = pure (some (.builtin id)) ∧ s.TypeIs v T ∧ wpAny (model X.prog X.w) X.A (getItem v (.ref sl)) (EP X pins σ Q) X.xe s
def tSl (r : V → Option Int → Option Int → Hp → VK → Prop) (te : TE) (tl th : TO) : TE := fun σ H Q => te σ H fun x H1 => tl σ H1 fun l H2 => th σ H2 fun u H3 => r x l u H3 Q
/-- a[lo:hi], any a -/
theorem pe_slice {r : V → Option Int → Option Int → Hp → VK → Prop} (hr : SlR X r) (he : PE X e te) (hl : PO X lo tl) (hu : PO X hi th) : PE X (.Subscript e (.Slice lo hi none p2) pos) (tSl r te tl th) := by
  intro pins s σ H Q I h
  refine Subscript_ (thn (he pins s σ H _ I h) fun v s1 ⟨x, H1, I1, r1, q1⟩ => ?_)
  refine wpAny_Slice (thn (hl pins s1 σ H1 _ I1 q1) fun vl s2 ⟨l, H2, I2, pl, q2⟩ => thn (hu pins s2 σ H2 _ I2 q2) fun vu s3 ⟨u, H3, I3, pu, q3⟩ => ?_)
  rw [evalPart_none]
  refine wpAny_pure ?_
  have I4 : Inv X pins σ H3 { s3 with heap := s3.heap.push { cls := .type "slice", data := .fields #[vl, vu, .none] } } := I3.kept (t' := s3.toks) fun b ob q => Heap.get?_push_of_some _ q
  obtain ⟨T, id, hT, ht, hg⟩ := hr pins { s3 with heap := s3.heap.push { cls := .type "slice", data := .fields #[vl, vu, .none] } } σ H3 x v vl vu l u s3.heap.objs.size Q I4 r1 (Heap.IsSliceOf.new ..) pl pu q3
  show wpAny (model X.prog X.w) X.A (subscriptTail e (.Slice lo hi none p2) v (.ref s3.heap.objs.size)) (EP X pins σ Q) X.xe { s3 with heap := s3.heap.push { cls := .type "slice", data := .fields #[vl, vu, .none] } }
  exact tail_any (ops := [.ref s3.heap.objs.size, v]) ht hT hg (by with_unfolding_all rfl)

/-- the items of xs[lo:hi] -/
def cutV (xs : List V) (lo hi : Option Int) : List V := (xs.drop (HT.sIx xs.length 0 lo)).take (HT.sIx xs.length xs.length hi - HT.sIx xs.length 0 lo)
theorem cutV_length (xs : List V) (lo hi : Option Int) : (cutV xs lo hi).length ≤ xs.length := by
  unfold cutV
  rw [List.length_take, List.length_drop]
  omega

/-! ### t < u, t + u -/
end
end L2

namespace L2
open PySem PySem.Spec PyProof.Rows

/-! ### places -/
/-- the place that an index of any sign means -/
def ixN (n : Nat) (i : Int) : Option Nat := if 0 ≤ i then (if i < n then some i.toNat else none) else if -(n : Int) ≤ i then some (i + n).toNat else none
def atI {α : Type} (xs : List α) (i : Int) : Option α := (ixN xs.length i).bind fun j => xs[j]?
theorem ixN_seq {n : Nat} {i : Int} {j : Nat} (h : ixN n i = some j) : seqIndex? i n = some j ∧ j < n ∧ -(n : Int) ≤ i ∧ i < n := by
  unfold ixN at h
  by_cases h0 : 0 ≤ i
  · rw [if_pos h0] at h
    by_cases h1 : i < n
    · rw [if_pos h1] at h
      have e : i.toNat = j := Option.some.inj h
      exact ⟨by rw [seqIndex_of h0 h1, e], by omega, by omega, h1⟩
    · rw [if_neg h1] at h; cases h
  · rw [if_neg h0] at h
    by_cases h1 : -(n : Int) ≤ i
    · rw [if_pos h1] at h
      have e : (i + n).toNat = j := Option.some.inj h
      exact ⟨by rw [seqIndex_neg (by omega) h1, e], by omega, h1, by omega⟩
    · rw [if_neg h1] at h; cases h
theorem atI_get {α : Type} {xs : List α} {i : Int} {v : α} (h : atI xs i = some v) : ∃ j, seqIndex? i xs.length = some j ∧ xs[j]? = some v ∧ j < xs.length ∧ -(xs.length : Int) ≤ i ∧ i < xs.length := by
  unfold atI at h
  cases e : ixN xs.length i with
  | none => rw [e] at h; cases h
  | some j =>
    rw [e] at h
    obtain ⟨h1, h2, h3, h4⟩ := ixN_seq e
    exact ⟨j, h1, h, h2, h3, h4⟩
theorem atI_nat {α : Type} {xs : List α} {j : Nat} {v : α} (h : xs[j]? = some v) : atI xs (j : Int) = some v := by
  have hj : j < xs.length := (List.getElem?_eq_some_iff.mp h).1
  have e : ixN xs.length (j : Int) = some j := by
    unfold ixN
    rw [if_pos (by omega), if_pos (by omega)]; simp
  unfold atI; rw [e]; exact h

/-! ### what may be subscripted -/
/-- what stands as an index of a plain subscript -/
def PlainIx (b : Expr) : Prop := ∀ o i, subscripted b false o i = operate [o, i] (getItem o i)
/-- a subscript by values -/
def IxR (X : Cx) (r : R2) : Prop :=
  ∀ (value slice : Expr) (pins : List (Addr × Obj)) (s : Shared) (σ : St) (H : Hp) (x y : V) (v u : Value) (Q : VK), Inv X pins σ H s → RelV x v → RelV y u → r x y H Q →
    subscripted slice false v u = operate [v, u] (getItem v u) → wpAny (model X.prog X.w) X.A (subscriptTail value slice v u) (EP X pins σ Q) X.xe s
section
variable {X : Cx} {a b : Expr} {ta tb : TE} {pos : Pos}
/-- a[b] -/
theorem pe_ix {r : R2} (hr : IxR X r) (ha : PE X a ta) (hb : PE X b tb) (hs : PlainIx b) : PE X (.Subscript a b pos) (tOp r ta tb) := by
  intro pins s σ H Q I h
  exact Subscript_ (binT ha hb I h fun v u s2 x y H2 I2 rx ry q => hr a b pins s2 σ H2 x y v u Q I2 rx ry q (hs _ _))

def rIxL (K : PySem.W.Frag) : R2 := fun x y H Q => ∃ p xs i v, x = .ref p ∧ y = .int i ∧ SqL K H p xs ∧ atI xs i = some v ∧ Q v H
def rIxT (K : PySem.W.Frag) : R2 := fun x y H Q => ∃ p xs i v, x = .ref p ∧ y = .int i ∧ SqT K H p xs ∧ atI xs i = some v ∧ Q v H
theorem ix_list : IxR X (rIxL X.K) := by
  intro value slice pins s σ H x y v u Q I rx ry h hs
  obtain ⟨p, xs, i, z, rfl, rfl, hq, he, q⟩ := h
  cases rx
  obtain ⟨t, rfl⟩ := ry
  obtain ⟨its, r, pl, hz⟩ := I.list hq
  obtain ⟨j, h1, h2, h3, h4, h5⟩ := atI_get he
  obtain ⟨w, ew, rw'⟩ := r.get h2
  have hl := r.length
  have hn := line63
  have fin : EP X pins σ Q w s := ⟨z, H, I, rw', q⟩
  by_cases h0 : 0 ≤ i
  · have hj : i.toNat = j := by
      rw [seqIndex_of h0 h5] at h1
      exact Option.some.inj h1
    exact item_listR pl.isList h0 (by omega) (by rw [hj]; simpa using ew) fin hs
  · have hj : (i + (its.toArray.size : Int)).toNat = j := by
      rw [seqIndex_neg (by omega) h4] at h1
      rw [List.size_toArray, ← hl]
      exact Option.some.inj h1
    exact subscriptTail_builtinR (x := w) pl.isList.typeIs slot_list_getitem.lookup
      (wpAny_getItem_list_neg (Q := fun r s' => r = w ∧ EP X pins σ Q r s') pl.isList (by omega) (by rw [List.size_toArray] <;> omega) (by omega) (by rw [hj]; simpa using ew) ⟨rfl, fin⟩) hs
theorem ix_tup : IxR X (rIxT X.K) := by
  intro value slice pins s σ H x y v u Q I rx ry h hs
  obtain ⟨p, xs, i, z, rfl, rfl, hq, he, q⟩ := h
  cases rx
  obtain ⟨t, rfl⟩ := ry
  obtain ⟨its, r, pl, hz⟩ := I.tuple hq
  obtain ⟨j, h1, h2, h3, h4, h5⟩ := atI_get he
  obtain ⟨w, ew, rw'⟩ := r.get h2
  have hl := r.length
  have hn := line63
  have fin : EP X pins σ Q w s := ⟨z, H, I, rw', q⟩
  exact subscriptTail_builtinR (x := w) pl.typeIs slot_tuple_getitem.lookup
    (getItem_tuple (j := j) (Q := fun r s' => r = w ∧ EP X pins σ Q r s') pl (by omega) (by omega) (by rw [List.size_toArray, ← hl]; exact h1) (by simpa using ew) ⟨rfl, fin⟩) hs

/-! ### xs[i] = v, any sign -/
/-- the list's object behind a store -/
theorem mapSeq_set (its : List Value) (n j : Nat) (u : Value) : Obj.mapSeq (·.setIfInBounds j u) { cls := .type "list", data := .seq its.toArray n } = { cls := .type "list", data := .seq (its.set j u).toArray n } := by
  simp [Obj.mapSeq]
theorem Inv.lst {pins : List (Addr × Obj)} {σ : St} {H : Hp} {s : Shared} {p : Addr} {xs : List V} (I : Inv X pins σ H s) (h : H p = some (.lst xs)) :
    ∃ (its : List Value) (n : Nat), Vals xs its ∧ s.heap.get? p = some { cls := .type "list", data := .seq its.toArray n } ∧ xs.length ≤ sizeLine := by
  obtain ⟨z, its, n, r, e⟩ := I.hok p _ h
  exact ⟨its, n, r, e, z⟩
/-- the list at p is written by an update of its object -/
theorem Inv.lstUpd {pins : List (Addr × Obj)} {σ : St} {H : Hp} {s : Shared} {p : Addr} {xs ys : List V} {its its' : List Value} {n n' : Nat} {f : Obj → Obj} (I : Inv X pins σ H s) (h : H p = some (.lst xs))
    (ho : s.heap.get? p = some { cls := .type "list", data := .seq its.toArray n }) (hf : f { cls := .type "list", data := .seq its.toArray n } = { cls := .type "list", data := .seq its'.toArray n' }) (r : Vals ys its') (hz : ys.length ≤ sizeLine) (t : Nat) :
    Inv X pins σ (upd H p (.lst ys)) { s with heap := s.heap.update p f, toks := t } := by
  have e : (s.heap.update p f).get? p = some { cls := .type "list", data := .seq its'.toArray n' } := by
    rw [Heap.get?_update_self f ho (by rw [hf] <;> rfl), hf]
  refine I.write (x := p) (e := p) (by rw [h]; trivial) (.inl rfl) (fun b u hb q => (Heap.get?_update_other _ _ (Ne.symm hb)).trans q) ⟨_, e⟩ ?_
  exact ⟨hz, its', n', r, e⟩
def rSetL : V → V → V → Hp → (Hp → Prop) → Prop := fun o i v H Q => ∃ p xs k j, o = .ref p ∧ i = .int k ∧ H p = some (.lst xs) ∧ ixN xs.length k = some j ∧ Q (upd H p (.lst (xs.set j v)))
theorem set_list : PSet X rSetL := by
  intro pins s σ H o i v ov iv u Q I ro ri rv h
  obtain ⟨p, xs, k, j, rfl, rfl, hp, hj, q⟩ := h
  cases ro
  obtain ⟨t, rfl⟩ := ri
  obtain ⟨its, n, r, ho, hz⟩ := I.lst hp
  obtain ⟨h1, h2, h3, h4⟩ := ixN_seq hj
  have hl := r.length
  have hn := line63
  have I' : Inv X pins σ (upd H p (.lst (xs.set j v))) { s with heap := s.heap.update p (Obj.mapSeq (·.setIfInBounds j u)) } :=
    I.lstUpd hp ho (mapSeq_set its n j u) (r.set rv j) (by rw [List.length_set]; exact hz) s.toks
  by_cases h0 : 0 ≤ k
  · have hk : k.toNat = j := by
      rw [seqIndex_of h0 h4] at h1
      exact Option.some.inj h1
    exact PySem.W.ki_setAt ho h0 (by omega) (by rw [List.size_toArray, ← hl]; exact h4) (by rw [hk]; exact ⟨_, I', q⟩)
  · have hk : (k + (its.toArray.size : Int)).toNat = j := by
      rw [seqIndex_neg (by omega) h3] at h1
      rw [List.size_toArray, ← hl]
      exact Option.some.inj h1
    exact PySem.W.ki_setBack ho (by omega) (by rw [List.size_toArray, ← hl]; exact h3) (by omega) (by rw [hk]; exact ⟨_, I', q⟩)

/-! ### slices -/
theorem slice_bounds (lo hi : Option Int) (n : Nat) : (sliceBounds lo hi none n).1 = ((HT.sIx n 0 lo : Nat) : Int) ∧ (sliceBounds lo hi none n).2.1 = ((HT.sIx n n hi : Nat) : Int) ∧ (sliceBounds lo hi none n).2.2 = 1 := by
  refine ⟨?_, ?_, rfl⟩
  · cases lo with
    | none => simp [sliceBounds, HT.sIx]
    | some i =>
      simp only [sliceBounds, HT.sIx, Option.getD_none, show (1 : Int) > 0 by decide, if_true]
      by_cases h : i < 0
      · simp only [h, if_true] <;> omega
      · simp only [h, if_false] <;> omega
  · cases hi with
    | none => simp [sliceBounds, HT.sIx]
    | some i =>
      simp only [sliceBounds, HT.sIx, Option.getD_none, show (1 : Int) > 0 by decide, if_true]
      by_cases h : i < 0
      · simp only [h, if_true] <;> omega
      · simp only [h, if_false] <;> omega
theorem slicePick_cut (its : List Value) (lo hi : Option Int) : slicePick its.toArray lo hi none = ((its.drop (HT.sIx its.length 0 lo)).take (HT.sIx its.length its.length hi - HT.sIx its.length 0 lo)).toArray := by
  obtain ⟨h1, h2, h3⟩ := slice_bounds lo hi its.toArray.size
  unfold slicePick
  rw [h1, h2, h3]
  simp only [sliceRange_one, pick_run, List.size_toArray] <;> rfl
/-- xs[lo:hi] of a list: a new list -/
def rSlL (K : PySem.W.Frag) : V → Option Int → Option Int → Hp → VK → Prop := fun x lo hi H Q => ∃ a xs, x = .ref a ∧ SqL K H a xs ∧ ∀ p, H p = none → Q (.ref p) (upd H p (.lst (cutV xs lo hi)))
theorem sl_list : SlR X (rSlL X.K) := by
  intro pins s σ H x v vl vu lo hi sl Q I rx hs pl pu h
  obtain ⟨a, xs, rfl, hx, q⟩ := h
  cases rx
  obtain ⟨its, r, ht, hz⟩ := I.list hx
  have hlen := r.length
  refine ⟨"list", _, slot_list_getitem.lookup, ht.isList.typeIs, ?_⟩
  refine wpAny_getItem_list_slice ht.isList hs pl pu .none (by simp) ?_ (by rw [List.size_toArray] <;> omega)
  rw [slicePick_cut, ← hlen]
  refine ⟨.ref s.heap.objs.size, _, I.laid (t' := s.toks) (o := .lst (cutV xs lo hi)) (fun b ob q => Heap.get?_push_of_some _ q) (Nat.le_refl _) ?_, rfl, q _ (I.hok.fresh (Nat.le_refl _))⟩
  exact ⟨Nat.le_trans (cutV_length xs lo hi) hz, _, 0, (r.drop (HT.sIx xs.length 0 lo)).take (HT.sIx xs.length xs.length hi - HT.sIx xs.length 0 lo), Heap.get?_push_size _ rfl⟩

/-! ### in, not in: flat items -/

/-! ### len, list(x), tuple(x) of any list or tuple that is read -/
theorem call_len_seq : CallR X (.builtin "len") (fun xs H Q => ∃ p ys, xs = [.ref p] ∧ (SqL X.K H p ys ∨ SqT X.K H p ys) ∧ Q (.int ys.length) H) := by
  intro pins s σ H xs us Q I r h
  obtain ⟨p, ys, rfl, hq, q⟩ := h
  obtain ⟨u, rfl, rx⟩ := vals1 r
  cases rx
  have hn := line63
  rcases hq with hq | hq
  · obtain ⟨its, r', pl, hz⟩ := I.list hq
    have hlen := r'.length
    exact Calls.call_len_list pl.isList (by simp only [List.size_toArray] <;> omega) ⟨.int ys.length, H, I.tok _, ⟨s.toks + 1, by rw [List.size_toArray, hlen]⟩, q⟩
  · obtain ⟨its, r', pl, hz⟩ := I.tuple hq
    have hlen := r'.length
    exact len_tuple pl (by simp only [List.size_toArray] <;> omega) ⟨.int ys.length, H, I.tok _, ⟨s.toks + 1, by rw [List.size_toArray, hlen]⟩, q⟩
theorem call_list_of : CallR X (.type "list") (fun xs H Q => ∃ p ys, xs = [.ref p] ∧ (SqL X.K H p ys ∨ SqT X.K H p ys) ∧ ∀ l, H l = none → Q (.ref l) (upd H l (.lst ys))) := by
  intro pins s σ H xs us Q I r h
  obtain ⟨p, ys, rfl, hq, q⟩ := h
  obtain ⟨u, rfl, rx⟩ := vals1 r
  cases rx
  have fin : ∀ (its : List Value), Vals ys its → ys.length ≤ sizeLine → ∀ (h' : Heap) (c' : Nat), (∀ b o', s.heap.get? b = some o' → h'.get? b = some o') →
      h'.get? s.heap.objs.size = some { cls := .type "list", dict := none, data := .seq its.toArray c', slots := #[] } → EP X pins σ Q (.ref s.heap.objs.size) { s with heap := h' } := fun its r' hz h' c' kp e =>
    ⟨.ref s.heap.objs.size, _, I.laid (t' := s.toks) kp (Nat.le_refl _) (show ObjOk X.prog X.w _ h' _ (.lst ys) from ⟨hz, its, c', r', e⟩), rfl, q _ (I.hok.fresh (Nat.le_refl _))⟩
  rcases hq with hq | hq
  · obtain ⟨its, r', pl, hz⟩ := I.list hq
    have hlen := r'.length
    obtain ⟨o, ho, hc, n, hd⟩ := pl.isList
    exact call_list_seq p (.inl rfl) ho hc hd (fun h' c' kp e => fin its r' hz h' c' kp e) (by simp only [List.size_toArray] <;> omega)
  · obtain ⟨its, r', pl, hz⟩ := I.tuple hq
    have hlen := r'.length
    obtain ⟨o, ho, hc, n, hd⟩ := pl
    exact call_list_seq p (.inr rfl) ho hc hd (fun h' c' kp e => fin its r' hz h' c' kp e) (by simp only [List.size_toArray] <;> omega)

/-! ### the call of a builtin's method: o.m(..) -/
variable {o e : Expr} {es : List Expr} {to : TE} {t : TA} {name : Str} {apos cpos : Pos} {T id : String} {r : V → List V → Hp → VK → Prop}
/- xs.append(e), list.index on a module's tuple .. are MtR facts of 06m -/
end
end L2

namespace L2
open PySem PySem.Spec PyProof.Rows


/-! ### lists of values -/

section
variable {X : Cx} {pins : List (Addr × Obj)} {σ : St} {H : Hp} {s : Shared} {l b : Addr} {xs ys zs : List V}

/-! ### the two steps: a tracked list is rewritten, a new list is laid -/

end

section
variable {X : Cx}

/-! ### methods -/






/-! ### list + list, list += list, list * int -/

/-! ### del xs[i] -/
end

/-! ### xs[a:b] = ys -/
section
variable {prog : Program} {w : World} {A : Around} {E : Value → Shared → Prop} {s : Shared}
set_option maxRecDepth 100000 in
end

end L2

namespace Att
open PySem PySem.W PySem.Calls PyProof.Rows

/-! ### the script -/
theorem ints_of_wellAll {P : Params} {h : Heap} : ∀ (ns : List Int) (vs : List Value), WellAll P h vs (ns.map WData.int) → IntsAre vs ns := by
  intro ns
  induction ns with
  | nil =>
    intro vs w
    rw [List.map_nil] at w
    cases w
    exact .nil
  | cons n ns ih =>
    intro vs w
    rw [List.map_cons] at w
    cases w with
    | cons a b =>
      cases a
      exact .cons _ _ (ih _ b)

theorem script_of {l : OpenLaw} {n : Nat} (hn : l.most = some n) {P : Params} {h : Heap} {args : List WData} {vals : List Value}
    (hpre : l.row.toRowW.claim.pre args = true) (hwl : WellAll P h vals args) :
    ∃ a vs ns, vals = [Value.ref a] ∧ args = [WData.list (ns.map WData.int)] ∧ h.get? a = some { cls := .type "list", data := .seq vs.toArray } ∧ IntsAre vs ns ∧ ns.length ≤ n := by
  have hsh : WShape.hasAll [] args [.list .int] = true := (pre_splitW hpre).1
  have hc : l.pre.holds [] { args := args } = true := (pre_splitW hpre).2
  obtain ⟨d, r, rfl, h1, h2⟩ := hasAllW_cons hsh
  obtain rfl := hasAllW_nil h2
  obtain ⟨xs, rfl, h3⟩ := hasW_list h1
  obtain ⟨ns, rfl⟩ := items_int h3
  have hlen : ns.length ≤ n := by
    unfold OpenLaw.pre at hc
    have h4 : (WTm.not (.lt (.lit (.int (n : Int))) (.len (.arg 0)))).holds [] { args := [.list (ns.map .int)] } = true := by
      have h4 := (holds_andW hc).1
      rw [hn] at h4
      exact h4
    have h5 := condW_of h4 (w_not (w_lt w_lit (w_len_list (w_arg rfl))))
    rw [List.length_map] at h5
    refine Nat.le_of_not_lt fun q => ?_
    have q' : (n : Int) < ((ns.length : Nat) : Int) := by omega
    first
      | (rw [decide_eq_true q'] at h5; exact absurd h5 (by decide))
      | (simp at h5; omega)
  cases hwl with
  | cons w1 w2 =>
    cases w2
    cases w1 with
    | list ho hall => exact ⟨_, _, ns, rfl, rfl, ho, ints_of_wellAll ns _ hall, hlen⟩

theorem post_true (l : OpenLaw) (args : List WData) : l.row.toRowW.claim.post args (.bool true) args = true :=
  postW_of (r := l.row.toRowW) (X := (true == true))
    (show WShape.has [] (.bool true) .bool = true by first | rfl | decide | simp [WShape.has, WShape.arms, WShape.armsAll])
    (show (WTm.eq .res (.lit (.bool true))).value [] { args := args, res := some (.bool true), after := args } = some (.bool (true == true)) from w_eq_bool (w_res rfl) w_lit) rfl

/-! ### the attachment: holds_open's last premise (the goal 'hc' behind k_head) from a wpAny of the law's body -/

/-- the same from a codeAny of the CALL (for a layer whose function contracts speak of calls) -/
theorem attach_call {l : OpenLaw} {n : Nat} {q : Program} {loose : List Str} {XP : (Str → Option Value) → Heap → Prop} {YP : World → Heap → Prop} {d : DefRec}
    (hn : l.most = some n) (hdf : d.params.defaults = [])
    (call : ∀ (w : World) (s₀ s₁ : Shared) (mg mb : Str → Option Value) (fa : Addr) (o : Obj) (pm cd doc : Value) (a : Addr) (vs : List Value) (ns : List Int),
      Ground q loose [] XP w s₀ mg mb s₁.heap → YP w s₁.heap →
      s₁.heap.get? fa = some o → o.data = .func (docDef d.name d.params d.body d.scope pm cd doc) → s₁.heap.CodeRec cd d.name → mg d.name = some (.ref fa) →
      s₁.heap.get? a = some { cls := .type "list", data := .seq vs.toArray } → IntsAre vs ns → ns.length ≤ n → s₁.gens = #[] →
      codeAny (model l.prog w) callerA (.call (.ref fa) ⟨[.ref a], []⟩) (fun r s' => r = .ok (.ret (.bool true)) ∧ OldK s₁.heap s'.heap ∧ s'.os = s₁.os ∧ AllBare s'.gens) s₁) :
    WalkO q loose XP YP l.row.toRowW d [] (fun f vs => PySem.call f vs) := by
  intro w s₀ s₁ mg mb G Y fa o pm cd doc dV kV ho hd hcd hD hmg hg args vals as hpre hlay hrd hwl hlo
  obtain rfl : dV = .none := Dflts.none hD hdf
  obtain rfl : kV = .none := Dflts.noKw hD
  obtain ⟨a, vs, ns, rfl, rfl, hobj, hints, hlen⟩ := script_of hn hpre hwl
  refine enter_call (codeAny_mono (call w s₀ s₁ mg mb fa o pm cd doc a vs ns G Y ho (fd_plain hd) hcd hmg hobj hints hlen hg) fun r s' hq => ?_)
  obtain ⟨rfl, h2, h3, h4⟩ := hq
  exact ⟨.inl ⟨.bool true, .bool true, [], rfl, fun _ => rfl, .bool true, post_true l _, fun _ => ⟨List.Pairwise.nil, fun _ hm => (nomatch hm)⟩⟩, h2, h3, h4⟩


/-! ### rules over ANY heap (no ledger) from facts about the written part K: the library's own take a ledger (News) for what they write -/
section
variable {prog : Program} {w : World} {A : Around} {E : Value → Shared → Prop} {s : Shared} {K : Frag}





/-! the whole heap as the ledger: makes every rule that writes through a ledger a rule over any heap -/

end
end Att

namespace L2
open PySem PySem.Spec PyProof.Rows

theorem vals_ints : ∀ {vs : List Value} {ns : List Int}, IntsAre vs ns → Vals (ns.map V.int) vs
  | _, _, .nil => .nil
  | _, _, .cons n t h => .cons ⟨t, rfl⟩ (vals_ints h)

/-- nothing is tracked but the script, known to the object (or it is an object of the module) -/
def Only (H : Hp) : Prop := ∀ b, H b = none ∨ ∃ o xs, H b = some (.frz o (.lst xs))

/-- THE HEAD: the law's promise, at the heap behind the top. F, the promise of the law's def, may use that base is part of the heap (so K.In base, base.Ns mainGlobals mg stand in Mod) -/
theorem law_call {P : Program} {w : World} {K : PySem.W.Frag} {mg mb : Str → Option Value} {CX : CXT} {k : Nat} {fa a : Addr} {fd : FuncData} {x : Str} {sp : Sp} {s₁ : Shared} {vs : List Value} {ns : List Int}
    (KX : K.In s₁.heap) (hns : s₁.heap.Ns mainGlobals mg) (hb : s₁.heap.Ns builtinsNs mb) (hbb : ∀ x : Str, x ≠ "__name__" → mb x = bootBuiltins x) (hlim : s₁.heap.NoLimit) (hg : s₁.gens = #[])
    (ha : s₁.heap.get? a = some { cls := .type "list", data := .seq vs.toArray }) (hi : IntsAre vs ns) (hl : ns.length ≤ sizeLine) (hr : Room k callerA)
    (F : ∀ base : Heap, K.In base → base.Ns mainGlobals mg → FnOk P w K mg base CX k fa fd [x] sp) (hbind : ∀ (s : Shared) (u : Value), BindsTo s fd ⟨[u], []⟩ [(x, u)])
    (hsp : ∀ H : Hp, Only H → SqL K H a (ns.map V.int) → sp [.ref a] H (fun v _ => v = .bl true) fun _ _ _ => False)
    (hCX : ∀ H e s', CX [] H s₁ (fun _ _ _ => False) e s' → False) :
    codeAny (model P w) callerA (.call (.ref fa) ⟨[.ref a], []⟩) (fun r s' => r = .ok (.ret (.bool true)) ∧ OldK s₁.heap s'.heap ∧ s'.os = s₁.os ∧ AllBare s'.gens) s₁ := by
  have rv := vals_ints hi
  have lenV := hi.length
  -- from an abstract heap in which nothing but the script may be tracked
  have core : ∀ H : Hp, Only H → SqL K H a (ns.map V.int) → HOk P w H s₁.heap → (∀ b, H b ≠ none → b = a) → (H a ≠ none → K.lookup a = none) →
      codeAny (model P w) callerA (.call (.ref fa) ⟨[.ref a], []⟩) (fun r s' => r = .ok (.ret (.bool true)) ∧ OldK s₁.heap s'.heap ∧ s'.os = s₁.os ∧ AllBare s'.gens) s₁ := by
    intro H hO hS hok hA hK
    have base_of : ∀ {b : Addr} {o : Obj}, s₁.heap.get? b = some o → H b = none → (hidT s₁.heap H).get? b = some o := fun e n => hidT_get e n
    have noA : ∀ {b : Addr} {o : Obj} {es : Array DictEntry} {ep : Nat}, s₁.heap.get? b = some o → o.data = .dict es ep → H b = none := fun {b o es ep} e d => by
      cases q : H b with
      | none => rfl
      | some u =>
        have e' : b = a := hA b (by rw [q]; simp)
        subst e'
        rw [ha] at e; cases e
        have d' : Data.seq vs.toArray _ = Data.dict es ep := d
        cases d'
    have nsK : ∀ {b : Addr} {m : Str → Option Value}, s₁.heap.Ns b m → (hidT s₁.heap H).Ns b m := fun {b m} ⟨o, es, ep, e, d, r⟩ => ⟨o, es, ep, base_of e (noA e d), d, r⟩
    have hKb : K.In (hidT s₁.heap H) := fun b o e => base_of (KX b o e) (by
      cases q : H b with
      | none => rfl
      | some u =>
        have e' : b = a := hA b (by rw [q]; simp)
        subst e'
        rw [hK (by rw [q]; simp)] at e; cases e)
    have hM : Mod K mg (hidT s₁.heap H) := ⟨hKb, nsK hns, ⟨mb, nsK hb, hbb⟩, let ⟨mc, h1, h2⟩ := hlim; ⟨mc, nsK h1, h2⟩⟩
    have e0 : Env0 P w K mg (hidT s₁.heap H) callerA [] s₁ H := ⟨rfl, hM, fun b o e => of_hidT e, Nat.le_of_eq (hidT_size _ _), trivial, fun b hb => absurd (show b ∈ ([] : List Addr) from hb) (by simp), hok, .of_eq hg⟩
    refine codeAny_mono ((F _ hKb (nsK hns)).run callerA [] s₁ H ⟨[.ref a], []⟩ [.ref a] [.ref a] _ _ hr e0 (hbind s₁ (.ref a)) (.cons rfl .nil) (hsp H hO hS)) fun r s' h => ?_
    cases r with
    | error e => exact (hCX H e s' h).elim
    | ok fl =>
      cases fl with
      | next => exact False.elim h
      | brk => exact False.elim h
      | cont => exact False.elim h
      | ret u =>
        obtain ⟨v, H', os, bare, un, hok', r', q⟩ := h
        have q' : v = .bl true := q
        subst q'
        obtain rfl : u = Value.bool true := r'
        refine ⟨rfl, OldK.of_keep fun b o e => ?_, os, bare⟩
        cases q : H b with
        | none => exact un.keep b o e q (by intro z; exact absurd (show b ∈ ([] : List Addr) from z) (by simp)) (by simp)
        | some u =>
          rcases hO b with z | ⟨ob, xs, z⟩
          · rw [q] at z; cases z
          · have z2 := un.frzs b ob _ z
            obtain ⟨e1, _⟩ := hok b _ z
            obtain ⟨e2, _⟩ := hok' b _ z2
            rw [e] at e1; cases e1
            exact e2
  cases hk : K.lookup a with
  | some o =>
    -- the script is one of the module's own objects
    have e := KX a o hk
    rw [ha] at e
    cases e
    refine core (fun _ => none) (fun _ => .inl rfl) (.inr ⟨_, vs.toArray, _, hk, rfl, rfl, rfl, by rw [List.size_toArray, lenV]; exact hl, by simpa using rv⟩) (fun b u z => by have z' : (none : Option HO) = some u := z; cases z') (fun b z => absurd rfl z) fun z => absurd rfl z
  | none =>
    refine core (fun b => if b = a then some (.frz { cls := .type "list", data := .seq vs.toArray } (.lst (ns.map V.int))) else none) (fun b => ?_) (.inl (.inr ⟨{ cls := .type "list", data := .seq vs.toArray }, if_pos rfl⟩)) (fun b u z => ?_) (fun b z => ?_) fun _ => hk
    · by_cases hb : b = a
      · exact .inr ⟨_, _, if_pos hb⟩
      · exact .inl (if_neg hb)
    · by_cases hb : b = a
      · have z' := (if_pos hb).symm.trans z
        cases z'
        subst hb
        exact ⟨ha, by rw [List.length_map]; exact hl, vs, _, rv, ha⟩
      · have z' := (if_neg hb).symm.trans z
        cases z'
    · by_cases hb : b = a
      · exact hb
      · exact absurd (if_neg hb) z
end L2

namespace L2
open PySem PySem.Spec PyProof.Rows


/-- the goal that k_head leaves (case hc), from the law's promise. F gives the function object fd (K's own) once, then the promise over every base -/
theorem walk_of {l : PySem.W.OpenLaw} {n k : Nat} {q : Program} {loose : List Str} {XP : (Str → Option Value) → Heap → Prop} {YP : World → Heap → Prop} {d : DefRec} {K : Params → PySem.W.Frag} {CX : World → CXT} {sp : World → Sp} {x : Str}
    (hn : l.most = some n) (hn2 : n ≤ sizeLine) (hdf : d.params.defaults = []) (hr : Room k callerA)
    (hY : ∀ (w : World) (h : Heap), YP w h → (K w.params).In h)
    (F : ∀ (w : World) (mg : Str → Option Value) (fa : Addr) (h : Heap), (K w.params).In h → h.Ns mainGlobals mg → mg d.name = some (.ref fa) →
      ∃ fd : FuncData, (∀ (s : Shared) (u : Value), BindsTo s fd ⟨[u], []⟩ [(x, u)]) ∧
        ∀ base : Heap, (K w.params).In base → base.Ns mainGlobals mg → FnOk l.prog w (K w.params) mg base (CX w) k fa fd [x] (sp w))
    (hsp : ∀ (w : World) (H : Hp) (a : Addr) (ns : List Int), ns.length ≤ n → Only H → SqL (K w.params) H a (ns.map V.int) → sp w [.ref a] H (fun v _ => v = .bl true) fun _ _ _ => False)
    (hCX : ∀ (w : World) (H : Hp) (s : Shared) (e : Value) (s' : Shared), CX w [] H s (fun _ _ _ => False) e s' → False) :
    PySem.W.WalkO q loose XP YP l.row.toRowW d [] (fun f vs => PySem.call f vs) := by
  refine Att.attach_call hn hdf fun w s₀ s₁ mg mb fa o pm cd doc a vs ns G Y ho hd hcd hmg hobj hints hlen hg => ?_
  have KX := hY w _ Y
  obtain ⟨fd, hb, hF⟩ := F w mg fa _ KX G.T.g hmg
  exact law_call KX G.T.g G.T.b G.T.builtins G.T.nolimit hg hobj hints (Nat.le_trans hlen hn2) hr hF hb (fun H hO hS => hsp w H a ns hlen hO hS) fun H e s' => hCX w H s₁ e s'
end L2



/-! SHORT WORDS over the layer: a def of the text, its body, what a loop and a test want. -/
namespace L2
open PySem PySem.Spec PyProof.Rows

/-! ### the text by places -/
def defArgs (s : Stmt) : Arguments := match s with
  | .FunctionDef _ a _ _ _ _ _ _ _ _ => a
  | _ => { posonlyargs := [], args := [], vararg := none, kwonlyargs := [], kw_defaults := [], kwarg := none, defaults := [] }
def defBody (s : Stmt) : List Stmt := match s with
  | .FunctionDef _ _ b _ _ _ _ _ _ _ => b
  | _ => []
def defScope (s : Stmt) : Scope := match s with
  | .FunctionDef _ _ _ _ _ _ sc _ _ _ => sc
  | _ => { kind := .function, names := [], isGenerator := false, isCoroutine := false }

/-! ### no exception leaves a def -/
abbrev CX0 : CXT := fun _ _ _ _ _ _ => False
abbrev E0 : XK := fun _ _ _ => False
theorem pass0 {X : Cx} : Passes CX0 X E0 := fun _ _ _ _ _ _ _ h => h.elim

/-! ### a def (or method) of the text as it stands behind the top -/
structure Fun (K : PySem.W.Frag) (x qual : Str) (st : Stmt) (f : Addr) (fd : FuncData) : Prop where
  ex : ∃ (oc : Value) (od : Option Addr) (kV doc pm : Value) (an : Option Addr) (cdv ct : Value) (osl : Array (Option Value)),
    fd = PySem.W.fnOf x qual (defArgs st) (defBody st) (defScope st) .none kV doc pm an cdv ct ∧ K.lookup f = some ⟨oc, od, .func fd, osl⟩ ∧ PySem.W.codeIn K cdv qual = true
  kp : PySem.W.keepIn K (.ref f) = true
section
variable {P : Program} {w : World} {K : PySem.W.Frag} {mg : Str → Option Value} {base : Heap}
/-- THE RULE for a def: its body as a term of rules, and the reading of that term -/
theorem Fun.ok {x qual : Str} {st : Stmt} {f : Addr} {fd : FuncData} {N ps : List Str} {k : Nat} {sp : Sp} (F : Fun K x qual st f fd) (S : FnScope N ps (defScope st)) (len : ∀ vs H Q E, sp vs H Q E → vs.length = ps.length)
    (hbody : ∀ (cdv : Value) (A : Around) (outer : List Env) (s : Shared) (H : Hp) (vs : List V) (Q : VK) (E : XK), Room k (A.deeper (envOfC qual (defScope st) s.heap.objs.size f cdv)) → sp vs H Q E →
      ∃ t, PSs (cxOf CX0 P w K mg base N qual (defScope st) f cdv A outer s H E).nox (defBody st) t ∧ t { nx := fun _ H' => Q .non H', rt := Q } (start N vs) H) : FnOk P w K mg base CX0 (k + 1) f fd ps sp := by
  obtain ⟨oc, od, kV, doc, pm, an, cdv, ct, osl, rfl, lk, hcd⟩ := F.ex
  refine fn_of lk hcd S len fun A outer s H vs Q E hr hsp => ?_
  obtain ⟨t, h, q⟩ := hbody cdv A outer s H vs Q E hr hsp
  exact ⟨t, h.nox, q⟩
/-- how its arguments bind (no defaults): h is «fun _ _ _ _ _ _ us hl => match us, hl with | [_, _], _ => rfl», one _ a parameter -/
theorem Fun.binds {x qual : Str} {st : Stmt} {f : Addr} {fd : FuncData} {ps : List Str} (F : Fun K x qual st f fd)
    (h : ∀ (kV doc pm : Value) (an : Option Addr) (cdv ct : Value) (us : List Value), us.length = ps.length → bindArgs (PySem.W.fnOf x qual (defArgs st) (defBody st) (defScope st) .none kV doc pm an cdv ct) ⟨us, []⟩ = pure (ps.zip us)) : Binds K fd ps [] := by
  obtain ⟨oc, od, kV, doc, pm, an, cdv, ct, osl, rfl, lk, hcd⟩ := F.ex
  exact .all (h kV doc pm an cdv ct)
theorem fun_mk {x qual : Str} {st : Stmt} {f : Addr} {oc : Value} {od an : Option Addr} {osl : Array (Option Value)} {kV doc pm cdv ct : Value} (l : K.lookup f = some ⟨oc, od, .func (PySem.W.fnOf x qual (defArgs st) (defBody st) (defScope st) .none kV doc pm an cdv ct), osl⟩)
    (c : PySem.W.codeIn K cdv qual = true) (k : PySem.W.keepIn K (.ref f) = true) : Fun K x qual st f (PySem.W.fnOf x qual (defArgs st) (defBody st) (defScope st) .none kV doc pm an cdv ct) := ⟨⟨oc, od, kV, doc, pm, an, cdv, ct, osl, rfl, l, c⟩, k⟩
end
theorem small1000 {n : Nat} (h : n ≤ 1000) : n < sizeLine := Nat.lt_of_le_of_lt h (by decide)

/-! ### expressions in short: the name that stands in the i-th slot -/
section
variable {X : Cx}
theorem pv (i : Nat) {x : Str} {pos : Pos} (hN : X.N[i]? = some x := by rfl) (hv : Vis X.env.scope x := by first | exact Or.inl rfl | exact Or.inr (Or.inl rfl) | exact Or.inr (Or.inr rfl)) (hd : (x == ("__debug__" : Str)) = false := by decide)
    (hcd : (x == ("__classdict__" : Str)) = false := by decide) : PE X (.Name x pos) (tVar i) := pe_var hN hv hd hcd
end

/-! ### tests -/

/-! ### heaps -/
/-- all that was tracked is as it was -/
def Same (H H' : Hp) : Prop := ∀ b o, H b = some o → H' b = some o
theorem Same.trans {H H1 H2 : Hp} (a : Same H H1) (b : Same H1 H2) : Same H H2 := fun c o h => b c o (a c o h)
theorem Same.free {H H' : Hp} (e : Same H H') {l : Addr} (h : H' l = Option.none) : H l = Option.none := by
  cases q : H l with
  | none => rfl
  | some o =>
    rw [e l o q] at h
    cases h

end L2

set_option linter.all false
set_option maxRecDepth 100000
set_option maxHeartbeats 4000000
namespace L2
open PySem PySem.Spec PyProof.Rows
/-! wider rules of one's own over the layer -/
/-- so many bits at the most -/
def Bd (n : Nat) (i : Int) : Prop := i.natAbs < 2 ^ n
theorem Bd.mono {m n : Nat} {i : Int} (h : Bd m i) (e : m ≤ n) : Bd n i := Nat.lt_of_lt_of_le h (Nat.pow_le_pow_right (by decide) e)
theorem Bd.mul {m n : Nat} {i j : Int} (h : Bd m i) (g : Bd n j) : Bd (m + n) (i * j) := by
  unfold Bd at *
  rw [Int.natAbs_mul, Nat.pow_add]
  by_cases e : i.natAbs = 0
  · rw [e, Nat.zero_mul]; exact Nat.mul_pos (Nat.pow_pos (by decide)) (Nat.pow_pos (by decide))
  · exact Nat.mul_lt_mul_of_lt_of_le h (Nat.le_of_lt g) (Nat.pow_pos (by decide))
theorem Bd.add {m : Nat} {i j : Int} (h : Bd m i) (g : Bd m j) : Bd (m + 1) (i + j) := by
  unfold Bd at *
  have := Int.natAbs_add_le i j
  rw [Nat.pow_succ]; omega
theorem Bd.neg {m : Nat} {i : Int} (h : Bd m i) : Bd m (-i) := by
  unfold Bd at *; rw [Int.natAbs_neg]; exact h
theorem Bd.sub {m : Nat} {i j : Int} (h : Bd m i) (g : Bd m j) : Bd (m + 1) (i - j) := by
  rw [Int.sub_eq_add_neg]; exact h.add g.neg
theorem Bd.bits {m : Nat} {i : Int} (h : Bd m i) : Builtin.Int.intBits i ≤ m := by
  unfold Bd at h
  unfold Builtin.Int.intBits
  split
  · exact Nat.zero_le _
  · rename_i hz
    have hn : i.natAbs ≠ 0 := by
      intro e; apply hz; have : i = 0 := Int.natAbs_eq_zero.mp e
      subst this; rfl
    have := (Nat.log2_lt hn).mpr h
    omega
theorem Bd.log {m : Nat} {i : Int} (h : Bd m i) (hm : 0 < m) : i.natAbs.log2 < m := by
  unfold Bd at h
  by_cases e : i.natAbs = 0
  · rw [e]; simpa using hm
  · exact (Nat.log2_lt e).mpr h
theorem Bd.le {m : Nat} {i j : Int} (h : Bd m j) (e : i.natAbs ≤ j.natAbs) : Bd m i := Nat.lt_of_le_of_lt e h
theorem mulOk_of {m n : Nat} {i j : Int} (h : Bd m i) (g : Bd n j) (e : m + n ≤ 134217728) : IntMulOk i j := by
  unfold IntMulOk
  intro z
  rw [Bool.and_eq_true, Bool.and_eq_true] at z
  obtain ⟨_, z⟩ := z
  unfold Builtin.Int.intTooBig at z
  have hz := of_decide_eq_true z
  have h1 := h.bits
  have h2 := g.bits
  have h3 : (bitsLine : Int) = 134217728 := by decide +kernel
  rw [h3] at hz
  omega
/-- a division that goes by no other module -/
def CDivB (_ j : Int) : Prop := j ≠ 0 ∧ Bd 9000 j
section
variable {X : Cx}
theorem op_mulB : OpR X (binaryOp .Mult) (rI IntMulOk fun i j => .int (i * j)) := opI fun _ _ _ _ _ _ _ hc q => mul_int q hc
theorem op_fdivB : OpR X (binaryOp .FloorDiv) (rI CDivB fun i j => .int (i.fdiv j)) := opI fun _ _ _ _ _ _ _ hc q => floordiv_int hc.1 q (.inl (PyProof.noPylong_of_log2 (hc.2.log (by decide))))
/-- isinstance(x, T), T a type of the language -/
theorem call_isinst : CallR X (.builtin "isinstance") (fun xs H Q => ∃ x n t b, xs = [x, .ty n] ∧ TyOf X.K H x t ∧ PySem.W.kitOne X.K t (.type n) = some b ∧ Q (.bl b) H) := by
  intro pins s σ H xs us Q I r h
  obtain ⟨x, n, t, b, rfl, ty, e, q⟩ := h
  obtain ⟨u, v, rfl, ru, rv⟩ := vals2 r
  cases (show v = Value.type n from rv)
  exact isinst_ok I ru ty e fun tk => ⟨.bl b, H, I.tok _, rfl, q⟩
theorem kit_same {K : PySem.W.Frag} {n : String} : PySem.W.kitOne K (.type n) (.type n) = some true := by
  unfold PySem.W.kitOne; rw [if_pos (beq_self_eq_true _)]
end
/-! ### == of tuples and lists of data -/
def TupI (K : PySem.W.Frag) (H : Hp) (v : V) (ns : List Int) : Prop := ∃ a, v = .ref a ∧ SqT K H a (ns.map V.int)
section
open PySem.SeqAt PyProof.V
variable {X : Cx} {pins : List (Addr × Obj)} {σ : St} {H : Hp} {s : Shared}
theorem readsAll_ints {h : Heap} : ∀ {ns : List Int} {us : List Value}, Vals (ns.map V.int) us → ReadsAll h us (ns.map PyData.int) [] := by
  intro ns
  induction ns with
  | nil => intro us h; cases h; exact .nil
  | cons n ns ih =>
    intro us hv
    cases hv with
    | cons r t =>
      obtain ⟨k, rfl⟩ := (show ∃ t, _ = Value.int n t from r)
      have := ReadsAll.cons (Reads.int (h := h) n k) (ih t)
      simpa using this
theorem Inv.tupI {v : V} {u : Value} {ns : List Int} (I : Inv X pins σ H s) (r : RelV v u) (t : TupI X.K H v ns) : Reads s.heap u (.tuple (ns.map PyData.int)) [] := by
  obtain ⟨a, rfl, h⟩ := t
  cases r
  obtain ⟨its, rv, p, _⟩ := I.tuple h
  obtain ⟨o, ho, hc, n, hd⟩ := p
  exact Reads.tuple ho hc hd (by simpa using readsAll_ints rv)
theorem shaped_ti (ns : List Int) : shaped (.tuple (ns.map PyData.int)) = true := by
  have h1 := PySem.W.depthAll_ints ns
  have h2 : PyData.depth (.tuple (ns.map PyData.int)) ≤ 64 := by simp only [PyData.depth]; omega
  show (PyData.canLay0 (.tuple (ns.map PyData.int)) && decide (PyData.depth (.tuple (ns.map PyData.int)) ≤ 64)) = true
  rw [Bool.and_eq_true]
  exact ⟨by simp only [PyData.canLay0]; exact PySem.W.canLayAll0_ints ns, decide_eq_true h2⟩
end
section
open PySem.SeqAt PyProof.V
variable {X : Cx}
/-- tuples of ints -/
def rEqTI (K : PySem.W.Frag) (neg : Bool) : R2 := fun x y H Q => ∃ ns ms, TupI K H x ns ∧ TupI K H y ms ∧ Q (.bl (if neg then !decide (ns = ms) else decide (ns = ms))) H
theorem op_neTI (hu : X.A.units + 64 < cLine) : OpR X (compareOp .NotEq) (rEqTI X.K true) := by
  intro pins s σ H x y v u Q I rx ry h
  obtain ⟨ns, ms, h1, h2, q⟩ := h
  refine ne_dataH_same (I.tupI rx h1) (I.tupI ry h2) (shaped_ti ns) (shaped_ti ms) hu (by simp only [noMix]; exact PySem.W.noMix_ints ns ms) (fin_bl I q ?_)
  simp only [PySem.Spec.same]; rw [PySem.W.same_ints]; rfl
end
end L2

set_option linter.all false
set_option maxRecDepth 100000
set_option maxHeartbeats 4000000
namespace L2
open PySem PySem.Spec PyProof.Rows
/-! ### a comprehension -/
end L2

set_option linter.all false
set_option maxRecDepth 100000
set_option maxHeartbeats 4000000
namespace L2
open PySem PySem.Spec PyProof.Rows
/-! ### readings by what they give -/
def Gv (t : TE) (σ : St) (H : Hp) (R : V → Hp → Prop) : Prop := ∀ Q : VK, (∀ v H', R v H' → Q v H') → t σ H Q
def GvT (t : TT) (σ : St) (H : Hp) (R : Bool → Hp → Prop) : Prop := ∀ Q : Bool → Hp → Prop, (∀ v H', R v H' → Q v H') → t σ H Q
def GvA (t : TA) (σ : St) (H : Hp) (R : List V → Hp → Prop) : Prop := ∀ Q : List V → Hp → Prop, (∀ v H', R v H' → Q v H') → t σ H Q
/-- one value, the heap as it is -/
def Pu (t : TE) (σ : St) (H : Hp) (v : V) : Prop := ∀ Q : VK, Q v H → t σ H Q
def PuT (t : TT) (σ : St) (H : Hp) (b : Bool) : Prop := ∀ Q : Bool → Hp → Prop, Q b H → t σ H Q
def PuA (t : TA) (σ : St) (H : Hp) (vs : List V) : Prop := ∀ Q : List V → Hp → Prop, Q vs H → t σ H Q
def Is1 (v : V) (H : Hp) : V → Hp → Prop := fun w H' => w = v ∧ H' = H
section
variable {σ : St} {H : Hp} {t ta tb tc : TE} {x y z v : V} {i j : Int} {b c : Bool}
theorem Pu.gv (h : Pu t σ H v) : Gv t σ H (Is1 v H) := fun Q q => h Q (q v H ⟨rfl, rfl⟩)
theorem Pu.gv' {R : V → Hp → Prop} (h : Pu t σ H v) (r : R v H) : Gv t σ H R := fun Q q => h Q (q v H r)
theorem Gv.imp {R R' : V → Hp → Prop} (h : Gv t σ H R) (f : ∀ v H', R v H' → R' v H') : Gv t σ H R' := fun Q q => h Q fun v H' r => q v H' (f v H' r)
theorem pu_v {k : Nat} (h : σ[k]? = some (some v)) : Pu (tVar k) σ H v := fun _ q => ⟨v, h, q⟩
theorem pu_c : Pu (tC v) σ H v := fun _ q => q
theorem pu_add (ha : Pu ta σ H (.int i)) (hb : Pu tb σ H (.int j)) : Pu (tOp (rI0 fun i j => .int (i + j)) ta tb) σ H (.int (i + j)) := fun _ q => ha _ (hb _ ⟨i, j, rfl, rfl, q⟩)
theorem pu_sub (ha : Pu ta σ H (.int i)) (hb : Pu tb σ H (.int j)) : Pu (tOp (rI0 fun i j => .int (i - j)) ta tb) σ H (.int (i - j)) := fun _ q => ha _ (hb _ ⟨i, j, rfl, rfl, q⟩)
theorem pu_mul (ha : Pu ta σ H (.int i)) (hb : Pu tb σ H (.int j)) (hm : IntMulOk i j) : Pu (tOp (rI IntMulOk fun i j => .int (i * j)) ta tb) σ H (.int (i * j)) := fun _ q => ha _ (hb _ ⟨i, j, rfl, rfl, hm, q⟩)
theorem pu_fdiv (ha : Pu ta σ H (.int i)) (hb : Pu tb σ H (.int j)) (hm : CDivB i j) : Pu (tOp (rI CDivB fun i j => .int (i.fdiv j)) ta tb) σ H (.int (i.fdiv j)) := fun _ q => ha _ (hb _ ⟨i, j, rfl, rfl, hm, q⟩)
theorem pu_mod (ha : Pu ta σ H (.int i)) (hb : Pu tb σ H (.int j)) (hm : j ≠ 0) : Pu (tOp (rI (fun _ j => j ≠ 0) fun i j => .int (i.fmod j)) ta tb) σ H (.int (i.fmod j)) := fun _ q => ha _ (hb _ ⟨i, j, rfl, rfl, hm, q⟩)
theorem pu_pow (ha : Pu ta σ H (.int i)) (hb : Pu tb σ H (.int j)) (hm : CPow i j) : Pu (tOp (rI CPow fun i j => .int (i ^ j.toNat)) ta tb) σ H (.int (i ^ j.toNat)) := fun _ q => ha _ (hb _ ⟨i, j, rfl, rfl, hm, q⟩)
theorem pu_neg (ha : Pu ta σ H (.int i)) : Pu (tUn (rU fun i => .int (-i)) ta) σ H (.int (-i)) := fun _ q => ha _ ⟨i, rfl, q⟩
theorem pu_lt (ha : Pu ta σ H (.int i)) (hb : Pu tb σ H (.int j)) : Pu (tOp (rI0 fun i j => .bl (decide (i < j))) ta tb) σ H (.bl (decide (i < j))) := fun _ q => ha _ (hb _ ⟨i, j, rfl, rfl, q⟩)
theorem pu_le (ha : Pu ta σ H (.int i)) (hb : Pu tb σ H (.int j)) : Pu (tOp (rI0 fun i j => .bl (decide (i ≤ j))) ta tb) σ H (.bl (decide (i ≤ j))) := fun _ q => ha _ (hb _ ⟨i, j, rfl, rfl, q⟩)
theorem pu_gt (ha : Pu ta σ H (.int i)) (hb : Pu tb σ H (.int j)) : Pu (tOp (rI0 fun i j => .bl (decide (j < i))) ta tb) σ H (.bl (decide (j < i))) := fun _ q => ha _ (hb _ ⟨i, j, rfl, rfl, q⟩)
theorem pu_ge (ha : Pu ta σ H (.int i)) (hb : Pu tb σ H (.int j)) : Pu (tOp (rI0 fun i j => .bl (decide (j ≤ i))) ta tb) σ H (.bl (decide (j ≤ i))) := fun _ q => ha _ (hb _ ⟨i, j, rfl, rfl, q⟩)
theorem pu_eqI (ha : Pu ta σ H (.int i)) (hb : Pu tb σ H (.int j)) : Pu (tOp rEq ta tb) σ H (.bl (decide (i = j))) := fun _ q => ha _ (hb _ ⟨rfl, by rw [dec_int, Bool.beq_eq_decide_eq]; exact q⟩)
theorem pu_neI (ha : Pu ta σ H (.int i)) (hb : Pu tb σ H (.int j)) : Pu (tOp rNe ta tb) σ H (.bl (!decide (i = j))) := fun _ q => ha _ (hb _ ⟨rfl, by rw [dec_int, Bool.beq_eq_decide_eq]; exact q⟩)
theorem pu_ixT {K : PySem.W.Frag} {p : Addr} {xs : List V} (ha : Pu ta σ H (.ref p)) (hb : Pu tb σ H (.int i)) (h : SqT K H p xs) (e : atI xs i = some v) : Pu (tOp (rIxT K) ta tb) σ H v := fun _ q => ha _ (hb _ ⟨p, xs, i, v, rfl, rfl, h, e, q⟩)
theorem pu_ixL {K : PySem.W.Frag} {p : Addr} {xs : List V} (ha : Pu ta σ H (.ref p)) (hb : Pu tb σ H (.int i)) (h : SqL K H p xs) (e : atI xs i = some v) : Pu (tOp (rIxL K) ta tb) σ H v := fun _ q => ha _ (hb _ ⟨p, xs, i, v, rfl, rfl, h, e, q⟩)
theorem pa_n : PuA tNil σ H [] := fun _ q => q
theorem pa_c {tr : TA} {vs : List V} (ha : Pu ta σ H x) (hr : PuA tr σ H vs) : PuA (tCons ta tr) σ H (x :: vs) := fun _ q => ha _ (hr _ q)
theorem pu_lenL {K : PySem.W.Frag} {p : Addr} {ys : List V} {t : TA} (ha : PuA t σ H [.ref p]) (h : SqL K H p ys) : Pu (tCB (fun xs H Q => ∃ p ys, xs = [.ref p] ∧ (SqL K H p ys ∨ SqT K H p ys) ∧ Q (.int ys.length) H) t) σ H (.int ys.length) := fun _ q => ha _ ⟨p, ys, rfl, .inl h, q⟩
theorem pu_lenT {K : PySem.W.Frag} {p : Addr} {ys : List V} {t : TA} (ha : PuA t σ H [.ref p]) (h : SqT K H p ys) : Pu (tCB (fun xs H Q => ∃ p ys, xs = [.ref p] ∧ (SqL K H p ys ∨ SqT K H p ys) ∧ Q (.int ys.length) H) t) σ H (.int ys.length) := fun _ q => ha _ ⟨p, ys, rfl, .inr h, q⟩
theorem pu_abs {t : TA} (ha : PuA t σ H [.int i]) : Pu (tCB (fun xs H Q => ∃ i, xs = [.int i] ∧ Q (.int (if i < 0 then -i else i)) H) t) σ H (.int (i.natAbs : Int)) := fun _ q => ha _ ⟨i, rfl, by
  rw [show (if i < 0 then -i else i) = (i.natAbs : Int) by split <;> omega]; exact q⟩
theorem pu_isi {K : PySem.W.Frag} {n : String} {u : Value} {t : TA} (ha : PuA t σ H [x, .ty n]) (ty : TyOf K H x u) (e : PySem.W.kitOne K u (.type n) = some b) :
    Pu (tCB (fun xs H Q => ∃ x n t b, xs = [x, .ty n] ∧ TyOf K H x t ∧ PySem.W.kitOne K t (.type n) = some b ∧ Q (.bl b) H) t) σ H (.bl b) := fun _ q => ha _ ⟨x, n, u, b, rfl, ty, e, q⟩
/-! tests -/
theorem pt_t (h : Pu t σ H (.bl b)) : PuT (tTest t) σ H b := fun _ q => h _ ⟨b, rfl, q⟩
theorem pt_b (h : Pu t σ H (.bl b)) : PuT (tB t) σ H b := fun _ q => h _ ⟨b, rfl, q⟩
theorem pt_n {t : TT} (h : PuT t σ H b) : PuT (tNot t) σ H (!b) := fun _ q => h _ q
theorem pt_and {t u : TT} (h : PuT t σ H b) (g : b = true → PuT u σ H c) : PuT (tAnd t u) σ H (b && c) := fun Q q => h _ (by
  cases b with
  | true => rw [if_pos rfl]; exact g rfl Q (by simpa using q)
  | false => rw [if_neg Bool.false_ne_true]; simpa using q)
theorem pt_or {t u : TT} (h : PuT t σ H b) (g : b = false → PuT u σ H c) : PuT (tOr t u) σ H (b || c) := fun Q q => h _ (by
  cases b with
  | false => rw [if_neg Bool.false_ne_true]; exact g rfl Q (by simpa using q)
  | true => rw [if_pos rfl]; simpa using q)
theorem pu_and (h : Pu ta σ H (.bl b)) (g : b = true → Pu tb σ H (.bl c)) : Pu (tAndV ta tb) σ H (.bl (b && c)) := fun Q q => h _ ⟨b, rfl, by
  cases b with
  | true => rw [if_pos rfl]; exact g rfl Q (by simpa using q)
  | false => rw [if_neg Bool.false_ne_true]; simpa using q⟩
theorem pu_not (h : Pu ta σ H (.bl b)) : Pu (tNotV ta) σ H (.bl (!b)) := fun _ q => h _ ⟨b, rfl, q⟩
/-! tests with calls that lay things -/
theorem gt_or {t u : TT} {R R' : Bool → Hp → Prop} (h : GvT t σ H R) (g : ∀ H', R false H' → GvT u σ H' R') (e : ∀ H', R true H' → R' true H') : GvT (tOr t u) σ H R' := fun Q q => h _ fun v H' r => by
  cases v with
  | false => rw [if_neg Bool.false_ne_true]; exact g H' r Q q
  | true => rw [if_pos rfl]; exact q _ _ (e H' r)
theorem PuT.gt {t : TT} {R : Bool → Hp → Prop} (h : PuT t σ H b) (r : R b H) : GvT t σ H R := fun Q q => h Q (q _ _ r)
/-! statements -/
variable {te : TE} {D : Ends} {rest u : TS} {k : Nat}
theorem st_set (h : Pu te σ H v) (q : rest D (σ.set k (some v)) H) : tSeq (tAsg te (gName k)) rest D σ H := h _ q
theorem st_setG {R : V → Hp → Prop} (h : Gv te σ H R) (q : ∀ v H', R v H' → rest D (σ.set k (some v)) H') : tSeq (tAsg te (gName k)) rest D σ H := h _ q
theorem st_set1 (h : Pu te σ H v) (q : D.nx (σ.set k (some v)) H) : tAsg te (gName k) D σ H := h _ q
theorem st_setG1 {R : V → Hp → Prop} (h : Gv te σ H R) (q : ∀ v H', R v H' → D.nx (σ.set k (some v)) H') : tAsg te (gName k) D σ H := h _ q
theorem st_ret (h : Pu te σ H v) (q : D.rt v H) : tRet te D σ H := h _ q
theorem st_retG {R : V → Hp → Prop} (h : Gv te σ H R) (q : ∀ v H', R v H' → D.rt v H') : tRet te D σ H := h _ q
theorem st_exprG {R : V → Hp → Prop} (h : Gv te σ H R) (q : ∀ v H', R v H' → rest D σ H') : tSeq (tDrop te) rest D σ H := h _ q
theorem st_exprG1 {R : V → Hp → Prop} (h : Gv te σ H R) (q : ∀ v H', R v H' → D.nx σ H') : tDrop te D σ H := h _ q
theorem st_if {tc : TT} {t u : TS} (h : PuT tc σ H b) (q1 : b = true → t { D with nx := rest D } σ H) (q2 : b = false → u { D with nx := rest D } σ H) : tSeq (tIfS tc t u) rest D σ H := h _ (by
  cases b with
  | true => rw [if_pos rfl]; exact q1 rfl
  | false => rw [if_neg Bool.false_ne_true]; exact q2 rfl)
theorem st_if1 {tc : TT} {t u : TS} (h : PuT tc σ H b) (q1 : b = true → t D σ H) (q2 : b = false → u D σ H) : tIfS tc t u D σ H := h _ (by
  cases b with
  | true => rw [if_pos rfl]; exact q1 rfl
  | false => rw [if_neg Bool.false_ne_true]; exact q2 rfl)
theorem st_ifG {tc : TT} {t u : TS} {R : Bool → Hp → Prop} (h : GvT tc σ H R) (q1 : ∀ H', R true H' → t { D with nx := rest D } σ H') (q2 : ∀ H', R false H' → u { D with nx := rest D } σ H') : tSeq (tIfS tc t u) rest D σ H := h _ fun b H' r => by
  cases b with
  | true => rw [if_pos rfl]; exact q1 H' r
  | false => rw [if_neg Bool.false_ne_true]; exact q2 H' r
/-! calls -/
variable {sp : Sp} {E : XK}
theorem pu_call {t : TA} {vs : List V} (h : PuA t σ H vs) (hs : ∀ Q, Q v H → sp (vs ++ []) H Q E) : Pu (tCall sp [] E t) σ H v := fun Q q => h _ (hs Q q)
theorem gv_call {t : TA} {vs : List V} {R : V → Hp → Prop} (h : PuA t σ H vs) (hs : ∀ Q : VK, (∀ v H', R v H' → Q v H') → sp (vs ++ []) H Q E) : Gv (tCall sp [] E t) σ H R := fun Q q => h _ (hs Q q)
theorem gv_callA {t : TA} {R : V → Hp → Prop} {RA : List V → Hp → Prop} (h : GvA t σ H RA) (hs : ∀ vs H1, RA vs H1 → ∀ Q : VK, (∀ v H', R v H' → Q v H') → sp (vs ++ []) H1 Q E) : Gv (tCall sp [] E t) σ H R := fun Q q => h _ fun vs H1 r => hs vs H1 r Q q
theorem ga_nil : GvA tNil σ H (fun vs H' => vs = [] ∧ H' = H) := fun Q q => q _ _ ⟨rfl, rfl⟩
theorem ga_cons {tr : TA} {R1 : V → Hp → Prop} {R2 : V → Hp → List V → Hp → Prop} (h : Gv ta σ H R1) (g : ∀ x H1, R1 x H1 → GvA tr σ H1 (R2 x H1)) :
    GvA (tCons ta tr) σ H (fun vs H' => ∃ x H1 r, vs = x :: r ∧ R1 x H1 ∧ R2 x H1 r H') := fun Q q => h _ fun x H1 r1 => g x H1 r1 _ fun r H' r2 => q _ _ ⟨x, H1, r, rfl, r1, r2⟩
/-! new tuples and lists -/
theorem gv_tup {t : TA} {vs : List V} (h : PuA t σ H vs) (hz : vs.length ≤ sizeLine) : Gv (tTup t) σ H (fun v H' => ∃ p, H p = none ∧ v = .ref p ∧ H' = upd H p (.tup vs)) := fun Q q => h _ ⟨hz, fun p hp => q _ _ ⟨p, hp, rfl, rfl⟩⟩
theorem gv_lst {t : TA} {vs : List V} (h : PuA t σ H vs) (hz : vs.length ≤ sizeLine) : Gv (tLst t) σ H (fun v H' => ∃ p, H p = none ∧ v = .ref p ∧ H' = upd H p (.lst vs)) := fun Q q => h _ ⟨hz, fun p hp => q _ _ ⟨p, hp, rfl, rfl⟩⟩
end
/-! ### frames of the heap -/
theorem Same.upd {H : Hp} {p : Addr} {o : HO} (h : H p = none) : Same H (upd H p o) := fun b u e => by rw [upd_ne (ne_of_none e h)]; exact e
/-- all is as it was but at one place -/
def SameB (l : Addr) (H H' : Hp) : Prop := ∀ b o, H b = some o → b ≠ l → H' b = some o
theorem Same.b {H H' : Hp} {l : Addr} (e : Same H H') : SameB l H H' := fun b o h _ => e b o h
theorem SameB.refl (l : Addr) (H : Hp) : SameB l H H := fun _ _ h _ => h
theorem SameB.trans {l : Addr} {H H1 H2 : Hp} (a : SameB l H H1) (b : SameB l H1 H2) : SameB l H H2 := fun c o h n => b c o (a c o h n) n
theorem SameB.upd {l : Addr} {H : Hp} {o : HO} : SameB l H (upd H l o) := fun b u e n => by rw [upd_ne n]; exact e
/-! ### defs -/
structure Fn (K : PySem.W.Frag) (mg : Str → Option Value) (x : Str) (st : Stmt) (f : Addr) (fd : FuncData) (ps : List Str) : Prop where
  F : Fun K x x st f fd
  b : Binds K fd ps []
  m : mg x = some (.ref f)
section
variable {X : Cx} {x : Str} {st : Stmt} {f : Addr} {fd : FuncData} {ps : List Str} {sp : Sp} {k j : Nat} {e : Expr} {es : List Expr} {t : TA} {p pos : Pos}
theorem pe_fn (T : Fn X.K X.mg x st f fd ps) (G : FnOk X.prog X.w X.K X.mg X.base CX0 k f fd ps sp) (hr : Room j X.A) (hj : k ≤ j) (ha : PA X (e :: es) t) (hg : Gl X x := by rfl) (hdb : (x == ("__debug__" : Str)) = false := by decide)
    (he : starEach (e :: es) X.env = (false, eval e X.env) :: starEach es X.env := by rfl) (hpl : (backTo pos (starEach es X.env)).any (·.1) = false := by rfl) : PE X (.Call (.Name x p) (e :: es) [] pos) (tCall sp [] E0 t) :=
  pe_call G (hr.mono hj) hg T.m T.F.kp T.b .nil pass0 ha hdb he hpl
/-- a type's name -/
theorem pe_ty {n : Str} {T : String} {pos : Pos} (hm : X.mg n = none) (hv : bootBuiltins n = some (.type T)) (hg : Gl X n := by rfl) (hn : n ≠ "__name__" := by decide) (hd : (n == ("__debug__" : Str)) = false := by decide) : PE X (.Name n pos) (tC (.ty T)) :=
  pe_bltn hg hm hv rfl hn hd
end
/-! ### the forms one uses -/
end L2

set_option linter.all false
namespace L2
/-! ### lowest terms -/
def gS (a b : Int) : Int := if b < 0 then -(Int.gcd a b : Int) else (Int.gcd a b : Int)
theorem fdiv_mul_self {k x : Int} (h : k ≠ 0) : (k * x).fdiv k = x := Int.mul_fdiv_cancel_left x h
theorem gS_ne' {a b : Int} (h : b ≠ 0) : gS a b ≠ 0 := by
  have := Int.gcd_pos_of_ne_zero_right a h
  unfold gS; split <;> omega
/-- what it has -/
theorem low_has {n m : Int} (hm : m ≠ 0) : 0 < m.fdiv (gS n m) ∧ Int.gcd (n.fdiv (gS n m)) (m.fdiv (gS n m)) = 1 ∧ n.fdiv (gS n m) * m = n * m.fdiv (gS n m) := by
  have hp := Int.gcd_pos_of_ne_zero_right n hm
  obtain ⟨x, hx⟩ : gS n m ∣ n := by
    unfold gS; split
    · exact Int.neg_dvd.mpr (Int.gcd_dvd_left n m)
    · exact Int.gcd_dvd_left n m
  obtain ⟨y, hy⟩ : gS n m ∣ m := by
    unfold gS; split
    · exact Int.neg_dvd.mpr (Int.gcd_dvd_right n m)
    · exact Int.gcd_dvd_right n m
  have hg := gS_ne' (a := n) hm
  have e1 : n.fdiv (gS n m) = x := by
    conv => lhs; rw [hx]
    rw [← hx]
    conv => lhs; arg 1; rw [hx]
    exact fdiv_mul_self hg
  have e2 : m.fdiv (gS n m) = y := by
    conv => lhs; arg 1; rw [hy]
    exact fdiv_mul_self hg
  rw [e1, e2]
  have hab : (gS n m).natAbs = Int.gcd n m := by unfold gS; split <;> omega
  have hgcd : Int.gcd x y = 1 := by
    have : Int.gcd n m = Int.gcd (gS n m * x) (gS n m * y) := by rw [← hx, ← hy]
    rw [Int.gcd_mul_left, hab] at this
    have h1 : Int.gcd n m * 1 = Int.gcd n m * Int.gcd x y := by rw [Nat.mul_one]; exact this
    exact (Nat.eq_of_mul_eq_mul_left hp h1).symm
  refine ⟨?_, hgcd, ?_⟩
  · generalize hG : gS n m = G at *
    have hs : (m < 0 → G < 0) ∧ (¬ m < 0 → 0 < G) := by
      constructor
      · intro h
        rw [← hG]; unfold gS; rw [if_pos h]; omega
      · intro h
        rw [← hG]; unfold gS; rw [if_neg h]; omega
    by_cases h : m < 0
    · have h1 := hs.1 h
      by_cases h2 : 0 < y
      · exact h2
      · exfalso
        have := Int.mul_nonneg_of_nonpos_of_nonpos (a := G) (b := y) (by omega) (by omega)
        omega
    · have h1 := hs.2 h
      by_cases h2 : 0 < y
      · exact h2
      · exfalso
        have := Int.mul_nonpos_of_nonneg_of_nonpos (a := G) (b := y) (by omega) (by omega)
        omega
  · generalize hG : gS n m = G at *
    rw [hx, hy]
    grind
theorem low_le {n m : Int} (hm : m ≠ 0) : (n.fdiv (gS n m)).natAbs ≤ n.natAbs ∧ (m.fdiv (gS n m)).natAbs ≤ m.natAbs := by
  have hg := gS_ne' (a := n) hm
  have key : ∀ z, gS n m ∣ z → (z.fdiv (gS n m)).natAbs ≤ z.natAbs := by
    intro z hz
    obtain ⟨x, hx⟩ := hz
    have e : z.fdiv (gS n m) = x := by
      conv => lhs; arg 1; rw [hx]
      exact fdiv_mul_self hg
    rw [e, hx, Int.natAbs_mul]
    have h1 : 1 ≤ (gS n m).natAbs := by omega
    calc x.natAbs = 1 * x.natAbs := (Nat.one_mul _).symm
      _ ≤ (gS n m).natAbs * x.natAbs := Nat.mul_le_mul_right _ h1
  constructor
  · apply key
    unfold gS; split
    · exact Int.neg_dvd.mpr (Int.gcd_dvd_left n m)
    · exact Int.gcd_dvd_left n m
  · apply key
    unfold gS; split
    · exact Int.neg_dvd.mpr (Int.gcd_dvd_right n m)
    · exact Int.gcd_dvd_right n m
end L2

set_option linter.all false
namespace L2
/-! ### points of the plane by three numbers -/
structure Pt3 where
  x : Int
  y : Int
  z : Int
/-- in lowest terms at these homogeneous numbers -/
structure Is3 (A B C : Int) (r : Pt3) : Prop where
  pos : 0 < r.z
  cop : Int.gcd (Int.gcd r.z r.x) r.y = 1
  ex : ∃ d, 0 < d ∧ A = d * r.x ∧ B = d * r.y ∧ C = d * r.z
def Apart (p q : Pt3) : Prop := ¬ (p.x * q.z = q.x * p.z ∧ p.y * q.z = q.y * p.z)
theorem uniq3 {p q : Pt3} (hp : 0 < p.z) (hq : 0 < q.z) (gp : Int.gcd (Int.gcd p.z p.x) p.y = 1) (gq : Int.gcd (Int.gcd q.z q.x) q.y = 1) (h : ¬ Apart p q) : p.x = q.x ∧ p.y = q.y ∧ p.z = q.z := by
  have h' : p.x * q.z = q.x * p.z ∧ p.y * q.z = q.y * p.z := by
    unfold Apart at h; exact Decidable.of_not_not h
  have key : ∀ (a b : Pt3), Int.gcd (Int.gcd a.z a.x) a.y = 1 → a.x * b.z = b.x * a.z → a.y * b.z = b.y * a.z → a.z ∣ b.z := by
    intro a b g h1 h2
    have d1 : a.z ∣ ((Int.gcd a.z a.x : Nat) : Int) * b.z := by
      rw [← Int.dvd_natAbs, Int.natAbs_mul, Int.natAbs_natCast, ← Int.gcd_mul_right]
      exact Int.dvd_coe_gcd ⟨b.z, rfl⟩ ⟨b.x, by rw [h1, Int.mul_comm]⟩
    have d2 : a.z ∣ a.y * b.z := ⟨b.y, by rw [h2, Int.mul_comm]⟩
    have d3 : a.z ∣ ((Int.gcd ((Int.gcd a.z a.x : Nat) : Int) a.y : Nat) : Int) * b.z := by
      rw [← Int.dvd_natAbs, Int.natAbs_mul, Int.natAbs_natCast, ← Int.gcd_mul_right]
      exact Int.dvd_coe_gcd d1 d2
    rw [g] at d3
    simpa using d3
  have z1 := key p q gp h'.1 h'.2
  have z2 := key q p gq h'.1.symm h'.2.symm
  have ez : p.z = q.z := Int.dvd_antisymm (by omega) (by omega) z1 z2
  refine ⟨?_, ?_, ez⟩
  · have := h'.1
    rw [ez] at this
    exact Int.eq_of_mul_eq_mul_right (by omega) this
  · have := h'.2
    rw [ez] at this
    exact Int.eq_of_mul_eq_mul_right (by omega) this
theorem pt_has {a b c : Int} (hc : 0 < c) : let d : Int := Int.gcd (Int.gcd c a) b; Is3 a b c ⟨a.fdiv d, b.fdiv d, c.fdiv d⟩ ∧ 0 < d := by
  intro d
  have p1 : 0 < Int.gcd c a := Int.gcd_pos_of_ne_zero_left a (by omega)
  have p2 : 0 < Int.gcd ((Int.gcd c a : Nat) : Int) b := Int.gcd_pos_of_ne_zero_left b (by omega)
  have hd : 0 < d := by show 0 < ((Int.gcd ((Int.gcd c a : Nat) : Int) b : Nat) : Int); omega
  have dg : d ∣ ((Int.gcd c a : Nat) : Int) := Int.gcd_dvd_left _ _
  obtain ⟨z, hz⟩ : d ∣ c := Int.dvd_trans dg (Int.gcd_dvd_left c a)
  obtain ⟨x, hx⟩ : d ∣ a := Int.dvd_trans dg (Int.gcd_dvd_right c a)
  obtain ⟨y, hy⟩ : d ∣ b := Int.gcd_dvd_right _ _
  have ex : a.fdiv d = x := by
    conv => lhs; arg 1; rw [hx]
    exact fdiv_mul_self (by omega)
  have ey : b.fdiv d = y := by
    conv => lhs; arg 1; rw [hy]
    exact fdiv_mul_self (by omega)
  have ez : c.fdiv d = z := by
    conv => lhs; arg 1; rw [hz]
    exact fdiv_mul_self (by omega)
  rw [ex, ey, ez]
  refine ⟨⟨?_, ?_, d, hd, hx, hy, hz⟩, hd⟩
  · show 0 < z
    by_cases h : 0 < z
    · exact h
    · have := Int.mul_nonpos_of_nonneg_of_nonpos (a := d) (b := z) (by omega) (by omega)
      omega
  · show Int.gcd ((Int.gcd z x : Nat) : Int) y = 1
    have h1 : Int.gcd c a = d.natAbs * Int.gcd z x := by
      conv => lhs; rw [hz, hx]
      exact Int.gcd_mul_left d z x
    have h2 : d.natAbs = d.natAbs * Int.gcd ((Int.gcd z x : Nat) : Int) y := by
      have h3 : ((Int.gcd c a : Nat) : Int) = d * ((Int.gcd z x : Nat) : Int) := by
        rw [h1]
        have : ((d.natAbs : Nat) : Int) = d := by omega
        rw [Int.natCast_mul, this]
      have h4 : Int.gcd ((Int.gcd c a : Nat) : Int) b = d.natAbs * Int.gcd ((Int.gcd z x : Nat) : Int) y := by
        conv => lhs; rw [h3, hy]
        exact Int.gcd_mul_left d _ y
      exact h4
    have h5 : d.natAbs * 1 = d.natAbs * Int.gcd ((Int.gcd z x : Nat) : Int) y := by rw [Nat.mul_one]; exact h2
    exact (Nat.eq_of_mul_eq_mul_left (by omega) h5).symm
theorem Is3.le {A B C : Int} {r : Pt3} (h : Is3 A B C r) : r.x.natAbs ≤ A.natAbs ∧ r.y.natAbs ≤ B.natAbs ∧ r.z.natAbs ≤ C.natAbs := by
  obtain ⟨d, hd, e1, e2, e3⟩ := h.ex
  have key : ∀ z, z.natAbs ≤ (d * z).natAbs := fun z => by
    rw [Int.natAbs_mul]
    calc z.natAbs = 1 * z.natAbs := (Nat.one_mul _).symm
      _ ≤ d.natAbs * z.natAbs := Nat.mul_le_mul_right _ (by omega)
  exact ⟨by rw [e1]; exact key _, by rw [e2]; exact key _, by rw [e3]; exact key _⟩
end L2

set_option linter.all false
set_option maxRecDepth 100000
set_option maxHeartbeats 4000000
namespace L2
open PySem PySem.Spec PyProof.Rows
section
variable {X : Cx}
def rGetL (K : PySem.W.Frag) : V → V → Hp → VK → Prop := fun x y H Q => ∃ p xs i v, x = .ref p ∧ y = .int i ∧ 0 ≤ i ∧ SqL K H p xs ∧ atI xs i = some v ∧ Q v H
theorem get_list : PGet X (rGetL X.K) := by
  intro pins s σ H x y v u Q I rx ry h
  obtain ⟨p, xs, i, z, rfl, rfl, h0, hq, he, q⟩ := h
  cases rx
  obtain ⟨t, rfl⟩ := ry
  obtain ⟨its, r, pl, hz⟩ := I.list hq
  obtain ⟨j, h1, h2, h3, h4, h5⟩ := atI_get he
  obtain ⟨w, ew, rw'⟩ := r.get h2
  have hn := line63
  have hj : i.toNat = j := by
    rw [seqIndex_of h0 h5] at h1
    exact Option.some.inj h1
  exact wpAny_getItem_list pl.isList h0 (by omega) (by rw [hj]; simpa using ew) ⟨z, H, I, rw', q⟩
end
section
variable {σ : St} {H : Hp} {D : Ends} {rest : TS} {te to ti : TE} {v : V} {p : Addr} {xs : List V} {k i : Int} {j : Nat}
theorem st_put (h : Pu te σ H v) (ho : Pu to σ H (.ref p)) (hi : Pu ti σ H (.int k)) (hp : H p = some (.lst xs)) (hj : ixN xs.length k = some j) (q : rest D σ (upd H p (.lst (xs.set j v)))) : tSeq (tAsg te (gSub to ti rSetL)) rest D σ H :=
  h _ (ho _ (hi _ ⟨p, xs, k, j, rfl, rfl, hp, hj, q⟩))
theorem st_put1 (h : Pu te σ H v) (ho : Pu to σ H (.ref p)) (hi : Pu ti σ H (.int k)) (hp : H p = some (.lst xs)) (hj : ixN xs.length k = some j) (q : D.nx σ (upd H p (.lst (xs.set j v)))) : tAsg te (gSub to ti rSetL) D σ H :=
  h _ (ho _ (hi _ ⟨p, xs, k, j, rfl, rfl, hp, hj, q⟩))
theorem st_augI {K : PySem.W.Frag} {f : Int → Int → Int} {a b : Int} (ho : Pu to σ H (.ref p)) (hi : Pu ti σ H (.int k)) (h0 : 0 ≤ k) (hp : H p = some (.lst xs)) (ha : atI xs k = some (.int a)) (h : Pu te σ H (.int b)) (hj : ixN xs.length k = some j)
    (q : rest D σ (upd H p (.lst (xs.set j (.int (f a b)))))) : tSeq (tAugS to ti te (rGetL K) (ipI f) rSetL) rest D σ H :=
  ho _ (hi _ ⟨p, xs, k, .int a, rfl, rfl, h0, SqL.of hp, ha, h _ ⟨a, b, rfl, rfl, p, xs, k, j, rfl, rfl, hp, hj, q⟩⟩)
theorem st_while {c : TT} {tb : TS} (Pv : St → Hp → Prop) (μ : St → Hp → Nat) (h0 : Pv σ H)
    (hs : ∀ σ H, Pv σ H → ∃ b, PuT c σ H b ∧ (b = true → tb { D with nx := fun σ' H' => Pv σ' H' ∧ μ σ' H' < μ σ H, ct := fun σ' H' => Pv σ' H' ∧ μ σ' H' < μ σ H, bk := rest D } σ H) ∧ (b = false → rest D σ H)) :
    tSeq (tWhile c tb) rest D σ H := by
  refine ⟨fun m σ H => m = μ σ H ∧ Pv σ H, ⟨_, rfl, h0⟩, ?_⟩
  rintro m σ H ⟨rfl, p⟩
  obtain ⟨b, hb, h1, h2⟩ := hs σ H p
  refine hb _ ?_
  cases b with
  | true => rw [if_pos rfl]; exact ⟨_, fun σ' H' ⟨p', l⟩ => ⟨_, l, rfl, p'⟩, h1 rfl⟩
  | false => rw [if_neg Bool.false_ne_true]; exact h2 rfl
/-- for k in range(n) -/
theorem st_range {g : TG} {tb : TS} {ta : TA} {n : Int} (ha : PuA ta σ H [.int n]) (h1 : -(2 ^ 62) ≤ n) (h2 : n < 2 ^ 62) (Pv : Nat → St → Hp → Prop) (h0 : Pv 0 σ H)
    (hs : ∀ (i : Nat) σ H, i < n.toNat → Pv i σ H → g (.int (0 + i)) σ H fun σ2 H2 => tb { D with nx := Pv (i + 1), ct := Pv (i + 1), bk := rest D } σ2 H2) (hd : ∀ σ H, Pv n.toNat σ H → rest D σ H) :
    tSeq (tFor (iRng1 ta) g tb) rest D σ H :=
  ha _ ⟨n, rfl, h1, h2, for_range (D := { D with nx := rest D }) Pv h0 hs hd⟩
theorem st_rangeG {g : TG} {tb : TS} {ta : TA} {R : List V → Hp → Prop} (ha : GvA ta σ H R)
    (hr : ∀ vs H1, R vs H1 → ∃ n : Int, vs = [.int n] ∧ -(2 ^ 62) ≤ n ∧ n < 2 ^ 62 ∧ ∃ Pv : Nat → St → Hp → Prop, Pv 0 σ H1 ∧
    (∀ (i : Nat) σ H, i < n.toNat → Pv i σ H → g (.int (0 + i)) σ H fun σ2 H2 => tb { D with nx := Pv (i + 1), ct := Pv (i + 1), bk := rest D } σ2 H2) ∧ (∀ σ H, Pv n.toNat σ H → rest D σ H)) :
    tSeq (tFor (iRng1 ta) g tb) rest D σ H :=
  ha _ fun vs H1 r => by
    obtain ⟨n, rfl, h1, h2, Pv, h0, hs, hd⟩ := hr vs H1 r
    exact ⟨n, rfl, h1, h2, for_range (D := { D with nx := rest D }) Pv h0 hs hd⟩
end
theorem kit_int_bool {K : PySem.W.Frag} : PySem.W.kitOne K (.type "int") (.type "bool") = some false := by
  unfold PySem.W.kitOne
  rw [if_neg (by decide)]
  show (if PySem.W.kitMeta "bool" = true then (PySem.fastBuiltinMro "int").map (·.contains (Value.type "bool")) else none) = some false
  decide +kernel
/-- a tuple of ints that is tracked -/
def TupT (H : Hp) (v : V) (ns : List Int) : Prop := ∃ a, v = .ref a ∧ H a = some (.tup (ns.map V.int))
theorem TupT.i {K : PySem.W.Frag} {H : Hp} {v : V} {ns : List Int} (h : TupT H v ns) : TupI K H v ns := by
  obtain ⟨a, rfl, h⟩ := h
  exact ⟨a, rfl, SqT.of h⟩
theorem TupT.same {H H' : Hp} {v : V} {ns : List Int} (h : TupT H v ns) (e : Same H H') : TupT H' v ns := by
  obtain ⟨a, rfl, h⟩ := h
  exact ⟨a, rfl, e _ _ h⟩
theorem TupT.sameB {H H' : Hp} {l : Addr} {ys : List V} {v : V} {ns : List Int} (h : TupT H v ns) (e : SameB l H H') (hl : H l = some (.lst ys)) : TupT H' v ns := by
  obtain ⟨a, rfl, h⟩ := h
  exact ⟨a, rfl, e _ _ h (ne_of h hl (by intro z; cases z))⟩
theorem TupT.of {H : Hp} {a : Addr} {ns : List Int} (h : H a = some (.tup (ns.map V.int))) : TupT H (.ref a) ns := ⟨a, rfl, h⟩
theorem Bd.small {i : Int} {n : Nat} (h : i.natAbs < 2 ^ 64 := by decide) (e : 64 ≤ n := by decide) : Bd n i := Bd.mono (m := 64) h e
/-! ### no cell in a block -/
/-! ### the greatest common divisor -/
theorem gcd_step {x y : Int} (h1 : 0 ≤ x) (h2 : 0 ≤ y) : Int.gcd y (x.fmod y) = Int.gcd x y := by
  rw [Int.fmod_eq_emod_of_nonneg _ h2]
  obtain ⟨m, rfl⟩ := Int.eq_ofNat_of_zero_le h1
  obtain ⟨n, rfl⟩ := Int.eq_ofNat_of_zero_le h2
  rw [← Int.natCast_emod]
  show Nat.gcd n (m % n) = Nat.gcd m n
  rw [Nat.gcd_comm, ← Nat.gcd_rec, Nat.gcd_comm]
theorem fmod_lt {x y : Int} (h2 : 0 < y) : 0 ≤ x.fmod y ∧ x.fmod y < y := by
  rw [Int.fmod_eq_emod_of_nonneg _ (Int.le_of_lt h2)]
  exact ⟨Int.emod_nonneg _ (by omega), Int.emod_lt_of_pos _ h2⟩
theorem gcd_zero (x : Int) (h : 0 ≤ x) : ((Int.gcd x 0 : Nat) : Int) = x := by
  rw [Int.gcd_zero_right]; omega
theorem gcd_pos {a b : Int} (h : b ≠ 0) : 0 < Int.gcd a b := Int.gcd_pos_of_ne_zero_right a h
theorem Bd.gcd_right {n : Nat} {a b : Int} (hb : b ≠ 0) (h : Bd n b) : Bd n (Int.gcd a b : Int) := by
  refine h.le ?_
  exact Nat.le_of_dvd (by omega) (Int.gcd_dvd_natAbs_right a b)
theorem gS_ne {a b : Int} (h : b ≠ 0) : gS a b ≠ 0 := by
  have := gcd_pos (a := a) h
  unfold gS; split <;> omega
theorem gS_bd {n : Nat} {a b : Int} (h : b ≠ 0) (hb : Bd n b) : Bd n (gS a b) := by
  have := Bd.gcd_right (a := a) h hb
  unfold gS; split
  · exact this.neg
  · exact this
/-! ### more statements -/
section
variable {σ : St} {H : Hp} {D : Ends} {rest : TS} {te : TE} {b : Bool} {k : Nat} {v0 : V}
theorem st_ifN {tc : TT} {t : TS} (h : PuT tc σ H b) (q1 : b = true → t { D with nx := rest D } σ H) (q2 : b = false → rest D σ H) : tSeq (tIfS tc t tNext) rest D σ H := st_if h q1 q2
theorem st_ifNG {tc : TT} {t : TS} {R : Bool → Hp → Prop} (h : GvT tc σ H R) (q1 : ∀ H', R true H' → t { D with nx := rest D } σ H') (q2 : ∀ H', R false H' → rest D σ H') : tSeq (tIfS tc t tNext) rest D σ H := st_ifG h q1 q2
theorem st_ifN1 {tc : TT} {t : TS} (h : PuT tc σ H b) (q1 : b = true → t D σ H) (q2 : b = false → D.nx σ H) : tIfS tc t tNext D σ H := st_if1 h q1 q2
theorem st_ifSet {tc : TT} {R : V → Hp → Prop} (hc : PuT tc σ H b) (he : b = true → Gv te σ H R) (h0 : σ.set k (some v0) = σ) (r0 : b = false → R v0 H) (q : ∀ v H', R v H' → rest D (σ.set k (some v)) H') :
    tSeq (tIfS tc (tAsg te (gName k)) tNext) rest D σ H := by
  refine st_if hc (fun e => st_setG1 (he e) q) fun e => ?_
  have := q v0 H (r0 e)
  rw [h0] at this
  exact this
end
/-! ### comprehensions by what they give -/
/-! ### tuples in lists -/
/-! ### the hand of a law -/
def HandAt (H : Hp) (hd sc : Addr) : Prop := ∃ (ns : List Int) (i b c p q : Int), H hd = some (.lst [.ref sc, .int i, .int b, .int c, .int p, .int q]) ∧ H sc = some (.lst (ns.map V.int)) ∧ 0 ≤ i
theorem HandAt.ne {H : Hp} {hd sc : Addr} {ns : List Int} {i b c p q : Int} (h1 : H hd = some (.lst [.ref sc, .int i, .int b, .int c, .int p, .int q])) (h2 : H sc = some (.lst (ns.map V.int))) : sc ≠ hd := by
  intro e
  subst e
  rw [h1] at h2
  cases ns with
  | nil => simp at h2
  | cons n r => simp at h2
theorem HandAt.same {H H' : Hp} {hd sc : Addr} (h : HandAt H hd sc) (e : Same H H') : HandAt H' hd sc := by
  obtain ⟨ns, i, b, c, p, q, h1, h2, h0⟩ := h
  exact ⟨ns, i, b, c, p, q, e _ _ h1, e _ _ h2, h0⟩
theorem HandAt.ls {H : Hp} {hd sc : Addr} (h : HandAt H hd sc) : ∃ ys, H hd = some (.lst ys) := by
  obtain ⟨ns, i, b, c, p, q, h1, _⟩ := h
  exact ⟨_, h1⟩
end L2

set_option linter.all false
set_option maxRecDepth 100000
set_option maxHeartbeats 4000000
namespace L2
open PySem PySem.Spec PyProof.Rows
/-- a point laid as a tuple; how long its numbers are -/
def AtP (H : Hp) (v : V) (p : Pt3) : Prop := TupT H v [p.x, p.y, p.z]
structure Sz (n : Nat) (p : Pt3) : Prop where
  x : Bd n p.x
  y : Bd n p.y
  z : Bd n p.z
theorem Sz.is3 {n : Nat} {A B C : Int} {r : Pt3} (h : Is3 A B C r) (a : Bd n A) (b : Bd n B) (c : Bd n C) : Sz n r := ⟨a.le h.le.1, b.le h.le.2.1, c.le h.le.2.2⟩
/-! ### sums of fractions -/
def L3 (p : Pt3) : List Int := [p.x, p.y, p.z]
/-! ### a comprehension that catches one name -/
/-! ### lists of points -/
end L2

set_option linter.all false
namespace L2
/-! ### what two sides share -/
theorem Pt3.ext' {p q : Pt3} (h1 : p.x = q.x) (h2 : p.y = q.y) (h3 : p.z = q.z) : p = q := by
  cases p; cases q; simp only at h1 h2 h3; subst h1 h2 h3; rfl
structure Lp (p : Pt3) : Prop where
  pos : 0 < p.z
  cop : Int.gcd (Int.gcd p.z p.x) p.y = 1
theorem Lp.eq {p q : Pt3} (hp : Lp p) (hq : Lp q) (h : ¬ Apart p q) : p = q := by
  obtain ⟨h1, h2, h3⟩ := uniq3 hp.pos hq.pos hp.cop hq.cop h
  exact Pt3.ext' h1 h2 h3
def gS3 (a b c : Int) : Int := if c < 0 then -(Int.gcd (Int.gcd a b) c : Int) else (Int.gcd (Int.gcd a b) c : Int)
def pbF (a b c : Int) : Pt3 := ⟨a.fdiv (gS3 a b c), b.fdiv (gS3 a b c), c.fdiv (gS3 a b c)⟩
theorem gS3_ne {a b c : Int} (h : c ≠ 0) : gS3 a b c ≠ 0 := by
  have := Int.gcd_pos_of_ne_zero_right ((Int.gcd a b : Nat) : Int) h
  unfold gS3; split <;> omega
theorem gcd3_rot (x y z : Int) : Int.gcd ((Int.gcd x y : Nat) : Int) z = Int.gcd ((Int.gcd z x : Nat) : Int) y := by
  rw [Int.gcd_comm, ← Int.gcd_assoc]
theorem pb_has {a b c : Int} (h : c ≠ 0) : Lp (pbF a b c) ∧ ∃ k, k ≠ 0 ∧ a = k * (pbF a b c).x ∧ b = k * (pbF a b c).y ∧ c = k * (pbF a b c).z := by
  have hg := gS3_ne (a := a) (b := b) h
  have hp := Int.gcd_pos_of_ne_zero_right ((Int.gcd a b : Nat) : Int) h
  have key : ∀ z, ((Int.gcd ((Int.gcd a b : Nat) : Int) c : Nat) : Int) ∣ z → z = gS3 a b c * z.fdiv (gS3 a b c) := by
    intro z hz
    have : gS3 a b c ∣ z := by
      unfold gS3; split
      · exact Int.neg_dvd.mpr hz
      · exact hz
    obtain ⟨w, hw⟩ := this
    have e : z.fdiv (gS3 a b c) = w := by
      conv => lhs; arg 1; rw [hw]
      exact fdiv_mul_self hg
    rw [e]; exact hw
  have dg : ((Int.gcd ((Int.gcd a b : Nat) : Int) c : Nat) : Int) ∣ ((Int.gcd a b : Nat) : Int) := Int.gcd_dvd_left _ _
  have ea := key a (Int.dvd_trans dg (Int.gcd_dvd_left a b))
  have eb := key b (Int.dvd_trans dg (Int.gcd_dvd_right a b))
  have ec := key c (Int.gcd_dvd_right _ _)
  refine ⟨⟨?_, ?_⟩, gS3 a b c, hg, ea, eb, ec⟩
  · show 0 < c.fdiv (gS3 a b c)
    by_cases hc : c < 0
    · have hG : gS3 a b c < 0 := by unfold gS3; rw [if_pos hc]; omega
      by_cases h2 : 0 < c.fdiv (gS3 a b c)
      · exact h2
      · have := Int.mul_nonneg_of_nonpos_of_nonpos (a := gS3 a b c) (b := c.fdiv (gS3 a b c)) (by omega) (by omega)
        omega
    · have hG : 0 < gS3 a b c := by unfold gS3; rw [if_neg hc]; omega
      by_cases h2 : 0 < c.fdiv (gS3 a b c)
      · exact h2
      · have := Int.mul_nonpos_of_nonneg_of_nonpos (a := gS3 a b c) (b := c.fdiv (gS3 a b c)) (by omega) (by omega)
        omega
  · show Int.gcd ((Int.gcd (c.fdiv (gS3 a b c)) (a.fdiv (gS3 a b c)) : Nat) : Int) (b.fdiv (gS3 a b c)) = 1
    rw [← gcd3_rot]
    generalize hx : a.fdiv (gS3 a b c) = x at *
    generalize hy : b.fdiv (gS3 a b c) = y at *
    generalize hz : c.fdiv (gS3 a b c) = z at *
    have hab : (gS3 a b c).natAbs = Int.gcd ((Int.gcd a b : Nat) : Int) c := by unfold gS3; split <;> omega
    generalize gS3 a b c = G at *
    have h1 : Int.gcd a b = G.natAbs * Int.gcd x y := by
      conv => lhs; rw [ea, eb]
      exact Int.gcd_mul_left G x y
    have h2 : Int.gcd ((Int.gcd a b : Nat) : Int) c = G.natAbs * Int.gcd ((Int.gcd x y : Nat) : Int) z := by
      have e1 : Int.gcd ((Int.gcd a b : Nat) : Int) c = Int.gcd (G * ((Int.gcd x y : Nat) : Int)) (G * z) := by
        rw [← ec]
        unfold Int.gcd
        rw [Int.natAbs_mul, Int.natAbs_natCast, Int.natAbs_natCast]
        congr 1
      rw [e1, Int.gcd_mul_left]
    rw [← hab] at h2
    have h5 : G.natAbs * 1 = G.natAbs * Int.gcd ((Int.gcd x y : Nat) : Int) z := by rw [Nat.mul_one]; exact h2
    exact (Nat.eq_of_mul_eq_mul_left (by omega) h5).symm
/-! ### the order of points -/
/-! ### on one line -/
end L2

set_option linter.all false
set_option maxRecDepth 100000
set_option maxHeartbeats 4000000
namespace L2
open PySem PySem.Spec PyProof.Rows
/-! ### tuples of points -/
section
variable {σ : St} {H : Hp} {ta tb te : TE} {K : PySem.W.Frag} {x y : V} {b : Bool} {D : Ends} {rest : TS}
theorem st_tupl {g : TG} {tb : TS} {a : Addr} {xs : List V} (ha : Pu te σ H (.ref a)) (Pv : Nat → St → Hp → Prop) (h0 : Pv 0 σ H) (hl : ∀ i σ H, i ≤ xs.length → Pv i σ H → SqT K H a xs)
    (hs : ∀ (i : Nat) x σ H, xs[i]? = some x → Pv i σ H → g x σ H fun σ2 H2 => tb { D with nx := Pv (i + 1), ct := Pv (i + 1), bk := rest D } σ2 H2) (hd : ∀ σ H, Pv xs.length σ H → rest D σ H) :
    tSeq (tFor (iTup K te) g tb) rest D σ H :=
  ha _ ⟨a, rfl, ⟨xs, hl 0 σ H (Nat.zero_le _) h0⟩, for_tup (D := { D with nx := rest D }) Pv h0 hl hs hd⟩
end
/-! ### sizes of what is told -/
end L2

set_option linter.all false
namespace L2
/-! ### just what is shared -/
end L2

set_option linter.all false
set_option maxRecDepth 100000
set_option maxHeartbeats 4000000
namespace L2
open PySem PySem.Spec PyProof.Rows
/-! ### zip -/
/-! ### the invariant behind a turn of several objects -/
/-! ### zip walked -/
/-! ### zip made -/
end L2

set_option linter.all false
set_option maxRecDepth 100000
set_option maxHeartbeats 4000000
namespace L2
open PySem PySem.Spec PyProof.Rows
/-! ### how far a point lies, how long its bottom is -/
/-! ### more readings -/
/-! ### lists of sides -/
end L2

set_option linter.all false
namespace L2
/-! ### one place, one tuple -/
theorem one_place {p r : Pt3} {k d a b c : Int} (lp : Lp p) (lr : Lp r) (hk : k ≠ 0) (hd : d ≠ 0) (a1 : a = k * p.x) (b1 : b = k * p.y) (c1 : c = k * p.z) (a2 : a = d * r.x) (b2 : b = d * r.y) (c2 : c = d * r.z) : p = r := by
  refine lp.eq lr fun ap => ap ⟨?_, ?_⟩
  · have : (k * d) * (p.x * r.z) = (k * d) * (r.x * p.z) := by
      have h1 : (k * d) * (p.x * r.z) = (k * p.x) * (d * r.z) := by grind
      have h2 : (k * d) * (r.x * p.z) = (d * r.x) * (k * p.z) := by grind
      rw [h1, h2, ← a1, ← c1, ← a2, ← c2]
    exact Int.eq_of_mul_eq_mul_left (Int.mul_ne_zero hk hd) this
  · have : (k * d) * (p.y * r.z) = (k * d) * (r.y * p.z) := by
      have h1 : (k * d) * (p.y * r.z) = (k * p.y) * (d * r.z) := by grind
      have h2 : (k * d) * (r.y * p.z) = (d * r.y) * (k * p.z) := by grind
      rw [h1, h2, ← b1, ← c1, ← b2, ← c2]
    exact Int.eq_of_mul_eq_mul_left (Int.mul_ne_zero hk hd) this
theorem pb_is3 {a b c : Int} {r : Pt3} (hc : c ≠ 0) (h : Is3 a b c r) : pbF a b c = r := by
  obtain ⟨lp, k, hk, e1, e2, e3⟩ := pb_has (a := a) (b := b) hc
  obtain ⟨d, hd, f1, f2, f3⟩ := h.ex
  exact one_place lp ⟨h.pos, h.cop⟩ hk (by omega) e1 e2 e3 f1 f2 f3
end L2

set_option linter.all false
namespace L2
end L2

set_option linter.all false
set_option maxRecDepth 100000
set_option maxHeartbeats 4000000
namespace L2
open PySem PySem.Spec PyProof.Rows
/-! ### exceptions: how one lies behind a call -/
section
variable {P : Program} {w : World} {H H' : Hp} {h h' : Heap} {a : Addr} {o : HO}
theorem ObjOk.some (x : ObjOk P w H h a o) : ∃ u, h.get? a = some u := by
  cases o with
  | lst xs => obtain ⟨_, _, _, _, e⟩ := x; exact ⟨_, e⟩
  | tup xs => obtain ⟨_, _, _, o, e, _⟩ := x; exact ⟨_, e⟩
  | dK kvs => obtain ⟨_, _, _, _, o, _, _, e, _⟩ := x; exact ⟨_, e⟩
  | dT kvs => obtain ⟨_, _, _, _, o, _, _, e, _⟩ := x; exact ⟨_, e⟩
  | set S n => obtain ⟨o, _, _, _, e, _⟩ := x; exact ⟨_, e⟩
  | ins C dx fs => obtain ⟨_, _, _, e, _⟩ := x; exact ⟨_, e⟩
  | own y => exact x
  | xd fs => obtain ⟨_, ⟨_, _, _, e, _⟩, _⟩ := x; exact ⟨_, e⟩
  | rng lo hi => obtain ⟨_, _, _, e⟩ := x; exact ⟨_, e⟩
  | frz ob u => obtain ⟨e, _⟩ := x; exact ⟨_, e⟩
  | tbl ps => exact ⟨_, (show h.get? a = some _ from x)⟩
  | met f y => exact ⟨_, (show h.get? a = some _ from x)⟩
  | ext φ => obtain ⟨_, e, _⟩ := x; exact e
end
/-- an object of this class stands there -/
def isOf (a : Addr) (cls : Value) : Heap → Prop := fun h => ∃ o, h.get? a = some o ∧ o.cls = cls
/-- the ground B holds all that was there but the frames; the exception flies over it -/
structure Lay (P : Program) (w : World) (outer : List Env) (H H1 : Hp) (s : Shared) (ea : Addr) (B h : Heap) : Prop where
  hok : HOk P w H1 B
  new : H1 ea = none
  keep : ∀ b o, s.heap.get? b = some o → H b = none → b ∉ frs outer → B.get? b = some o
  slot : ∀ b o, s.heap.get? b = some o → H b = none → b ∈ frs outer → ∃ sl, h.get? b = some { o with slots := sl }
  there : ∀ b o, s.heap.get? b = some o → b ∉ frs outer → ∃ o', B.get? b = some o'
  free : ∀ b o, s.heap.get? b = some o → H b = none → H1 b = none
  tups : ∀ b xs, H b = some (.tup xs) → H1 b = some (.tup xs)
  frzs : ∀ b o u, H b = some (.frz o u) → H1 b = some (.frz o u)
  tbls : ∀ b ps, H b = some (.tbl ps) → ∃ more, H1 b = some (.tbl (ps ++ more))
def CXE (P : Program) (w : World) : CXT := fun outer H s E e s' =>
  ∃ (ea t : Addr) (H1 : Hp) (cls : Value) (B : Heap), e = .ref ea ∧ s'.os = s.os ∧ AllBare s'.gens ∧ E cls none H1 ∧ Heap.FlyingW B outer ea cls (.ref t) s'.heap ∧ Lay P w outer H H1 s ea B s'.heap
/-! ### own classes of exceptions: each straight under one that is straight under ValueError -/
def veB : List Value := [.type "ValueError", .type "Exception", .type "BaseException", .type "object"]
def noInit (K : PySem.W.Frag) (N : Addr) : Bool := PySem.W.nsOkIn K N && (match PySem.W.nsIn K N "__init__" with | some none => true | _ => false)
def exK (K : PySem.W.Frag) (C : Addr) : Bool := match K.lookup C with
  | some ⟨.type "type", _, .cls cd, sl⟩ => (match cd.mro, sl.toList with
    | [.ref C', .ref D, .type "ValueError", .type "Exception", .type "BaseException", .type "object"], [_, _, _, _, some (.builtin "ValueError.__new__"), _] => C' == C && !cd.hasDel && noInit K cd.ns && (match K.lookup D with
      | some ⟨_, _, .cls cd2, _⟩ => noInit K cd2.ns
      | _ => false)
    | _, _ => false)
  | _ => false
theorem noInit_ns {K : PySem.W.Frag} {h : Heap} {N : Addr} (X : K.In h) (e : noInit K N = true) : ∃ m, h.Ns N m ∧ m "__init__" = none := by
  unfold noInit at e
  rw [Bool.and_eq_true] at e
  obtain ⟨e1, e2⟩ := e
  refine ⟨h.nsMap N, .of_isNs (PySem.W.isNs_of_in X e1), PySem.W.nsMap_none_of_in X e1 ?_⟩
  split at e2
  · assumption
  · cases e2
theorem exK_obj {K : PySem.W.Frag} {h : Heap} {C : Addr} (X : K.In h) (e : exK K C = true) : ∃ nm qn N bs D hdct sn sub ab col dd k0 k1 k2 k3 k5 mN,
    h.get? C = some (excClassObj nm qn C N bs (.ref D :: veB) hdct sn sub ab col dd k0 k1 k2 k3 k5 "ValueError.__new__") ∧ h.Ns N mN ∧ mN "__init__" = none ∧ OwnTail h veB (.ref D :: veB) := by
  unfold exK at e
  split at e
  · rename_i dd cd sl ho
    split at e
    · rename_i C' D k0 k1 k2 k3 k5 hm hs
      simp only [Bool.and_eq_true, beq_iff_eq, Bool.not_eq_true'] at e
      obtain ⟨⟨⟨rfl, hdel⟩, hN⟩, e4⟩ := e
      obtain ⟨nm, bs, mro, ns, qn, hd, sn, sub, ab, col, del⟩ := cd
      dsimp only at hm hdel hN
      subst hm hdel
      have hsl : sl = #[k0, k1, k2, k3, some (.builtin "ValueError.__new__"), k5] := by
        obtain ⟨l⟩ := sl
        simp only at hs
        rw [hs]
      subst hsl
      obtain ⟨mN, n1, n2⟩ := noInit_ns X hN
      split at e4
      · rename_i hD
        obtain ⟨mD, d1, d2⟩ := noInit_ns X e4
        exact ⟨nm, qn, ns, bs, D, hd, sn, sub, ab, col, dd, k0, k1, k2, k3, k5, mN, X _ _ ho, n1, n2, .own (X _ _ hD) d1 d2 .base⟩
      · cases e4
    · cases e
  · cases e
/-! ### raise -/
section
variable {P : Program} {w : World} {K : PySem.W.Frag} {mg : Str → Option Value} {base : Heap} {N : List Str} {qual : Str} {scope : Scope} {f : Addr} {cd : Value} {A : Around} {outer : List Env} {s : Shared} {H : Hp} {E : XK}
theorem ps_raise0 {x : Str} {np cpos pos : Pos} {C : Addr} (hC : exK K C = true) (hm : mg x = some (.ref C)) (hg : Gl (cxOf (CXE P w) P w K mg base N qual scope f cd A outer s H E) x) (hd : (x == ("__debug__" : Str)) = false := by decide) :
    PS (cxOf (CXE P w) P w K mg base N qual scope f cd A outer s H E) (.Raise (some (.Call (.Name x np) [] [] cpos)) none pos) (fun _ _ H1 => E (.ref C) none H1) := by
  intro pins s1 σ H1 D I hE
  obtain ⟨nm, qn, N', bs, D', hdct, sn, sub, ab, col, dd, k0, k1, k2, k3, k5, mN, hCo, hN, hni, T⟩ := exK_obj I.kIn hC
  refine wpAny_Raise_call_subU (C := C) (nm := nm) (q := qn) (N := N') (bs := bs) (bm := .ref D' :: veB) (hdct := hdct) (sn := sn) (sub := sub) (ab := ab) (col := col) (dd := dd) (k0 := k0) (k1 := k1) (k2 := k2) (k3 := k3) (k5 := k5) PySem.F.excBase_ValueError (by decide +kernel) PySem.F.excBase_ValueError (mN := mN) (T.hasType PySem.F.excBase_ValueError.hasBase) (I.ok.hd rfl) rfl hni (ld_glob I hg hm ⟨rfl, ?_⟩ hd)
  refine evalArgs_empty ⟨rfl, Nat.zero_le _, hCo, hN, T, fun h' e hx => ?_⟩
  have fr : ∀ b ∈ frs (envOfC qual scope s.heap.objs.size f cd :: outer), H1 b = none := I.stkFree
  have hin : ∀ env ∈ (envOfC qual scope s.heap.objs.size f cd :: outer), ∀ b, env.frame = some b → b ∈ frs (envOfC qual scope s.heap.objs.size f cd :: outer) := fun env he b hb => List.mem_filterMap.mpr ⟨env, he, hb⟩
  refine wpAny_leaves_madeW (s := { s1 with heap := h' }) (base := PySem.W.hideAll s1.heap (frs (envOfC qual scope s.heap.objs.size f cd :: outer))) (h := s1.heap) I.ok.frames rfl (fun b o q => PySem.W.of_hideAll _ q) (PySem.W.funFrames_hide I.stack hin) hx fun h2 t x1 x2 x3 x4 => ?_
  have nf : ∀ {b : Addr} {o : Obj}, s.heap.get? b = some o → b ∉ frs outer → b ∉ frs (envOfC qual scope s.heap.objs.size f cd :: outer) := fun {b o} e n z => by
    have z' : b ∈ s.heap.objs.size :: frs outer := z
    rcases List.mem_cons.mp z' with q | q
    · exact absurd (Heap.lt_size e) (by rw [q]; exact Nat.lt_irrefl _)
    · exact n q
  refine ⟨e, t, H1, .ref C, _, rfl, I.os, I.bare, hE, x1, ⟨fun a o q => ?_, ?_, fun b o q n hb => ?_, fun b o q n hb => ?_, fun b o q hb => ?_, fun b o q n => I.base.free b o q n (by exact List.not_mem_nil), I.base.tups, I.base.frzs, I.base.tbls⟩⟩
  · refine (I.hok a o q).stay (fun b u hb z => PySem.W.hideAll_get _ z fun hm => ?_) (fun _ z => z) fun _ _ z => z
    have := fr b hm
    rcases hb with rfl | hb
    · rw [q] at this; cases this
    · rw [hb] at this; cases this
  · cases q : H1 e with
    | none => rfl
    | some o =>
      obtain ⟨u, hu⟩ := (I.hok e o q).some
      rw [hx.new] at hu; cases hu
  · exact PySem.W.hideAll_get _ (I.base.keep b o q n hb List.not_mem_nil) (nf q hb)
  · obtain ⟨sl, z⟩ := I.base.slot b o q n hb List.not_mem_nil
    obtain ⟨_, o', ho', hd'⟩ := I.ok.funs.mem hb
    rw [show (cxOf (CXE P w) P w K mg base N qual scope f cd A outer s H E).s₀.heap.get? b = some o from q] at ho'
    cases ho'
    obtain ⟨sl2, z2⟩ := x4 b _ (hx.keeps b _ z) hd'
    exact ⟨sl2, z2⟩
  · obtain ⟨o', z⟩ := I.base.there b o q List.not_mem_nil
    exact ⟨o', PySem.W.hideAll_get _ z (nf q hb)⟩
end
/-! ### a def that may raise -/
theorem Fun.okE {P : Program} {w : World} {K : PySem.W.Frag} {mg : Str → Option Value} {base : Heap} {x qual : Str} {st : Stmt} {f : Addr} {fd : FuncData} {N ps : List Str} {k : Nat} {sp : Sp} (F : Fun K x qual st f fd) (S : FnScope N ps (defScope st)) (len : ∀ vs H Q E, sp vs H Q E → vs.length = ps.length)
    (hbody : ∀ (cdv : Value) (A : Around) (outer : List Env) (s : Shared) (H : Hp) (vs : List V) (Q : VK) (E : XK), Room k (A.deeper (envOfC qual (defScope st) s.heap.objs.size f cdv)) → sp vs H Q E →
      ∃ t, PSs (cxOf (CXE P w) P w K mg base N qual (defScope st) f cdv A outer s H E) (defBody st) t ∧ t { nx := fun _ H' => Q .non H', rt := Q } (start N vs) H) : FnOk P w K mg base (CXE P w) (k + 1) f fd ps sp := by
  obtain ⟨oc, od, kV, doc, pm, an, cdv, ct, osl, rfl, lk, hcd⟩ := F.ex
  exact fn_of lk hcd S len fun A outer s H vs Q E hr hsp => hbody cdv A outer s H vs Q E hr hsp
/-! ### try: name = f(..) except C as n -/
/-- within an except suite -/
abbrev Cx.suite (X : Cx) (ea : Addr) : Cx := { X with A := X.A.mark (some (.ref ea)), calm := false, xe := fun _ _ => False }
section
variable {X : Cx} {pins : List (Addr × Obj)} {σ : St} {H H1 : Hp} {s s' : Shared} {h : Heap} {ea : Addr}
theorem Cx.Ok.suite (ok : X.Ok) (ea : Addr) : (X.suite ea).Ok :=
  ⟨ok.mod, ok.kind, ok.glob, ok.blt, ok.above, ok.inj, ok.has, ok.cab, fun z => (nomatch z), ok.frames, ok.stk, ok.exf, ok.bs, ok.bsz, ok.noex, ok.exfs, ok.funs, ok.frf⟩
theorem Inv.suite (I : Inv X pins σ H s) (ea : Addr) : Inv (X.suite ea) pins σ H s := ⟨I.ok.suite ea, I.os, I.bare, I.base, I.loc, I.cell, I.free, I.freeC, I.pin, I.hok, I.len⟩
theorem Inv.unsuite (ok : X.Ok) (I : Inv (X.suite ea) pins σ H s) : Inv X pins σ H s := ⟨ok, I.os, I.bare, I.base, I.loc, I.cell, I.free, I.freeC, I.pin, I.hok, I.len⟩
/-- the catcher's state with the exception at hand -/
theorem Inv.caught {B : Heap} {cls a0 : Value} (I : Inv X pins σ H s) (L : Lay X.prog X.w X.stack H H1 s ea B s'.heap) (os : s'.os = s.os) (bare : AllBare s'.gens) (up : s'.heap.UpToSlots h) (fl : Heap.FlyingW B X.stack ea cls a0 h) :
    Inv X pins σ (upd H1 ea (.ext (isOf ea cls))) { s' with heap := h } := by
  have hf : ∀ b o, s.heap.get? b = some o → b ∈ frs X.stack → ∀ vs, o.data ≠ .fields vs := fun b o e hb => by
    obtain ⟨_, o', ho', hd'⟩ := I.stack.mem hb
    rw [e] at ho'; cases ho'; exact hd'
  obtain ⟨ob, vs, hob, hoc, hod, _⟩ := fl.first
  have slot : ∀ b o, s.heap.get? b = some o → H b = none → b ∈ frs X.stack → ∃ sl, h.get? b = some { o with slots := sl } := fun b o e n hb => by
    obtain ⟨sl, z⟩ := L.slot b o e n hb
    obtain ⟨sl2, z2⟩ := up b { o with slots := sl } z (hf b o e hb)
    exact ⟨sl2, z2⟩
  have ne : ∀ b o, s.heap.get? b = some o → b ≠ ea := fun b o e z => by
    subst z
    by_cases hb : b ∈ frs X.stack
    · obtain ⟨sl, q⟩ := slot b o e (I.stkFree b hb) hb
      rw [hob] at q
      cases q
      exact hf b o e hb _ hod
    · obtain ⟨o', q⟩ := L.there b o e hb
      rw [fl.2.1] at q; cases q
  have hB : HOk X.prog X.w H1 h := L.hok.kept fun b u q => fl.1 b u q
  refine I.call' (s' := { s' with heap := h }) (ch := []) os ⟨fun b o e n hb _ => fl.1 b o (L.keep b o e n hb), fun b o e n hb _ => slot b o e n hb, fun b o e n _ => by rw [upd_ne (ne b o e)]; exact L.free b o e n, fun b o e _ => ?_, fun b xs e => ?_, fun b o u e => ?_, fun b ps e => ?_⟩ (fun a o e => ?_) bare (fun _ z => nomatch z)
  · by_cases hb : b ∈ frs X.stack
    · obtain ⟨sl, q⟩ := slot b o e (I.stkFree b hb) hb
      exact ⟨_, q⟩
    · obtain ⟨o', q⟩ := L.there b o e hb
      exact ⟨o', fl.1 b o' q⟩
  · have := L.tups b xs e
    rw [upd_ne (ne_of_none this L.new)]; exact this
  · have := L.frzs b o u e
    rw [upd_ne (ne_of_none this L.new)]; exact this
  · obtain ⟨more, q⟩ := L.tbls b ps e
    exact ⟨more, by rw [upd_ne (ne_of_none q L.new)]; exact q⟩
  · by_cases ha : a = ea
    · subst ha
      rw [upd_same] at e
      cases e
      exact ⟨⟨ob, hob, hoc⟩, ⟨ob, hob⟩, fun h1 h2 ⟨o, e1, e2⟩ k => ⟨o, k o e1, e2⟩⟩
    · rw [upd_ne ha] at e
      exact (hB a o e).stay (fun _ _ _ q => q) (fun c q => by rw [upd_ne (ne_of_none q L.new)]; exact q) fun c xs q => by rw [upd_ne (ne_of_none q L.new)]; exact q
/-- a name is gone -/
theorem Inv.unset {j : Nat} {n : Str} {m : Str → Option Value} {v : Option Value} {h' : Heap} {t' : Nat} (I : Inv X pins σ H s) (hN : X.N.Nodup) (hj : X.N[j]? = some n) (hn : s.heap.Ns X.env.locals m)
    (hl : ∀ (i : Nat) (x : Str) (v : V), X.N[i]? = some x → σ[i]? = some (some v) → Vis X.env.scope x → ∃ u, RelV v u ∧ Look X.env s.heap m x u)
    (hn' : h'.Ns X.env.locals (fun x => if x = n then v else m x)) (hs : Heap.SameBut X.env.locals s.heap h') : Inv X pins (σ.set j none) H { s with heap := h', toks := t' } := by
  have cne := I.cne
  obtain ⟨oL, _, _, hoL, _⟩ := id hn
  refine ⟨I.ok, I.os, I.bare, ⟨fun b o e n hb hx => ?_, fun b o e n hb hx => ?_, I.base.free, fun b o e hx => ?_, I.base.tups, I.base.frzs, I.base.tbls⟩, ⟨_, hn', fun i y v' e1 e2 e3 => ?_⟩, fun y c e => ?_, I.free, I.freeC, fun p hp => ?_, fun b ob e => ?_, by simpa using I.len⟩
  · exact (hs.2 b (Nat.ne_of_lt (Nat.lt_of_lt_of_le (Heap.lt_size e) I.ok.above))).trans (I.base.keep b o e n hb hx)
  · obtain ⟨sl, e1⟩ := I.base.slot b o e n hb hx
    exact ⟨sl, (hs.2 b (Nat.ne_of_lt (Nat.lt_of_lt_of_le (Heap.lt_size e) I.ok.above))).trans e1⟩
  · obtain ⟨o', e1⟩ := I.base.there b o e hx
    exact ⟨o', (hs.2 b (Nat.ne_of_lt (Nat.lt_of_lt_of_le (Heap.lt_size e) I.ok.above))).trans e1⟩
  · by_cases hi : i = j
    · subst hi
      by_cases hlt : i < σ.length
      · rw [List.getElem?_set_self hlt] at e2; cases e2
      · rw [List.getElem?_eq_none (by simpa using hlt)] at e2; cases e2
    · rw [List.getElem?_set_ne (Ne.symm hi)] at e2
      obtain ⟨u', r', q⟩ := hl i y v' e1 e2 e3
      refine ⟨u', r', ?_⟩
      rcases q with ⟨k, e⟩ | ⟨k, c, e, z⟩
      · refine .inl ⟨k, ?_⟩
        have : y ≠ n := fun e => hi (nodup_ix hN e1 (e ▸ hj))
        simp [this, e]
      · exact .inr ⟨k, c, e, z.sameBut hs (cne y c e)⟩
  · obtain ⟨w', z⟩ := I.cell y c e
    exact ⟨w', z.sameBut hs (cne y c e)⟩
  · obtain ⟨e, n, ne, nf, d⟩ := I.pin p hp
    exact ⟨(hs.2 p.1 ne).trans e, n, ne, nf, d⟩
  · refine (I.hok b ob e).stay (fun c w' hc q => (hs.2 c ?_).trans q) (fun _ q => q) fun _ _ q => q
    rintro rfl
    have hfree := I.free
    rcases hc with rfl | hc
    · rw [hfree] at e; cases e
    · rw [hfree] at hc; cases hc
end
/-! ### isinstance of an exception -/
/-- what the fragment must tell of an exception's class -/
def exC (K : PySem.W.Frag) (C : Addr) : Bool := PySem.W.findIn K (.ref C) "__getattribute__" == some (some (.builtin "BaseException.__getattribute__")) && PySem.W.findIn K (.ref C) "__getattr__" == some none && PySem.W.mroIn K C (.type "BaseException") == some true && PySem.W.hasDictIn K C && PySem.W.findIn K (.ref C) "__class__" == some (some (.builtin "object.__class__")) &&
  PySem.W.specialIn K (.builtin "object.__class__") "__get__" == some (some (.builtin "getset_descriptor.__get__")) && PySem.W.takesIn K (.builtin "object.__class__") == some true && PySem.W.mroIn K C (.type "object") == some true
section
open PySem.W PySem.Calls Builtin Builtin.ObjectAttr Builtin.Getset_descriptor
variable {K : PySem.W.Frag} {x C : Addr}
theorem looks_findD {M : Model} {h : Heap} {nm : Str} {a g : Value} (X : K.In h) (ha : PySem.W.findIn K (.ref C) nm = some (some a)) (hg : PySem.W.specialIn K a "__get__" = some (some g)) (ht : PySem.W.takesIn K a = some true) :
    Looks M h (find (.ref x) (.ref C) nm) (.bind g a) := by
  have l1 := PySem.W.looks_findIn (M := M) X ha
  have l2 : Looks M h (getOf (some a)) (some g) := PySem.W.looks_specialIn X hg
  have l3 := PySem.W.looks_takesIn (M := M) X ht
  exact l1.andThen (l2.andThen ((show Looks M h (dataDescriptor? (some a) (some g)) (some (g, a)) from l3.andThen .now).andThen (Looks.tag .now)))
theorem isOf_ty {M : Model} {h : Heap} (p : isOf x (.ref C) h) : Looks M h (typeOf (.ref x)) (.ref C) := by
  obtain ⟨o, h1, h2⟩ := p
  exact h2 ▸ (Looks.ld h1).andThen .now
section
open PySem.W
variable {prog : Program} {w : World} {A : Around} {E : Value → Shared → Prop} {s : Shared}
theorem xc_get {tp : Value} {R : Result → Shared → Prop} (X : K.In s.heap) (p : isOf x (.ref C) s.heap) (hm : mroIn K C (.type "object") = some true) (h : R (.ok (.ret (.ref C))) s) :
    codeAny (model prog w) A (.call (.builtin "getset_descriptor.__get__") ⟨[.builtin "object.__class__", .ref x, tp], []⟩) R s := by
  obtain ⟨hh, g, dr, t, os⟩ := s
  have L0 := isOf_ty (M := model prog w) p
  have L1 := looks_mroIn (M := model prog w) X hm
  refine codeAny_call_builtin KF.slot_gs.plain KF.entry_gs (KF.slot_gs.check _ _ _ _ _ _ _ _ KF.type_class (KF.args_gs _ _ _) ?_)
  unfold Builtin.«getset_descriptor.__get__» descrGet
  rw [dga_obj]
  refine wpAny_bind (wpAny_pure ?_)
  unfold descrGetter descrCheckInstance descrNameAndClass isInstance
  simp only [KF.owner_class]
  repeat lk
  refine ⟨Code.quiet_builtin _ (by decide +kernel), codeAny_builtin KF.entry_class ?_⟩
  unfold Builtin.«object.__class__» shownTypeOf
  repeat lk
  exact h
theorem xc_call {tk : Tok} {R : Result → Shared → Prop} (X : K.In s.heap) (p : isOf x (.ref C) s.heap) (hb : mroIn K C (.type "BaseException") = some true)
    (ha : findIn K (.ref C) "__class__" = some (some (.builtin "object.__class__"))) (hn : specialIn K (.builtin "object.__class__") "__get__" = some (some (.builtin "getset_descriptor.__get__"))) (ht : takesIn K (.builtin "object.__class__") = some true) (hm : mroIn K C (.type "object") = some true)
    (h : R (.ok (.ret (.ref C))) s) : codeAny (model prog w) A (.call (.builtin "BaseException.__getattribute__") ⟨[.ref x, .str "__class__" tk], []⟩) R s := by
  obtain ⟨hh, g, d, t, os⟩ := s
  have L0 := isOf_ty (M := model prog w) p
  have LB := looks_mroIn (M := model prog w) X hb
  have LF : Looks (model prog w) hh (find (.ref x) (.ref C) "__class__") (.bind (.builtin "getset_descriptor.__get__") (.builtin "object.__class__")) := looks_findD X ha hn ht
  have hk : builtinKind "BaseException.__getattribute__" = some .slot := by decide +kernel
  have hsp : splitId "BaseException.__getattribute__" = some ("BaseException", "__getattribute__") := by decide +kernel
  have har := F.args_bexc_ga (.ref x) (.str "__class__" tk)
  refine codeAny_call_builtin PySem.F.excAttr_ValueError.ga.plain F.entry_bexc_ga ?_
  simp only [checkBuiltinCall, hk, hsp]
  refine wpAny_bind ?_
  unfold isInstance
  repeat lk
  refine (show wpAny _ _ (PySem.run (.call (.builtin "getset_descriptor.__get__") ⟨[.builtin "object.__class__", .ref x, .ref C], []⟩)) _ _ _ from wpAny_run (xc_get (s := ⟨hh, g, d, t, os⟩) X p hm ?_))
  exact wpAny_pure (wpAny_pure h)
theorem xc_attr {Q : Option Value → Shared → Prop} (X : K.In s.heap) (p : isOf x (.ref C) s.heap) (hga : findIn K (.ref C) "__getattribute__" = some (some (.builtin "BaseException.__getattribute__"))) (hk : findIn K (.ref C) "__getattr__" = some none) (hb : mroIn K C (.type "BaseException") = some true)
    (ha : findIn K (.ref C) "__class__" = some (some (.builtin "object.__class__"))) (hn : specialIn K (.builtin "object.__class__") "__get__" = some (some (.builtin "getset_descriptor.__get__"))) (ht : takesIn K (.builtin "object.__class__") = some true) (hm : mroIn K C (.type "object") = some true)
    (q : Q (some (.ref C)) { s with toks := s.toks + 1 }) : wpAny (model prog w) A (getAttr? (.ref x) "__class__") Q E s := by
  obtain ⟨hh, g, d, t, os⟩ := s
  have L0 := isOf_ty (M := model prog w) p
  have L1 := looks_findIn (M := model prog w) X hga
  have L2 := looks_findIn (M := model prog w) X hk
  have fb := PySem.F.excAttr_ValueError.ga.bind (.ref x)
  unfold getAttr? getAttrBy? getAttrBy
  refine wpAny_bind (wpAny_mkText (wpAny_bind (wpAny_attempt (wpAny_holding (wpAny_bind (L0.at (wpAny_bind (L1.at ?_))))))))
  show wpAny _ _ (getAttrByItsOwn (.ref x) _ (.ref C) (.builtin "BaseException.__getattribute__") false false) _ _ _
  unfold getAttrByItsOwn
  refine wpAny_bind (m := hookBefore (.ref C)) (L2.at ?_)
  refine wpAny_bind (wpAny_attempt (wpAny_holding (wpAny_bind (wpAny_of_eq fb (wpAny_call (xc_call (s := ⟨hh, g, d, t + 1, os⟩) X p hb ha hn ht hm ?_))))))
  exact handed_on rfl (wpAny_pure q)
theorem kitx_exc (hx : exC K C = true) : KitX K (.ref x) (.ref C) (isOf x (.ref C)) := by
  unfold exC at hx
  simp only [Bool.and_eq_true, beq_iff_eq] at hx
  obtain ⟨⟨⟨⟨⟨⟨⟨hga, hk⟩, hb⟩, hdct⟩, ha⟩, hn⟩, ht⟩, hm⟩ := hx
  obtain ⟨cdD, hcD, _⟩ := any_some hdct
  unfold clsIn at hcD
  split at hcD
  · rename_i c' d' cd' sl' ho
    refine ⟨fun M h _ p => isOf_ty p, fun M h X _ A' Q' E' s' k q => ?_, fun h tp dd its n sl X htp => Bool.eq_false_iff.mpr fun q => ?_, fun X p k => xc_attr X p hga hk hb ha hn ht hm k⟩
    · unfold isType loadHead
      exact wpAny_bind (wpAny_loadPart (k _ _ (X _ _ ho)) (wpAny_pure q))
    · have e : C = tp := Value.ref.inj (beq_iff_eq.mp q)
      subst e
      have z := (X _ _ ho).symm.trans htp
      cases z
  · cases hcD
end
end
/-- a class as isinstance takes it -/
inductive IsCls : V → Value → Prop where
  | ref (a : Addr) : IsCls (.ref a) (.ref a)
  | ty (n : String) : IsCls (.ty n) (.type n)
section
variable {X : Cx}
theorem call_isinstE : CallR X (.builtin "isinstance") (fun xs H Q => ∃ a C c u b, xs = [.ref a, c] ∧ H a = some (.ext (isOf a (.ref C))) ∧ exC X.K C = true ∧ IsCls c u ∧ PySem.W.kitOne X.K (.ref C) u = some b ∧ Q (.bl b) H) := by
  intro pins s σ H xs us Q I r h
  obtain ⟨a, C, c, u, b, rfl, ha, hx, hc, e, q⟩ := h
  obtain ⟨v, u', rfl, ru, rv⟩ := vals2 r
  cases (show v = Value.ref a from ru)
  have eu : u' = u := by
    cases hc with
    | ref a' => exact rv
    | ty n => exact rv
  subst eu
  obtain ⟨p, _, _⟩ := (show ObjOk X.prog X.w H s.heap a (.ext (isOf a (.ref C))) from I.hok a _ ha)
  exact PySem.W.kia_one (kitx_exc hx) I.kIn p e (fun z => nomatch z) fun tk => ⟨.bl b, H, I.tok _, rfl, q⟩
theorem call_isinstK {K : PySem.W.Frag} (hK : X.K = K) : CallR X (.builtin "isinstance") (fun xs H Q => ∃ a C c u b, xs = [.ref a, c] ∧ H a = some (.ext (isOf a (.ref C))) ∧ exC K C = true ∧ IsCls c u ∧ PySem.W.kitOne K (.ref C) u = some b ∧ Q (.bl b) H) := by
  subst hK; exact call_isinstE
theorem pe_cls {n : Str} {C : Addr} {pos : Pos} (hm : X.mg n = some (.ref C)) (hg : Gl X n := by rfl) (hd : (n == ("__debug__" : Str)) = false := by decide) : PE X (.Name n pos) (tC (.ref C)) :=
  fun pins s σ H Q I h => ld_glob I hg hm ⟨.ref C, H, I, rfl, h⟩ hd
end
theorem pu_isE {K : PySem.W.Frag} {σ : St} {H : Hp} {t : TA} {a C : Addr} {c : V} {u : Value} {b : Bool} (ha : PuA t σ H [.ref a, c]) (h : H a = some (.ext (isOf a (.ref C)))) (hx : exC K C = true) (hc : IsCls c u) (e : PySem.W.kitOne K (.ref C) u = some b) :
    Pu (tCB (fun xs H Q => ∃ a C c u b, xs = [.ref a, c] ∧ H a = some (.ext (isOf a (.ref C))) ∧ exC K C = true ∧ IsCls c u ∧ PySem.W.kitOne K (.ref C) u = some b ∧ Q (.bl b) H) t) σ H (.bl b) := fun _ q => ha _ ⟨a, C, c, u, b, rfl, h, hx, hc, e, q⟩
end L2

set_option linter.all false
set_option maxRecDepth 100000
set_option maxHeartbeats 4000000
namespace L2
open PySem PySem.Spec PyProof.Rows
/-! ### dict(a list of pairs), the keys tuples -/
end L2

set_option linter.all false
set_option maxRecDepth 100000
set_option maxHeartbeats 4000000
namespace L2
open PySem PySem.Spec PyProof.Rows
end L2

set_option linter.all false
set_option maxRecDepth 100000
set_option maxHeartbeats 4000000
namespace L2
open PySem PySem.Spec PyProof.Rows
end L2

set_option linter.all false
set_option maxRecDepth 100000
set_option maxHeartbeats 4000000
namespace L2
open PySem PySem.Spec PyProof.Rows
/-! ### the keys walked -/
end L2

set_option linter.all false
set_option maxRecDepth 100000
set_option maxHeartbeats 4000000
namespace L2
open PySem PySem.Spec PyProof.Rows
theorem Inv.bigS {X : Cx} {pins : List (Addr × Obj)} {σ : St} {H : Hp} {s : Shared} (I : Inv X pins σ H s) : sysModules < s.heap.objs.size := by
  have h : mainGlobals < s.heap.objs.size := (I.mod.glob.keeps I.bk).lt
  exact Nat.lt_trans (by decide) h
end L2

set_option linter.all false
set_option maxRecDepth 100000
set_option maxHeartbeats 4000000
namespace L2
open PySem PySem.Spec PyProof.Rows
end L2

set_option linter.all false
set_option maxRecDepth 100000
set_option maxHeartbeats 4000000
namespace L2
open PySem PySem.Spec PyProof.Rows
end L2

set_option linter.all false
set_option maxRecDepth 100000
set_option maxHeartbeats 4000000
namespace L2
open PySem PySem.Spec PyProof.Rows PySem.W
end L2

set_option linter.all false
set_option maxRecDepth 100000
set_option maxHeartbeats 4000000
namespace L2
open PySem PySem.Spec PyProof.Rows
end L2

set_option linter.all false
set_option maxRecDepth 100000
set_option maxHeartbeats 4000000
namespace L2
open PySem PySem.Spec PyProof.Rows
end L2

set_option linter.all false
set_option maxRecDepth 100000
set_option maxHeartbeats 4000000
namespace L2
open PySem PySem.Spec PyProof.Rows
end L2

set_option linter.all false
set_option maxRecDepth 100000
set_option maxHeartbeats 4000000
namespace L2
open PySem PySem.Spec PyProof.Rows
end L2

set_option linter.all false
set_option maxRecDepth 100000
set_option maxHeartbeats 4000000
namespace L2
open PySem PySem.Spec PyProof.Rows
end L2

set_option linter.all false
set_option maxRecDepth 100000
set_option maxHeartbeats 4000000
namespace L2
open PySem PySem.Spec PyProof.Rows
/-! ### rows of points, laid -/
end L2

set_option linter.all false
set_option maxRecDepth 100000
set_option maxHeartbeats 4000000
namespace L2
open PySem PySem.Spec PyProof.Rows
end L2

set_option linter.all false
set_option maxRecDepth 100000
set_option maxHeartbeats 4000000
namespace L2
open PySem PySem.Spec PyProof.Rows
end L2

set_option linter.all false
set_option maxRecDepth 100000
set_option maxHeartbeats 4000000
namespace L2
open PySem PySem.Spec PyProof.Rows
end L2

set_option linter.all false
set_option maxRecDepth 100000
set_option maxHeartbeats 4000000
namespace L2
open PySem PySem.Spec PyProof.Rows
section
variable {σ : St} {H : Hp} {D : Ends} {rest : TS} {ta tb te to : TE} {b : Bool} {k : Nat} {v0 : V} {i j : Int} {l : Addr} {xs : List V} {K : PySem.W.Frag} {t : TA}
theorem st_ifRG {tc : TT} {u : TS} {RB : Bool → Hp → Prop} (R : St → Hp → Prop) (hc : GvT tc σ H RB) (h1 : ∀ H1, RB true H1 → ∀ D' : Ends, (∀ σ' H', R σ' H' → D'.nx σ' H') → D'.rt = D.rt → u D' σ H1) (h0 : ∀ H1, RB false H1 → R σ H1) (q : ∀ σ' H', R σ' H' → rest D σ' H') : tSeq (tIfS tc u tNext) rest D σ H :=
  st_ifNG hc (fun H1 e => h1 H1 e _ q rfl) (fun H1 e => q _ _ (h0 H1 e))
end
theorem gv_tupG {σ : St} {H : Hp} {t : TA} {RA : List V → Hp → Prop} (h : GvA t σ H RA) (hz : ∀ vs H1, RA vs H1 → vs.length ≤ sizeLine) : Gv (tTup t) σ H (fun v H' => ∃ vs H1 p, RA vs H1 ∧ H1 p = none ∧ v = .ref p ∧ H' = upd H1 p (.tup vs)) := fun Q q => h _ fun vs H1 r => ⟨hz vs H1 r, fun p hp => q _ _ ⟨vs, H1, p, r, hp, rfl, rfl⟩⟩
theorem Same.rfl' {H : Hp} : Same H H := fun _ _ e => e
end L2

set_option linter.all false
set_option maxRecDepth 100000
set_option maxHeartbeats 4000000
namespace L2
open PySem PySem.Spec PyProof.Rows
section
variable {P : Program} {w : World} {K : PySem.W.Frag} {mg : Str → Option Value} {base : Heap} {N : List Str} {qual : Str} {scope : Scope} {f : Addr} {cd : Value} {A : Around} {outer : List Env} {s : Shared} {H : Hp} {E : XK}
/-- an exception of a callee goes on through this frame -/
theorem passX : Passes (CXE P w) (cxOf (CXE P w) P w K mg base N qual scope f cd A outer s H E) E := by
  rintro pins σ H1 s1 e s' I ⟨ea, t, H2, cls, B, rfl, os, bare, hE, fl, L⟩
  refine wpAny_leaves_onW I.ok.frames rfl fl fun h' fl' up => ?_
  have nf : ∀ {b : Addr} {o : Obj}, s.heap.get? b = some o → b ∉ frs outer → b ∉ frs (envOfC qual scope s.heap.objs.size f cd :: outer) := fun {b o} e n z => by
    have z' : b ∈ s.heap.objs.size :: frs outer := z
    rcases List.mem_cons.mp z' with q | q
    · exact absurd (Heap.lt_size e) (by rw [q]; exact Nat.lt_irrefl _)
    · exact n q
  have inn : ∀ {b : Addr}, b ∈ frs outer → b ∈ frs (envOfC qual scope s.heap.objs.size f cd :: outer) := fun {b} h => by
    show b ∈ s.heap.objs.size :: frs outer
    exact List.mem_cons_of_mem _ h
  have fre : ∀ b o, s.heap.get? b = some o → H b = none → H1 b = none := fun b o q n => I.base.free b o q n (by exact List.not_mem_nil)
  refine ⟨ea, t, H2, cls, B, rfl, os.trans I.os, bare, hE, fl', ⟨L.hok, L.new, fun b o q n hb => ?_, fun b o q n hb => ?_, fun b o q hb => ?_, fun b o q n => ?_, fun b xs q => L.tups b xs (I.base.tups b xs q), fun b o u q => L.frzs b o u (I.base.frzs b o u q), fun b ps q => ?_⟩⟩
  · exact L.keep b o (I.base.keep b o q n hb List.not_mem_nil) (fre b o q n) (nf q hb)
  · obtain ⟨sl, z⟩ := I.base.slot b o q n hb List.not_mem_nil
    obtain ⟨sl2, z2⟩ := L.slot b _ z (fre b o q n) (inn hb)
    obtain ⟨_, o', ho', hd'⟩ := I.ok.funs.mem hb
    rw [show (cxOf (CXE P w) P w K mg base N qual scope f cd A outer s H E).s₀.heap.get? b = some o from q] at ho'
    cases ho'
    obtain ⟨sl3, z3⟩ := up b _ z2 hd'
    exact ⟨sl3, z3⟩
  · obtain ⟨o', z⟩ := I.base.there b o q List.not_mem_nil
    exact L.there b o' z (nf q hb)
  · obtain ⟨sl, z⟩ := I.base.any q n List.not_mem_nil
    exact L.free b _ z (fre b o q n)
  · obtain ⟨m1, z1⟩ := I.base.tbls b ps q
    obtain ⟨m2, z2⟩ := L.tbls b _ z1
    exact ⟨m1 ++ m2, by rw [z2, Array.append_assoc]⟩
end
section
variable {X : Cx} {k j : Nat} {f : Addr} {fd : FuncData} {ps : List Str} {sp : Sp} {x : Str} {st : Stmt} {p pos : Pos} {e : Expr} {es : List Expr} {t : TA} {E : XK} {P : Program} {w : World}
/-- a call of a def that may raise, the exception going on -/
theorem pe_fnX (T : Fn X.K X.mg x st f fd ps) (G : FnOk X.prog X.w X.K X.mg X.base (CXE P w) k f fd ps sp) (hr : Room j X.A) (hj : k ≤ j) (hx : Passes (CXE P w) X E) (ha : PA X (e :: es) t) (hg : Gl X x := by rfl) (hdb : (x == ("__debug__" : Str)) = false := by decide)
    (he : starEach (e :: es) X.env = (false, eval e X.env) :: starEach es X.env := by rfl) (hpl : (backTo pos (starEach es X.env)).any (·.1) = false := by rfl) : PE X (.Call (.Name x p) (e :: es) [] pos) (tCall sp [] E t) :=
  pe_call G (hr.mono hj) hg T.m T.F.kp T.b .nil hx ha hdb he hpl
end
/-- of a def that is never reached nothing is asked -/
def spNo : Sp := fun _ _ _ _ => False
theorem Fun.okNo {P : Program} {w : World} {K : PySem.W.Frag} {mg : Str → Option Value} {base : Heap} {x qual : Str} {st : Stmt} {f : Addr} {fd : FuncData} {N ps : List Str} (F : Fun K x qual st f fd) (S : FnScope N ps (defScope st)) : FnOk P w K mg base CX0 1 f fd ps spNo :=
  F.ok (k := 0) S (fun _ _ _ _ h => h.elim) fun _ _ _ _ _ _ _ _ _ h => h.elim
section
variable {X : Cx}
/-- for .. in zip(a, b), where an argument raises -/
theorem ps_forZipX {tg e1 e2 : Expr} {body : List Stmt} {ta : TA} {p pos pos' : Pos} (hg : Gl X "zip") (hm : X.mg "zip" = none) (hb : bootBuiltins "zip" = some (.type "zip")) (ha : PA X [e1, e2] ta)
    (hs : starEach [e1, e2] X.env = [(false, eval e1 X.env), (false, eval e2 X.env)] := by rfl) (hs2 : starEach [e2] X.env = [(false, eval e2 X.env)] := by rfl) (hf : ∀ x, foldedSetIterable (.Call (.Name "zip" p) [e1, e2] [] pos') X.env x = pure x := by intro _; rfl) :
    PS X (.For tg (.Call (.Name "zip" p) [e1, e2] [] pos') body [] pos) (fun _ σ H => ta σ H fun _ _ => False) := by
  intro pins s σ H D I h
  refine wpAny_For (Call_ (ld_blt I hg hm hb (PyProof.Rows.callWith_type1 (thn (ha pos' pins s σ H _ I h) fun us s1 ⟨vs, H1, I1, r1, q1⟩ => q1.elim) (by rw [hs, hs2]) (by rw [hs2]; rfl)))) hf
end
/-! ### {} -/
def tNewD : TE := fun _ H Q => ∀ p, H p = none → Q (.ref p) (upd H p (.dK []))
theorem pe_newD {X : Cx} {pos : Pos} : PE X (.Dict [] [] pos) tNewD := fun pins s σ H Q I h =>
  wpAny_Dict_empty ⟨.ref s.heap.objs.size, _, I.laid (a := s.heap.objs.size) (o := .dK []) (t' := s.toks) (fun _ _ q => Heap.get?_push_of_some _ q) (Nat.le_refl _)
    ⟨Nat.zero_le _, beq_eq_false_iff_ne.mpr (Nat.ne_of_gt I.bigS), [], .nil, Heap.DictOf.new s.heap⟩, rfl, h _ (I.hok.fresh (Nat.le_refl _))⟩
/-! ### try: f(..) except C as n: .., with return -/
section
variable {X : Cx} {pins : List (Addr × Obj)} {σ : St} {H H1 : Hp} {s s' : Shared} {h : Heap} {ea : Addr}
def tTryE (j : Nat) (K : PySem.W.Frag) (C : Addr) (sp : Sp) (ta : TA) (ts : TS) : TS := fun D σ H => ta σ H fun vs H1 => sp vs H1 (fun _ H2 => D.nx σ H2)
  (fun cls _ H2 => PySem.W.exmOne K cls (.ref C) = some true ∧ ∀ ea, H2 ea = none → ts { nx := fun σ' H' => D.nx (σ'.set j none) H', rt := fun v H' => D.rt v H', bk := fun _ _ => False, ct := fun _ _ => False } (σ.set j (some (.ref ea))) (upd H2 ea (.ext (isOf ea cls))))
theorem st_tryE {j : Nat} {K : PySem.W.Frag} {C : Addr} {sp : Sp} {ta : TA} {ts rest : TS} {D : Ends} {vs : List V} (ha : PuA ta σ H vs)
    (h : sp vs H (fun _ H2 => rest D σ H2) (fun cls _ H2 => PySem.W.exmOne K cls (.ref C) = some true ∧ ∀ ea, H2 ea = none → ts { nx := fun σ' H' => rest D (σ'.set j none) H', rt := fun v H' => D.rt v H', bk := fun _ _ => False, ct := fun _ _ => False } (σ.set j (some (.ref ea))) (upd H2 ea (.ext (isOf ea cls))))) : tSeq (tTryE j K C sp ta ts) rest D σ H := ha _ h
theorem ps_tryE {j k : Nat} {fn cn n : Str} {pf pc pa np hp pos : Pos} {f C : Addr} {fd : FuncData} {ps : List Str} {sp : Sp} {e : Expr} {es : List Expr} {ta : TA} {ts : TS} {b₀ : Stmt} {suite : List Stmt}
    (hxe : X.xe = fun _ _ => False) (hstk : X.stack = X.env :: X.outer) (hfr : X.env.frame = some X.env.locals) (hcalm : X.calm = true)
    (G : FnOk X.prog X.w X.K X.mg X.base (CXE X.prog X.w) k f fd ps sp) (hr : Room k X.A) (hgf : Gl X fn) (hmf : X.mg fn = some (.ref f)) (hkf : PySem.W.keepIn X.K (.ref f) = true) (hb : Binds X.K fd ps []) (ha : PA X (e :: es) ta)
    (hN : X.N.Nodup) (hj : X.N[j]? = some n) (hn : X.env.scope.names.lookup n = some .local)
    (hgC : Gl X cn) (hmC : X.mg cn = some (.ref C)) (hs : ∀ ea, PSs (X.suite ea) (b₀ :: suite) ts)
    (hsw : swapsWith (.Call (.Name fn pf) (e :: es) [] pc) none pa.line X.env = pure false := by rfl)
    (hdb : (fn == ("__debug__" : Str)) = false := by decide) (hdc : (cn == ("__debug__" : Str)) = false := by decide) (he : starEach (e :: es) X.env = (false, eval e X.env) :: starEach es X.env := by rfl) (hpl : (backTo pc (starEach es X.env)).any (·.1) = false := by rfl) :
    PS X (.Try [.Expr (.Call (.Name fn pf) (e :: es) [] pc) pa] [.ExceptHandler (some (.Name cn np)) (some n) (b₀ :: suite) hp] [] [] pos) (tTryE j X.K C sp ta ts) := by
  intro pins s σ H D I h
  refine wpAny_Try_except ?_
  refine wpAny_execs_cons (wpAny_Expr_any (wpAny_Call_Name_kw (ld_glob I hgf hmf ?_ hdb)) I.quiet hsw)
  refine PySem.W.callWith_K (h₀ := X.base) I.ok.mod.kin hkf (wpAny_mono (ha pc pins s σ H _ I h) (fun us s1 ⟨vs, H1, I1, r, q⟩ => ⟨I1.kIn, ?_⟩) fun _ _ z => by rw [hxe] at z; exact z.elim) he hpl
  have hl : (us ++ []).length = ps.length := by rw [List.append_nil, ← r.length]; exact G.len _ _ _ _ q
  have hbd := hb s1 us I1.kIn hl
  rw [List.append_nil] at hbd
  refine wpAny_call (codeAny_mono (G.run X.A X.stack s1 H1 ⟨us, []⟩ us vs _ _ hr I1.env0 hbd r q) fun res s2 hq => ?_)
  cases res with
  | ok fl =>
    cases fl with
    | next => exact False.elim hq
    | brk => exact False.elim hq
    | cont => exact False.elim hq
    | ret u =>
      obtain ⟨v, H2, I2, rv, q2⟩ := I1.after hq
      exact wpAny_execs_nil (wpAny_execs_nil ⟨_, H2, I2, q2⟩)
  | error ex =>
    obtain ⟨ea, t, H2, cls, B, rfl, os, bare, ⟨hm, hE⟩, fl, L⟩ := hq
    have fl' := fl
    rw [hstk] at fl'
    refine wpAny_looks_onW (by rw [I.ok.frames, hstk]) hfr fl' fun h4 held4 up4 => ?_
    refine wpAny_landsW (s := { s2 with heap := h4 }) held4 fun h5 fl5 up5 => ?_
    have up45 := up4.trans up5
    have I5 := I1.caught L os bare up45 (by rw [hstk]; exact fl5)
    obtain ⟨ob, hob, hobc⟩ := fl5.there
    refine wpAny_handleBy_cons (codeAny_handlers_test (ld_glob (X := X.suite ea) (I5.suite ea) hgC hmC ?_ hdc)) (by intro z; cases z)
    have LT : PySem.W.Looks (model X.prog X.w) h5 (typeOf (.ref ea)) cls := hobc ▸ (PySem.W.Looks.ld hob).andThen .now
    refine (PySem.W.exm_one (K := X.K) I5.kIn LT hm).at (codeAny_handlers_suite_as ?_)
    refine lands_againW (s := { s2 with heap := h5 }) fl5 fun h6 fl6 up6 => ?_
    have I6 := (I1.caught L os bare (up45.trans up6) (by rw [hstk]; exact fl6)).suite ea
    refine store_ok (X := X.suite ea) I6 hN hj (.inl hn) (show RelV (.ref ea) (.ref ea) from rfl) (fun s7 I7 => ?_) (.inr hn)
    refine wpAny_mono (hs ea pins s7 _ _ _ I7 (hE ea L.new)) (fun fl s8 q8 => ?_) fun _ _ z => z.elim
    cases fl with
    | next =>
      obtain ⟨σ8, H8, I8, q⟩ := q8
      have I8' := I8.unsuite I.ok
      obtain ⟨m, hm, hlk⟩ := id I8'.loc
      exact wpAny_nameGoes_keeps hn hm (by rw [I.ok.kind]; rfl) fun h9 v9 n9 sb9 => ⟨_, H8, I8'.unset hN hj hm hlk n9 sb9, q⟩
    | brk => obtain ⟨_, _, _, q⟩ := q8; exact q.elim
    | cont => obtain ⟨_, _, _, q⟩ := q8; exact q.elim
    | ret u =>
      obtain ⟨v8, σ8, H8, I8, r8, q⟩ := q8
      have I8' := I8.unsuite I.ok
      obtain ⟨m, hm, hlk⟩ := id I8'.loc
      exact wpAny_nameGoes_keeps hn hm (by rw [I.ok.kind]; rfl) fun h9 v9 n9 sb9 => ⟨v8, _, H8, I8'.unset hN hj hm hlk n9 sb9, r8, q⟩
end
/-! ### isinstance of an exception with a tuple of classes -/
section
variable {X : Cx}
theorem call_isinstT {K : PySem.W.Frag} (hK : X.K = K) : CallR X (.builtin "isinstance") (fun xs H Q => ∃ a C tp cs us b, xs = [.ref a, .ref tp] ∧ H a = some (.ext (isOf a (.ref C))) ∧ exC K C = true ∧ H tp = some (.tup cs) ∧ Paired IsCls cs us ∧ PySem.W.kitAny K (.ref C) us = some b ∧ Q (.bl b) H) := by
  subst hK
  intro pins s σ H xs us' Q I r h
  obtain ⟨a, C, tp, cs, us, b, rfl, ha, hx, ht, hc, e, q⟩ := h
  obtain ⟨v, u', rfl, ru, rv⟩ := vals2 r
  cases (show v = Value.ref a from ru)
  cases (show u' = Value.ref tp from rv)
  obtain ⟨p, _, _⟩ := (show ObjOk X.prog X.w H s.heap a (.ext (isOf a (.ref C))) from I.hok a _ ha)
  obtain ⟨_, its, r1, o, ho, hcls, n, hd⟩ := (show ObjOk X.prog X.w H s.heap tp (.tup cs) from I.hok tp _ ht)
  have eu : its = us := by
    have : ∀ {cs : List V} {us its : List Value}, Paired IsCls cs us → Vals cs its → its = us := by
      intro cs us its h1 h2
      induction h1 generalizing its with
      | nil => cases h2; rfl
      | cons hc _ ih =>
        cases h2 with
        | cons hr ht =>
          rw [ih ht]
          cases hc with
          | ref a' => rw [show _ = Value.ref a' from hr]
          | ty n => rw [show _ = Value.type n from hr]
    exact this hc r1
  subst eu
  obtain ⟨oc, od, odt, osl⟩ := o
  dsimp only at hcls hd
  subst hcls hd
  exact PySem.W.kia_tup (kitx_exc hx) I.kIn p ho e (fun z => nomatch z) fun tk => ⟨.bl b, H, I.tok _, rfl, q⟩
end
end L2

set_option linter.all false
set_option maxRecDepth 100000
set_option maxHeartbeats 4000000
namespace L2
open PySem PySem.Spec PyProof.Rows
/-- isinstance(e, (A, B, ..)) -/
theorem gv_callBT {K : PySem.W.Frag} {σ : St} {H : Hp} {te : TE} {ta : TA} {a C : Addr} {cs : List V} {us : List Value} {b : Bool} (he : Pu te σ H (.ref a)) (ht : PuA ta σ H cs) (hz : cs.length ≤ sizeLine) (ha : H a = some (.ext (isOf a (.ref C)))) (hx : exC K C = true) (hc : Paired IsCls cs us) (e : PySem.W.kitAny K (.ref C) us = some b) :
    Gv (tCB (fun xs H Q => ∃ a C tp cs us b, xs = [.ref a, .ref tp] ∧ H a = some (.ext (isOf a (.ref C))) ∧ exC K C = true ∧ H tp = some (.tup cs) ∧ Paired IsCls cs us ∧ PySem.W.kitAny K (.ref C) us = some b ∧ Q (.bl b) H) (tCons te (tCons (tTup ta) tNil))) σ H (fun v H' => v = .bl b ∧ Same H H') := fun Q q =>
  he _ (ht _ ⟨hz, fun p hp => ⟨a, C, p, cs, us, b, rfl, by rw [upd_ne (ne_of_none ha hp)]; exact ha, hx, upd_same, hc, e, q _ _ ⟨rfl, Same.upd hp⟩⟩⟩)
section
variable {es : List Expr} {env : Env}
theorem star_tup {a b c} : starEach (.Tuple a b c :: es) env = (false, eval (.Tuple a b c) env) :: starEach es env := rfl
theorem star_lst {a b} : starEach (.List a b :: es) env = (false, eval (.List a b) env) :: starEach es env := rfl
theorem star_con {a b c} : starEach (.Constant a b c :: es) env = (false, eval (.Constant a b c) env) :: starEach es env := rfl
theorem star_un {a b c} : starEach (.UnaryOp a b c :: es) env = (false, eval (.UnaryOp a b c) env) :: starEach es env := rfl
theorem star_bin {a b c d} : starEach (.BinOp a b c d :: es) env = (false, eval (.BinOp a b c d) env) :: starEach es env := rfl
theorem star_name {a b} : starEach (.Name a b :: es) env = (false, eval (.Name a b) env) :: starEach es env := rfl
theorem star_call {a b c d} : starEach (.Call a b c d :: es) env = (false, eval (.Call a b c d) env) :: starEach es env := rfl
theorem star_sub {a b c} : starEach (.Subscript a b c :: es) env = (false, eval (.Subscript a b c) env) :: starEach es env := rfl
end
theorem len2 : 2 ≤ sizeLine := by decide
theorem len3 : 3 ≤ sizeLine := by decide
theorem gs_tup {σ : St} {H : Hp} {t : TA} {vs : List V} (h : PuA t σ H vs) (hz : vs.length ≤ sizeLine) : Gv (tTup t) σ H (fun _ H' => Same H H') := (gv_tup h hz).imp fun v H' ⟨p, hp, _, e⟩ => by subst e; exact Same.upd hp
theorem gs_slice2 {K : PySem.W.Frag} {σ : St} {H : Hp} {t1 t2 : TA} {vs ws : List V} {mm : Int} {tm : TE} (h1 : ∀ H', PuA t1 σ H' vs) (z1 : vs.length ≤ sizeLine) (h2 : ∀ H', PuA t2 σ H' ws) (z2 : ws.length ≤ sizeLine) (hm : ∀ H', Pu tm σ H' (.int mm)) :
    Gv (tSl (rSlL K) (tLst (tCons (tTup t1) (tCons (tTup t2) tNil))) tNoPart (tPart tm)) σ H (fun _ H' => Same H H') := by
  intro Q q
  unfold tSl tLst
  exact gs_tup (h1 H) z1 _ fun v1 H1 s1 => gs_tup (h2 H1) z2 _ fun v2 H2 s2 => ⟨len2, fun p hp => hm _ _ ⟨mm, rfl, p, [v1, v2], rfl, SqL.of upd_same, fun p' hp' => q _ _ (((s1.trans s2).trans (Same.upd hp)).trans (Same.upd hp'))⟩⟩
section
variable {σ : St} {H : Hp} {K : PySem.W.Frag} {ta tb : TE} {t tr : TA} {n : Nat}
theorem gt_neT {x : V} {RB : V → Hp → Prop} {R : Bool → Hp → Prop} (ha : Pu ta σ H x) (hb : Gv tb σ H RB) (f : ∀ y H', RB y H' → ∃ ns ms, TupI K H' x ns ∧ TupI K H' y ms ∧ R (!decide (ns = ms)) H') : GvT (tTest (tOp (rEqTI K true) ta tb)) σ H R := fun Q q => ha _ (hb _ fun y H' r => by
  obtain ⟨ns, ms, h1, h2, h3⟩ := f y H' r
  exact ⟨ns, ms, h1, h2, _, rfl, q _ _ h3⟩)
theorem gt_neT2 {y : V} {RA : V → Hp → Prop} {R : Bool → Hp → Prop} (ha : Gv ta σ H RA) (hb : ∀ H', Pu tb σ H' y) (f : ∀ x H', RA x H' → ∃ ns ms, TupI K H' x ns ∧ TupI K H' y ms ∧ R (!decide (ns = ms)) H') : GvT (tTest (tOp (rEqTI K true) ta tb)) σ H R := fun Q q => ha _ fun x H' r => hb H' _ (by
  obtain ⟨ns, ms, h1, h2, h3⟩ := f x H' r
  exact ⟨ns, ms, h1, h2, _, rfl, q _ _ h3⟩)
/-- displays whose parts lay things -/
def GaN (t : TA) (σ : St) (H : Hp) (n : Nat) : Prop := GvA t σ H (fun vs H' => Same H H' ∧ vs.length = n)
theorem gan_nil : GaN tNil σ H 0 := fun Q q => q _ _ ⟨Same.rfl', rfl⟩
theorem gan_cons (h : Gv ta σ H (fun _ H' => Same H H')) (g : ∀ H', GaN tr σ H' n) : GaN (tCons ta tr) σ H (n + 1) := fun Q q => h _ fun x H1 s1 => g H1 _ fun vs H2 ⟨s2, e⟩ => q _ _ ⟨s1.trans s2, by simp [e]⟩
theorem gs_tupN (h : GaN t σ H n) (hz : n ≤ sizeLine) : Gv (tTup t) σ H (fun _ H' => Same H H') := fun Q q => h _ fun vs H' ⟨s, e⟩ => ⟨by omega, fun p hp => q _ _ (s.trans (Same.upd hp))⟩
theorem gs_lstN (h : GaN t σ H n) (hz : n ≤ sizeLine) : Gv (tLst t) σ H (fun v H' => Same H H' ∧ ∃ l, v = .ref l) := fun Q q => h _ fun vs H' ⟨s, e⟩ => ⟨by omega, fun p hp => q _ _ ⟨s.trans (Same.upd hp), p, rfl⟩⟩
theorem gs_pu {v : V} (h : Pu ta σ H v) : Gv ta σ H (fun _ H' => Same H H') := h.gv' Same.rfl'
/-- (m, [..]) -/
theorem gv_pairL {v : V} (ha : Pu ta σ H v) (h : GaN t σ H n) (hz : n ≤ sizeLine) : Gv (tTup (tCons ta (tCons (tLst t) tNil))) σ H (fun v H' => Same H H' ∧ ∃ (b l : Addr) (m : V), v = .ref b ∧ H' b = some (.tup [m, .ref l])) := fun Q q =>
  ha _ (gs_lstN h hz _ fun w H' ⟨s, l, e⟩ => ⟨len2, fun p hp => q _ _ ⟨s.trans (Same.upd hp), p, l, v, rfl, by subst e; exact upd_same⟩⟩)
end
end L2

set_option linter.all false
set_option maxHeartbeats 4000000
namespace L2
/-! ### rounds -/

/-! ### sums round a ring -/
end L2

set_option linter.all false
set_option maxRecDepth 100000
set_option maxHeartbeats 4000000
namespace L2
open PySem PySem.Spec PyProof.Rows

/-! ### sides, laid -/
end L2

set_option linter.all false
set_option maxRecDepth 100000
set_option maxHeartbeats 4000000
namespace L2
open PySem PySem.Spec PyProof.Rows
end L2

set_option linter.all false
set_option maxRecDepth 100000
set_option maxHeartbeats 4000000
namespace L2
open PySem PySem.Spec PyProof.Rows
/-! ### plain data, laid -/
/-! ### [::-1] -/
end L2

set_option linter.all false
set_option maxHeartbeats 4000000
namespace L2
/-! ### points that are drawn, one after another -/
end L2

set_option linter.all false
set_option maxRecDepth 100000
set_option maxHeartbeats 4000000
namespace L2
open PySem PySem.Spec PyProof.Rows
end L2

set_option linter.all false
set_option maxRecDepth 100000
set_option maxHeartbeats 4000000
namespace L2
open PySem PySem.Spec PyProof.Rows
end L2

set_option linter.all false
set_option maxRecDepth 100000
set_option maxHeartbeats 4000000
namespace L2
open PySem PySem.Spec PyProof.Rows
end L2

set_option maxHeartbeats 4000000
namespace My
open PySem PySem.Spec PyProof.Rows L2
def top (i : Nat) : Stmt := PySem.Challenge.pw_plymap_k81_cells_and_middles.main.body.getD i (.Pass ⟨0, 0, 0, 0⟩)
def s_is_ahead : Stmt := top 13
def s_divisor_of : Stmt := top 10
def s_point_by : Stmt := top 12
def s_check_size : Stmt := top 17
def s_nearest_to : Stmt := top 18
def s_cell_of : Stmt := top 19
def s_cell_middle : Stmt := top 20
def s_meets_cell : Stmt := top 24
def s_hot_cells : Stmt := top 25
def s_thread_of : Stmt := top 28
def s_threads_of : Stmt := top 29
def s_made_of : Stmt := top 54
def s_strokes_between_middles : Stmt := top 56
def s_brought_to : Stmt := top 57
def s_l_hand : Stmt := top 59
def s_l_next : Stmt := top 60
def s_l_take : Stmt := top 61
def s_l_draw : Stmt := top 62
def s_l_divisor : Stmt := top 63
def s_l_point : Stmt := top 64
def s_l_fraction : Stmt := top 65
def s_l_whole : Stmt := top 66
def s_l_wholes : Stmt := top 67
def s_l_inside : Stmt := top 68
def s_l_ask : Stmt := top 69
def s_l_refused : Stmt := top 70
def s_l_place : Stmt := top 71
def s_law : Stmt := top 72
structure Adr where
  f_is_ahead : Addr
  d_is_ahead : FuncData
  f_divisor_of : Addr
  d_divisor_of : FuncData
  f_point_by : Addr
  d_point_by : FuncData
  f_check_size : Addr
  d_check_size : FuncData
  f_nearest_to : Addr
  d_nearest_to : FuncData
  f_cell_of : Addr
  d_cell_of : FuncData
  f_cell_middle : Addr
  d_cell_middle : FuncData
  f_meets_cell : Addr
  d_meets_cell : FuncData
  f_hot_cells : Addr
  d_hot_cells : FuncData
  f_thread_of : Addr
  d_thread_of : FuncData
  f_threads_of : Addr
  d_threads_of : FuncData
  f_made_of : Addr
  d_made_of : FuncData
  f_strokes_between_middles : Addr
  d_strokes_between_middles : FuncData
  f_brought_to : Addr
  d_brought_to : FuncData
  f_l_hand : Addr
  d_l_hand : FuncData
  f_l_next : Addr
  d_l_next : FuncData
  f_l_take : Addr
  d_l_take : FuncData
  f_l_draw : Addr
  d_l_draw : FuncData
  f_l_divisor : Addr
  d_l_divisor : FuncData
  f_l_point : Addr
  d_l_point : FuncData
  f_l_fraction : Addr
  d_l_fraction : FuncData
  f_l_whole : Addr
  d_l_whole : FuncData
  f_l_wholes : Addr
  d_l_wholes : FuncData
  f_l_inside : Addr
  d_l_inside : FuncData
  f_l_ask : Addr
  d_l_ask : FuncData
  f_l_refused : Addr
  d_l_refused : FuncData
  f_l_place : Addr
  d_l_place : FuncData
  f_law : Addr
  d_law : FuncData
  c_NoSize : Addr
  c_PlyError : Addr
  c_NoNumber : Addr
  c_BadPlan : Addr
  c_NoPoint : Addr
structure Txt (K : PySem.W.Frag) (mg : Str → Option Value) (t : Adr) : Prop where
  is_ahead : Fn K mg "is_ahead" s_is_ahead t.f_is_ahead t.d_is_ahead ["p", "q"]
  divisor_of : Fn K mg "divisor_of" s_divisor_of t.f_divisor_of t.d_divisor_of ["one", "other"]
  point_by : Fn K mg "point_by" s_point_by t.f_point_by t.d_point_by ["a", "b", "c"]
  check_size : Fn K mg "check_size" s_check_size t.f_check_size t.d_check_size ["size"]
  nearest_to : Fn K mg "nearest_to" s_nearest_to t.f_nearest_to t.d_nearest_to ["top", "bottom"]
  cell_of : Fn K mg "cell_of" s_cell_of t.f_cell_of t.d_cell_of ["p", "size"]
  cell_middle : Fn K mg "cell_middle" s_cell_middle t.f_cell_middle t.d_cell_middle ["cell", "size"]
  meets_cell : Fn K mg "meets_cell" s_meets_cell t.f_meets_cell t.d_meets_cell ["p", "q", "cell", "size"]
  hot_cells : Fn K mg "hot_cells" s_hot_cells t.f_hot_cells t.d_hot_cells ["plan", "size"]
  thread_of : Fn K mg "thread_of" s_thread_of t.f_thread_of t.d_thread_of ["p", "q", "cells", "size"]
  threads_of : Fn K mg "threads_of" s_threads_of t.f_threads_of t.d_threads_of ["plan", "size"]
  made_of : Fn K mg "made_of" s_made_of t.f_made_of t.d_made_of ["many", "strokes"]
  strokes_between_middles : Fn K mg "strokes_between_middles" s_strokes_between_middles t.f_strokes_between_middles t.d_strokes_between_middles ["plan", "size"]
  brought_to : Fn K mg "brought_to" s_brought_to t.f_brought_to t.d_brought_to ["plan", "size"]
  l_hand : Fn K mg "_law_hand" s_l_hand t.f_l_hand t.d_l_hand ["_law_script"]
  l_next : Fn K mg "_law_next" s_l_next t.f_l_next t.d_l_next ["_law_hand_here"]
  l_take : Fn K mg "_law_take" s_l_take t.f_l_take t.d_l_take ["_law_hand_here"]
  l_draw : Fn K mg "_law_draw" s_l_draw t.f_l_draw t.d_l_draw ["_law_hand_here", "_law_many"]
  l_divisor : Fn K mg "_law_divisor" s_l_divisor t.f_l_divisor t.d_l_divisor ["_law_one", "_law_other"]
  l_point : Fn K mg "_law_point" s_l_point t.f_l_point t.d_l_point ["_law_a", "_law_b", "_law_c"]
  l_fraction : Fn K mg "_law_fraction" s_l_fraction t.f_l_fraction t.d_l_fraction ["_law_top", "_law_bottom"]
  l_whole : Fn K mg "_law_whole" s_l_whole t.f_l_whole t.d_l_whole ["_law_thing"]
  l_wholes : Fn K mg "_law_wholes" s_l_wholes t.f_l_wholes t.d_l_wholes ["_law_thing", "_law_many"]
  l_inside : Fn K mg "_law_inside" s_l_inside t.f_l_inside t.d_l_inside ["_law_p", "_law_cell", "_law_size"]
  l_ask : Fn K mg "_law_ask" s_l_ask t.f_l_ask t.d_l_ask ["_law_way", "_law_size", "_law_plan", "_law_many"]
  l_refused : Fn K mg "_law_refused" s_l_refused t.f_l_refused t.d_l_refused ["_law_way", "_law_size", "_law_plan", "_law_many"]
  l_place : Fn K mg "_law_place" s_l_place t.f_l_place t.d_l_place ["_law_hand_here", "_law_cell", "_law_size"]
  law : Fn K mg "law" s_law t.f_law t.d_law ["_law_script"]
  b_ValueError : mg "ValueError" = none
  b_abs : mg "abs" = none
  b_bool : mg "bool" = none
  b_int : mg "int" = none
  b_isinstance : mg "isinstance" = none
  b_len : mg "len" = none
  b_list : mg "list" = none
  b_range : mg "range" = none
  b_sorted : mg "sorted" = none
  b_tuple : mg "tuple" = none
  b_zip : mg "zip" = none
  m_NoSize : mg "NoSize" = some (.ref t.c_NoSize)
  m_PlyError : mg "PlyError" = some (.ref t.c_PlyError)
  m_NoNumber : mg "NoNumber" = some (.ref t.c_NoNumber)
  m_BadPlan : mg "BadPlan" = some (.ref t.c_BadPlan)
  m_NoPoint : mg "NoPoint" = some (.ref t.c_NoPoint)
  e_NoSize : exK K t.c_NoSize = true
  x_NoSize : exC K t.c_NoSize = true
  m1 : PySem.W.exmOne K (.ref t.c_NoSize) (.ref t.c_NoSize) = some true
  i0 : PySem.W.kitAny K (.ref t.c_NoSize) [.ref t.c_NoNumber, .ref t.c_BadPlan, .ref t.c_NoPoint] = some false
  i1 : PySem.W.kitOne K (.ref t.c_NoSize) (.ref t.c_PlyError) = some true
  i2 : PySem.W.kitOne K (.ref t.c_NoSize) (.type "ValueError") = some true
section
variable {P : Program} {w : World} {K : PySem.W.Frag} {mg : Str → Option Value} {base : Heap} {t : Adr}
def sp_divisor_of : Sp := fun vs H Q _ => ∃ a b : Int, vs = [.int a, .int b] ∧ Q (.int (Int.gcd a b)) H
theorem sc_divisor_of : FnScope ["one", "other", "rest"] ["one", "other"] (defScope s_divisor_of) := ⟨rfl, rfl, rfl, by decide +kernel, rfl, by decide +kernel, by decide +kernel⟩
theorem ok_divisor_of (T : Txt K mg t) : FnOk P w K mg base CX0 1 t.f_divisor_of t.d_divisor_of ["one", "other"] sp_divisor_of := by
  refine T.divisor_of.F.ok (k := 0) sc_divisor_of (fun vs H Q E h => ?_) (fun cdv A outer s H vs Q E hr h => ?_)
  · obtain ⟨a, b, rfl, _⟩ := h
    rfl
  · obtain ⟨a, b, rfl, k⟩ := h
    refine ⟨_, (@pss_cons _ _ _ _ _ (@ps_set _ _ 0 _ _ _ _ sc_divisor_of.nd rfl (Or.inl rfl) (@pe_callB _ _ _ _ _ _ _ _ _ call_abs (by rfl) T.b_abs PyProof.Rows.boot_abs (@pa_cons _ _ _ _ _ (pv 0) (@pa_nil _) star_name) (by decide) (by decide) (by rfl) (by rfl)) (by rfl) (by first | exact .inl rfl | exact .inr rfl | assumption)) (@pss_cons _ _ _ _ _ (@ps_set _ _ 1 _ _ _ _ sc_divisor_of.nd rfl (Or.inl rfl) (@pe_callB _ _ _ _ _ _ _ _ _ call_abs (by rfl) T.b_abs PyProof.Rows.boot_abs (@pa_cons _ _ _ _ _ (pv 1) (@pa_nil _) star_name) (by decide) (by decide) (by rfl) (by rfl)) (by rfl) (by first | exact .inl rfl | exact .inr rfl | assumption)) (@pss_cons _ _ _ _ _ (@ps_while _ _ _ _ _ _ PassesOwn.never (@pt_cmpR _ _ _ _ _ _ _ _ op_ne (pv 1) (@pe_int _ _ _ _) (nomark _)) (@pss_cons _ _ _ _ _ (@ps_set _ _ 2 _ _ _ _ sc_divisor_of.nd rfl (Or.inl rfl) (@pe_op _ _ _ _ _ _ _ _ op_modN (pv 0) (pv 1)) (by rfl) (by first | exact .inl rfl | exact .inr rfl | assumption)) (@pss_cons _ _ _ _ _ (@ps_set _ _ 0 _ _ _ _ sc_divisor_of.nd rfl (Or.inl rfl) (pv 1) (by rfl) (by first | exact .inl rfl | exact .inr rfl | assumption)) (@pss_one _ _ _ (@ps_set _ _ 1 _ _ _ _ sc_divisor_of.nd rfl (Or.inl rfl) (pv 2) (by rfl) (by first | exact .inl rfl | exact .inr rfl | assumption)))))) (@pss_one _ _ _ (@ps_ret _ _ _ _ (pv 0)))))), ?_⟩
    refine st_set (pu_abs (pa_c (pu_v rfl) pa_n)) ?_
    refine st_set (pu_abs (pa_c (pu_v rfl) pa_n)) ?_
    refine st_while (fun σ H' => H' = H ∧ ∃ (x y : Int) (r : Option V), σ = [some (.int x), some (.int y), r] ∧ 0 ≤ x ∧ 0 ≤ y ∧ Int.gcd x y = Int.gcd a b) (fun σ _ => match σ with | [_, some (.int y), _] => y.toNat | _ => 0)
      ⟨rfl, a.natAbs, b.natAbs, none, rfl, by omega, by omega, rfl⟩ ?_
    rintro σ H' ⟨rfl, x, y, r, rfl, hx, hy, hg⟩
    refine ⟨_, pt_t (pu_neI (pu_v rfl) pu_c), fun e => ?_, fun e => ?_⟩
    · have e' : y ≠ 0 := by simpa using e
      have hm := fmod_lt (x := x) (show 0 < y by omega)
      refine st_set (pu_mod (pu_v rfl) (pu_v rfl) e') ?_
      refine st_set (pu_v rfl) ?_
      refine st_set1 (pu_v rfl) ?_
      exact ⟨⟨rfl, y, x.fmod y, _, rfl, hy, hm.1, by rw [gcd_step hx hy]; exact hg⟩, by show (x.fmod y).toNat < y.toNat; omega⟩
    · have e' : y = 0 := by simpa using e
      subst e'
      refine st_ret (pu_v rfl) ?_
      rw [← hg, gcd_zero x hx] at k
      exact k
def sp_point_by : Sp := fun vs H Q _ => ∃ a b c : Int, vs = [.int a, .int b, .int c] ∧ c ≠ 0 ∧ Bd 9000 c ∧ ∀ v H', Same H H' → AtP H' v (pbF a b c) → Q v H'
theorem sc_point_by : FnScope ["a", "b", "c", "shared"] ["a", "b", "c"] (defScope s_point_by) := ⟨rfl, rfl, rfl, by decide +kernel, rfl, by decide +kernel, by decide +kernel⟩
theorem ok_point_by (T : Txt K mg t) : FnOk P w K mg base CX0 2 t.f_point_by t.d_point_by ["a", "b", "c"] sp_point_by := by
  refine T.point_by.F.ok (k := 1) sc_point_by (fun vs H Q E h => ?_) (fun cdv A outer s H vs Q E hr h => ?_)
  · obtain ⟨a, b, c, rfl, _⟩ := h
    rfl
  · obtain ⟨a, b, c, rfl, hc, hB, k⟩ := h
    refine ⟨_, (@pss_cons _ _ _ _ _ (@ps_if _ _ _ _ _ _ _ _ (@pt_cmpR _ _ _ _ _ _ _ _ op_eq (pv 2) (@pe_int _ _ _ _) (nomark _)) (@pss_one _ _ _ (@ps_never _ _)) (@pss_nil _)) (@pss_cons _ _ _ _ _ (@ps_set _ _ 3 _ _ _ _ sc_point_by.nd rfl (Or.inl rfl) (@pe_fn _ _ _ _ _ _ _ _ _ _ _ _ _ _ T.divisor_of (ok_divisor_of T) hr (by decide) (@pa_cons _ _ _ _ _ (@pe_fn _ _ _ _ _ _ _ _ _ _ _ _ _ _ T.divisor_of (ok_divisor_of T) hr (by decide) (@pa_cons _ _ _ _ _ (pv 0) (@pa_cons _ _ _ _ _ (pv 1) (@pa_nil _) star_name) star_name) (by rfl) (by decide) (by rfl) (by rfl)) (@pa_cons _ _ _ _ _ (pv 2) (@pa_nil _) star_name) star_call) (by rfl) (by decide) (by rfl) (by rfl)) (by rfl) (by first | exact .inl rfl | exact .inr rfl | assumption)) (@pss_cons _ _ _ _ _ (@ps_if _ _ _ _ _ _ _ _ (@pt_cmpR _ _ _ _ _ _ _ _ op_lt (pv 2) (@pe_int _ _ _ _) (nomark _)) (@pss_one _ _ _ (@ps_set _ _ 3 _ _ _ _ sc_point_by.nd rfl (Or.inl rfl) (@pe_un _ _ _ _ _ _ un_neg (pv 3)) (by rfl) (by first | exact .inl rfl | exact .inr rfl | assumption))) (@pss_nil _)) (@pss_one _ _ _ (@ps_ret _ _ _ _ (@pe_tup _ _ _ _ _ (@pa_cons _ _ _ _ _ (@pe_op _ _ _ _ _ _ _ _ op_fdivB (pv 0) (pv 3)) (@pa_cons _ _ _ _ _ (@pe_op _ _ _ _ _ _ _ _ op_fdivB (pv 1) (pv 3)) (@pa_cons _ _ _ _ _ (@pe_op _ _ _ _ _ _ _ _ op_fdivB (pv 2) (pv 3)) (@pa_nil _) star_bin) star_bin) star_bin))))))), ?_⟩
    have hg := gS3_ne (a := a) (b := b) hc
    have hgb : Bd 9000 (gS3 a b c) := by
      have := Bd.gcd_right (a := ((Int.gcd a b : Nat) : Int)) hc hB
      unfold gS3; split
      · exact this.neg
      · exact this
    refine st_ifN (pt_t (pu_eqI (pu_v rfl) pu_c)) (fun e => absurd (of_decide_eq_true e) hc) fun _ => ?_
    refine st_set (pu_call (pa_c (pu_call (pa_c (pu_v rfl) (pa_c (pu_v rfl) pa_n)) (fun Q q => ⟨a, b, rfl, q⟩)) (pa_c (pu_v rfl) pa_n)) (fun Q q => ⟨_, c, rfl, q⟩)) ?_
    refine st_ifSet (R := fun v H' => H = H' ∧ v = .int (gS3 a b c)) (v0 := .int (Int.gcd ((Int.gcd a b : Nat) : Int) c)) (pt_t (pu_lt (pu_v rfl) pu_c)) (fun e => (pu_neg (pu_v rfl)).gv' ⟨rfl, ?_⟩) rfl (fun e => ⟨rfl, ?_⟩) ?_
    · rw [gS3, if_pos (of_decide_eq_true e)]
    · rw [gS3, if_neg (of_decide_eq_false e)]
    rintro v H' ⟨rfl, rfl⟩
    refine st_retG (gv_tup (pa_c (pu_fdiv (pu_v rfl) (pu_v rfl) ⟨hg, hgb⟩) (pa_c (pu_fdiv (pu_v rfl) (pu_v rfl) ⟨hg, hgb⟩) (pa_c (pu_fdiv (pu_v rfl) (pu_v rfl) ⟨hg, hgb⟩) pa_n))) (by show 3 ≤ sizeLine; decide)) ?_
    rintro _ _ ⟨p, hp, rfl, rfl⟩
    exact k _ _ (Same.upd hp) (TupT.of upd_same)
def sp_check_size : Sp := fun vs H Q _ => ∃ v x y, vs = [v] ∧ TupT H v [x, y] ∧ 0 < x ∧ Q .non H
/-- a size that is not above 0 makes it raise -/
def spx_check_size (t : Adr) : Sp := fun vs H Q E => ∃ v x y, vs = [v] ∧ TupT H v [x, y] ∧ x ≤ 0 ∧ E (.ref t.c_NoSize) none H
theorem sc_check_size : FnScope ["size"] ["size"] (defScope s_check_size) := ⟨rfl, rfl, rfl, by decide +kernel, rfl, by decide +kernel, by decide +kernel⟩
theorem ok_check_size (T : Txt K mg t) : FnOk P w K mg base CX0 1 t.f_check_size t.d_check_size ["size"] sp_check_size := by
  refine T.check_size.F.ok (k := 0) sc_check_size (fun vs H Q E h => ?_) (fun cdv A outer s H vs Q E hr h => ?_)
  · obtain ⟨v, x, y, rfl, _⟩ := h
    rfl
  · obtain ⟨v, x, y, rfl, ⟨a, rfl, ha⟩, hx, k⟩ := h
    refine ⟨_, (@pss_one _ _ _ (@ps_if _ _ _ _ _ _ _ _ (@pt_cmpR _ _ _ _ _ _ _ _ op_le (@pe_ix _ _ _ _ _ _ _ ix_tup (pv 0) (@pe_int _ _ _ _) (fun _ _ => rfl)) (@pe_int _ _ _ _) (nomark _)) (@pss_one _ _ _ (@ps_never _ _)) (@pss_nil _))), ?_⟩
    refine st_ifN1 (pt_t (pu_le (pu_ixT (pu_v rfl) pu_c (SqT.of (ha)) rfl) pu_c)) (fun e => ?_) fun _ => k
    have := of_decide_eq_true e
    omega
theorem okx_check_size (T : Txt K mg t) : FnOk P w K mg base (CXE P w) 1 t.f_check_size t.d_check_size ["size"] (spx_check_size t) := by
  refine T.check_size.F.okE (k := 0) sc_check_size (fun vs H Q E h => ?_) (fun cdv A outer s H vs Q E hr h => ?_)
  · obtain ⟨v, x, y, rfl, _⟩ := h
    rfl
  · obtain ⟨v, x, y, rfl, ⟨a, rfl, ha⟩, hx, k⟩ := h
    refine ⟨_, (@pss_one _ _ _ (@ps_if _ _ _ _ _ _ _ _ (@pt_cmpR _ _ _ _ _ _ _ _ op_le (@pe_ix _ _ _ _ _ _ _ ix_tup (pv 0) (@pe_int _ _ _ _) (fun _ _ => rfl)) (@pe_int _ _ _ _) (nomark _)) (@pss_one _ _ _ (@ps_raise0 _ _ _ _ _ _ _ _ _ _ _ _ _ _ _ _ _ _ _ _ T.e_NoSize T.m_NoSize rfl (by decide))) (@pss_nil _))), ?_⟩
    refine st_ifN1 (pt_t (pu_le (pu_ixT (pu_v rfl) pu_c (SqT.of (ha)) rfl) pu_c)) (fun e => k) fun e => ?_
    have := of_decide_eq_false e
    omega
def nrst (t b : Int) : Int := (2 * t + b).fdiv (2 * b)
theorem nrst_has {t b : Int} (hb : 0 < b) : (2 * nrst t b - 1) * b ≤ 2 * t ∧ 2 * t < (2 * nrst t b + 1) * b := by
  unfold nrst
  rw [Int.fdiv_eq_ediv_of_nonneg _ (by omega)]
  have h1 := Int.emod_nonneg (2 * t + b) (show 2 * b ≠ 0 by omega)
  have h2 := Int.emod_lt_of_pos (2 * t + b) (show 0 < 2 * b by omega)
  have h3 := Int.mul_ediv_add_emod (2 * t + b) (2 * b)
  revert h1 h2 h3
  generalize (2 * t + b) / (2 * b) = q
  generalize (2 * t + b) % (2 * b) = r
  intro h1 h2 h3
  have e1 : (2 * q - 1) * b = 2 * b * q - b := by grind
  have e2 : (2 * q + 1) * b = 2 * b * q + b := by grind
  omega
theorem nrst_at {c b : Int} (hb : 0 < b) : nrst (c * b) b = c := by
  obtain ⟨h1, h2⟩ := nrst_has (t := c * b) hb
  have h3 : (2 * nrst (c * b) b - 1) * b < (2 * c + 1) * b := by
    have : (2 * c + 1) * b = 2 * (c * b) + b := by grind
    omega
  have h4 : (2 * c - 1) * b < (2 * nrst (c * b) b + 1) * b := by
    have : (2 * c - 1) * b = 2 * (c * b) - b := by grind
    omega
  have h5 := Int.lt_of_mul_lt_mul_right h3 (Int.le_of_lt hb)
  have h6 := Int.lt_of_mul_lt_mul_right h4 (Int.le_of_lt hb)
  omega
def sp_nearest_to : Sp := fun vs H Q _ => ∃ t b : Int, vs = [.int t, .int b] ∧ 0 < b ∧ Bd 1000 t ∧ Bd 1000 b ∧ Q (.int (nrst t b)) H
theorem sc_nearest_to : FnScope ["top", "bottom"] ["top", "bottom"] (defScope s_nearest_to) := ⟨rfl, rfl, rfl, by decide +kernel, rfl, by decide +kernel, by decide +kernel⟩
theorem ok_nearest_to (T : Txt K mg t) : FnOk P w K mg base CX0 1 t.f_nearest_to t.d_nearest_to ["top", "bottom"] sp_nearest_to := by
  refine T.nearest_to.F.ok (k := 0) sc_nearest_to (fun vs H Q E h => ?_) (fun cdv A outer s H vs Q E hr h => ?_)
  · obtain ⟨t, b, rfl, _⟩ := h
    rfl
  · obtain ⟨t, b, rfl, hb, bt, bb, k⟩ := h
    refine ⟨_, (@pss_one _ _ _ (@ps_ret _ _ _ _ (@pe_op _ _ _ _ _ _ _ _ op_fdivB (@pe_op _ _ _ _ _ _ _ _ op_add (@pe_op _ _ _ _ _ _ _ _ op_mulB (@pe_int _ _ _ _) (pv 0)) (pv 1)) (@pe_op _ _ _ _ _ _ _ _ op_mulB (@pe_int _ _ _ _) (pv 1))))), ?_⟩
    have b2 : Bd 2 (2 : Int) := by unfold Bd; decide
    exact st_ret (pu_fdiv (pu_add (pu_mul pu_c (pu_v rfl) (mulOk_of (b2) (bt) (by decide))) (pu_v rfl)) (pu_mul pu_c (pu_v rfl) (mulOk_of (b2) (bb) (by decide))) ⟨by omega, (b2.mul bb).mono (by decide)⟩) k
def sp_cell_of : Sp := fun vs H Q _ => ∃ v w p x y, vs = [v, w] ∧ AtP H v p ∧ TupT H w [x, y] ∧ Sz 400 p ∧ Bd 400 x ∧ Bd 400 y ∧ 0 < p.z ∧ 0 < x ∧ ∀ r H', Same H H' → TupT H' r [nrst (p.x * y) (p.z * x), nrst (p.y * y) (p.z * x)] → Q r H'
def spx_cell_of (t : Adr) : Sp := fun vs H Q E => ∃ u v x y, vs = [u, v] ∧ TupT H v [x, y] ∧ x ≤ 0 ∧ E (.ref t.c_NoSize) none H
theorem sc_cell_of : FnScope ["p", "size", "bottom"] ["p", "size"] (defScope s_cell_of) := ⟨rfl, rfl, rfl, by decide +kernel, rfl, by decide +kernel, by decide +kernel⟩
theorem ok_cell_of (T : Txt K mg t) : FnOk P w K mg base CX0 2 t.f_cell_of t.d_cell_of ["p", "size"] sp_cell_of := by
  refine T.cell_of.F.ok (k := 1) sc_cell_of (fun vs H Q E h => ?_) (fun cdv A outer s H vs Q E hr h => ?_)
  · obtain ⟨v, w, p, x, y, rfl, _⟩ := h
    rfl
  · obtain ⟨v, w, p, x, y, rfl, ⟨a, rfl, ha⟩, ⟨b, rfl, hb⟩, zp, bx, by', hp, hx, k⟩ := h
    refine ⟨_, (@pss_cons _ _ _ _ _ (@ps_expr _ _ _ _ (@pe_fn _ _ _ _ _ _ _ _ _ _ _ _ _ _ T.check_size (ok_check_size T) hr (by decide) (@pa_cons _ _ _ _ _ (pv 1) (@pa_nil _) star_name) (by rfl) (by decide) (by rfl) (by rfl)) (by rfl)) (@pss_cons _ _ _ _ _ (@ps_set _ _ 2 _ _ _ _ sc_cell_of.nd rfl (Or.inl rfl) (@pe_op _ _ _ _ _ _ _ _ op_mulB (@pe_ix _ _ _ _ _ _ _ ix_tup (pv 0) (@pe_int _ _ _ _) (fun _ _ => rfl)) (@pe_ix _ _ _ _ _ _ _ ix_tup (pv 1) (@pe_int _ _ _ _) (fun _ _ => rfl))) (by rfl) (by first | exact .inl rfl | exact .inr rfl | assumption)) (@pss_one _ _ _ (@ps_ret _ _ _ _ (@pe_tup _ _ _ _ _ (@pa_cons _ _ _ _ _ (@pe_fn _ _ _ _ _ _ _ _ _ _ _ _ _ _ T.nearest_to (ok_nearest_to T) hr (by decide) (@pa_cons _ _ _ _ _ (@pe_op _ _ _ _ _ _ _ _ op_mulB (@pe_ix _ _ _ _ _ _ _ ix_tup (pv 0) (@pe_int _ _ _ _) (fun _ _ => rfl)) (@pe_ix _ _ _ _ _ _ _ ix_tup (pv 1) (@pe_int _ _ _ _) (fun _ _ => rfl))) (@pa_cons _ _ _ _ _ (pv 2) (@pa_nil _) star_name) star_bin) (by rfl) (by decide) (by rfl) (by rfl)) (@pa_cons _ _ _ _ _ (@pe_fn _ _ _ _ _ _ _ _ _ _ _ _ _ _ T.nearest_to (ok_nearest_to T) hr (by decide) (@pa_cons _ _ _ _ _ (@pe_op _ _ _ _ _ _ _ _ op_mulB (@pe_ix _ _ _ _ _ _ _ ix_tup (pv 0) (@pe_int _ _ _ _) (fun _ _ => rfl)) (@pe_ix _ _ _ _ _ _ _ ix_tup (pv 1) (@pe_int _ _ _ _) (fun _ _ => rfl))) (@pa_cons _ _ _ _ _ (pv 2) (@pa_nil _) star_name) star_bin) (by rfl) (by decide) (by rfl) (by rfl)) (@pa_nil _) star_call) star_call)))))), ?_⟩
    refine st_exprG (R := fun v H' => H = H') (gv_call (pa_c (pu_v rfl) pa_n) fun Q f => ⟨_, x, y, rfl, TupT.of hb, hx, f _ _ rfl⟩) ?_
    rintro _ _ rfl
    refine st_set (pu_mul (pu_ixT (pu_v rfl) pu_c (SqT.of (ha)) rfl) (pu_ixT (pu_v rfl) pu_c (SqT.of (hb)) rfl) (mulOk_of (zp.z) (bx) (by decide))) ?_
    have hpos : 0 < p.z * x := Int.mul_pos hp hx
    have near : ∀ {i : Int}, Bd 400 i → ∀ Q : VK, Q (.int (nrst (i * y) (p.z * x))) H → sp_nearest_to ([V.int (i * y), V.int (p.z * x)] ++ []) H Q E0 := fun {i} bi Q f => ⟨_, _, rfl, hpos, (bi.mul by').mono (by decide), (zp.z.mul bx).mono (by decide), f⟩
    refine st_retG (gv_tup (pa_c (pu_call (pa_c (pu_mul (pu_ixT (pu_v rfl) pu_c (SqT.of (ha)) rfl) (pu_ixT (pu_v rfl) pu_c (SqT.of (hb)) rfl) (mulOk_of (zp.x) (by') (by decide))) (pa_c (pu_v rfl) pa_n)) (near zp.x)) (pa_c (pu_call (pa_c (pu_mul (pu_ixT (pu_v rfl) pu_c (SqT.of (ha)) rfl) (pu_ixT (pu_v rfl) pu_c (SqT.of (hb)) rfl) (mulOk_of (zp.y) (by') (by decide))) (pa_c (pu_v rfl) pa_n)) (near zp.y)) pa_n)) (by show 2 ≤ sizeLine; decide)) ?_
    rintro _ _ ⟨r, hr, rfl, rfl⟩
    exact k _ _ (Same.upd hr) (TupT.of (ns := [nrst (p.x * y) (p.z * x), nrst (p.y * y) (p.z * x)]) upd_same)
theorem okx_cell_of (T : Txt K mg t) : FnOk P w K mg base (CXE P w) 2 t.f_cell_of t.d_cell_of ["p", "size"] (spx_cell_of t) := by
  refine T.cell_of.F.okE (k := 1) sc_cell_of (fun vs H Q E h => ?_) (fun cdv A outer s H vs Q E hr h => ?_)
  · obtain ⟨u, v, x, y, rfl, _⟩ := h
    rfl
  · obtain ⟨u, v, x, y, rfl, hv, hx, k⟩ := h
    exact ⟨_, (@pss_cons _ _ _ _ _ (@ps_expr _ _ _ _ (@pe_fnX _ _ _ _ _ _ _ _ _ _ _ _ _ _ _ _ _ T.check_size (okx_check_size T) hr (by decide) passX (@pa_cons _ _ _ _ _ (pv 1) (@pa_nil _) star_name) (by rfl) (by decide) (by rfl) (by rfl)) (by rfl)) (@pss_never _ _)), ⟨_, rfl, _, x, y, rfl, hv, hx, k⟩⟩
def sp_cell_middle : Sp := fun vs H Q _ => ∃ v w i j x y, vs = [v, w] ∧ TupT H v [i, j] ∧ TupT H w [x, y] ∧ Bd 400 i ∧ Bd 400 j ∧ Bd 400 x ∧ Bd 400 y ∧ 0 < x ∧ 0 < y ∧ ∀ r H', Same H H' → AtP H' r (pbF (i * x) (j * x) y) → Q r H'
def spx_cell_middle (t : Adr) : Sp := fun vs H Q E => ∃ u v x y, vs = [u, v] ∧ TupT H v [x, y] ∧ x ≤ 0 ∧ E (.ref t.c_NoSize) none H
theorem sc_cell_middle : FnScope ["cell", "size"] ["cell", "size"] (defScope s_cell_middle) := ⟨rfl, rfl, rfl, by decide +kernel, rfl, by decide +kernel, by decide +kernel⟩
theorem ok_cell_middle (T : Txt K mg t) : FnOk P w K mg base CX0 3 t.f_cell_middle t.d_cell_middle ["cell", "size"] sp_cell_middle := by
  refine T.cell_middle.F.ok (k := 2) sc_cell_middle (fun vs H Q E h => ?_) (fun cdv A outer s H vs Q E hr h => ?_)
  · obtain ⟨v, w, i, j, x, y, rfl, _⟩ := h
    rfl
  · obtain ⟨v, w, i, j, x, y, rfl, ⟨a, rfl, ha⟩, ⟨b, rfl, hb⟩, bi, bj, bx, by', hx, hy, k⟩ := h
    refine ⟨_, (@pss_cons _ _ _ _ _ (@ps_expr _ _ _ _ (@pe_fn _ _ _ _ _ _ _ _ _ _ _ _ _ _ T.check_size (ok_check_size T) hr (by decide) (@pa_cons _ _ _ _ _ (pv 1) (@pa_nil _) star_name) (by rfl) (by decide) (by rfl) (by rfl)) (by rfl)) (@pss_one _ _ _ (@ps_ret _ _ _ _ (@pe_fn _ _ _ _ _ _ _ _ _ _ _ _ _ _ T.point_by (ok_point_by T) hr (by decide) (@pa_cons _ _ _ _ _ (@pe_op _ _ _ _ _ _ _ _ op_mulB (@pe_ix _ _ _ _ _ _ _ ix_tup (pv 0) (@pe_int _ _ _ _) (fun _ _ => rfl)) (@pe_ix _ _ _ _ _ _ _ ix_tup (pv 1) (@pe_int _ _ _ _) (fun _ _ => rfl))) (@pa_cons _ _ _ _ _ (@pe_op _ _ _ _ _ _ _ _ op_mulB (@pe_ix _ _ _ _ _ _ _ ix_tup (pv 0) (@pe_int _ _ _ _) (fun _ _ => rfl)) (@pe_ix _ _ _ _ _ _ _ ix_tup (pv 1) (@pe_int _ _ _ _) (fun _ _ => rfl))) (@pa_cons _ _ _ _ _ (@pe_ix _ _ _ _ _ _ _ ix_tup (pv 1) (@pe_int _ _ _ _) (fun _ _ => rfl)) (@pa_nil _) star_sub) star_bin) star_bin) (by rfl) (by decide) (by rfl) (by rfl))))), ?_⟩
    refine st_exprG (R := fun v H' => H = H') (gv_call (pa_c (pu_v rfl) pa_n) fun Q f => ⟨_, x, y, rfl, TupT.of hb, hx, f _ _ rfl⟩) ?_
    rintro _ _ rfl
    refine st_retG (gv_call (R := fun r H' => Same H H' ∧ AtP H' r (pbF (i * x) (j * x) y)) (pa_c (pu_mul (pu_ixT (pu_v rfl) pu_c (SqT.of (ha)) rfl) (pu_ixT (pu_v rfl) pu_c (SqT.of (hb)) rfl) (mulOk_of (bi) (bx) (by decide))) (pa_c (pu_mul (pu_ixT (pu_v rfl) pu_c (SqT.of (ha)) rfl) (pu_ixT (pu_v rfl) pu_c (SqT.of (hb)) rfl) (mulOk_of (bj) (bx) (by decide))) (pa_c (pu_ixT (pu_v rfl) pu_c (SqT.of (hb)) rfl) pa_n))) fun Q f => ⟨_, _, _, rfl, by omega, by'.mono (by decide), fun v H' s t => f _ _ ⟨s, t⟩⟩) ?_
    rintro r H' ⟨s, t⟩
    exact k r H' s t
theorem okx_cell_middle (T : Txt K mg t) : FnOk P w K mg base (CXE P w) 3 t.f_cell_middle t.d_cell_middle ["cell", "size"] (spx_cell_middle t) := by
  refine T.cell_middle.F.okE (k := 2) sc_cell_middle (fun vs H Q E h => ?_) (fun cdv A outer s H vs Q E hr h => ?_)
  · obtain ⟨u, v, x, y, rfl, _⟩ := h
    rfl
  · obtain ⟨u, v, x, y, rfl, hv, hx, k⟩ := h
    exact ⟨_, (@pss_cons _ _ _ _ _ (@ps_expr _ _ _ _ (@pe_fnX _ _ _ _ _ _ _ _ _ _ _ _ _ _ _ _ _ T.check_size (okx_check_size T) hr (by decide) passX (@pa_cons _ _ _ _ _ (pv 1) (@pa_nil _) star_name) (by rfl) (by decide) (by rfl) (by rfl)) (by rfl)) (@pss_never _ _)), ⟨_, rfl, _, x, y, rfl, hv, hx, k⟩⟩
def spx_meets_cell (t : Adr) : Sp := fun vs H Q E => ∃ a b c v x y, vs = [a, b, c, v] ∧ TupT H v [x, y] ∧ x ≤ 0 ∧ E (.ref t.c_NoSize) none H
theorem sc_meets_cell : FnScope ["p", "q", "cell", "size"] ["p", "q", "cell", "size"] (defScope s_meets_cell) := ⟨rfl, rfl, rfl, by decide +kernel, rfl, by decide +kernel, by decide +kernel⟩
theorem okx_meets_cell (T : Txt K mg t) : FnOk P w K mg base (CXE P w) 3 t.f_meets_cell t.d_meets_cell ["p", "q", "cell", "size"] (spx_meets_cell t) := by
  refine T.meets_cell.F.okE (k := 2) sc_meets_cell (fun vs H Q E h => ?_) (fun cdv A outer s H vs Q E hr h => ?_)
  · obtain ⟨a, b, c, v, x, y, rfl, _⟩ := h
    rfl
  · obtain ⟨a, b, c, v, x, y, rfl, hv, hx, k⟩ := h
    exact ⟨_, (@pss_cons _ _ _ _ _ (@ps_expr _ _ _ _ (@pe_fnX _ _ _ _ _ _ _ _ _ _ _ _ _ _ _ _ _ T.check_size (okx_check_size T) hr (by decide) passX (@pa_cons _ _ _ _ _ (pv 3) (@pa_nil _) star_name) (by rfl) (by decide) (by rfl) (by rfl)) (by rfl)) (@pss_never _ _)), ⟨_, rfl, _, x, y, rfl, hv, hx, k⟩⟩
def spx_hot_cells (t : Adr) : Sp := fun vs H Q E => ∃ u v x y, vs = [u, v] ∧ TupT H v [x, y] ∧ x ≤ 0 ∧ E (.ref t.c_NoSize) none H
theorem sc_hot_cells : FnScope ["plan", "size", "hot", "a", "b", "passes"] ["plan", "size"] (defScope s_hot_cells) := ⟨rfl, rfl, rfl, by decide +kernel, rfl, by decide +kernel, by decide +kernel⟩
theorem okx_hot_cells (T : Txt K mg t) : FnOk P w K mg base (CXE P w) 3 t.f_hot_cells t.d_hot_cells ["plan", "size"] (spx_hot_cells t) := by
  refine T.hot_cells.F.okE (k := 2) sc_hot_cells (fun vs H Q E h => ?_) (fun cdv A outer s H vs Q E hr h => ?_)
  · obtain ⟨u, v, x, y, rfl, _⟩ := h
    rfl
  · obtain ⟨u, v, x, y, rfl, hv, hx, k⟩ := h
    exact ⟨_, (@pss_cons _ _ _ _ _ (@ps_expr _ _ _ _ (@pe_fnX _ _ _ _ _ _ _ _ _ _ _ _ _ _ _ _ _ T.check_size (okx_check_size T) hr (by decide) passX (@pa_cons _ _ _ _ _ (pv 1) (@pa_nil _) star_name) (by rfl) (by decide) (by rfl) (by rfl)) (by rfl)) (@pss_never _ _)), ⟨_, rfl, _, x, y, rfl, hv, hx, k⟩⟩
def spx_thread_of (t : Adr) : Sp := fun vs H Q E => ∃ a b c v x y, vs = [a, b, c, v] ∧ TupT H v [x, y] ∧ x ≤ 0 ∧ E (.ref t.c_NoSize) none H
theorem sc_thread_of : FnScope ["p", "q", "cells", "size", "track", "firsts", "cell", "first"] ["p", "q", "cells", "size"] (defScope s_thread_of) := ⟨rfl, rfl, rfl, by decide +kernel, rfl, by decide +kernel, by decide +kernel⟩
theorem okx_thread_of (T : Txt K mg t) : FnOk P w K mg base (CXE P w) 4 t.f_thread_of t.d_thread_of ["p", "q", "cells", "size"] (spx_thread_of t) := by
  refine T.thread_of.F.okE (k := 3) sc_thread_of (fun vs H Q E h => ?_) (fun cdv A outer s H vs Q E hr h => ?_)
  · obtain ⟨a, b, c, v, x, y, rfl, _⟩ := h
    rfl
  · obtain ⟨a, b, c, v, x, y, rfl, hv, hx, k⟩ := h
    exact ⟨_, (@pss_cons _ _ _ _ _ (@ps_expr _ _ _ _ (@pe_fnX _ _ _ _ _ _ _ _ _ _ _ _ _ _ _ _ _ T.check_size (okx_check_size T) hr (by decide) passX (@pa_cons _ _ _ _ _ (pv 3) (@pa_nil _) star_name) (by rfl) (by decide) (by rfl) (by rfl)) (by rfl)) (@pss_never _ _)), ⟨_, rfl, _, x, y, rfl, hv, hx, k⟩⟩
def spx_threads_of (t : Adr) : Sp := fun vs H Q E => ∃ u v x y, vs = [u, v] ∧ TupT H v [x, y] ∧ x ≤ 0 ∧ E (.ref t.c_NoSize) none H
theorem sc_threads_of : FnScope ["plan", "size", "hot"] ["plan", "size"] (defScope s_threads_of) := ⟨rfl, rfl, rfl, by decide +kernel, rfl, by decide +kernel, by decide +kernel⟩
theorem okx_threads_of (T : Txt K mg t) : FnOk P w K mg base (CXE P w) 5 t.f_threads_of t.d_threads_of ["plan", "size"] (spx_threads_of t) := by
  refine T.threads_of.F.okE (k := 4) sc_threads_of (fun vs H Q E h => ?_) (fun cdv A outer s H vs Q E hr h => ?_)
  · obtain ⟨u, v, x, y, rfl, _⟩ := h
    rfl
  · obtain ⟨u, v, x, y, rfl, hv, hx, k⟩ := h
    exact ⟨_, (@pss_cons _ _ _ _ _ (@ps_set _ _ 2 _ _ _ _ sc_threads_of.nd rfl (Or.inr rfl) (@pe_fnX _ _ _ _ _ _ _ _ _ _ _ _ _ _ _ _ _ T.hot_cells (okx_hot_cells T) hr (by decide) passX (@pa_cons _ _ _ _ _ (pv 0) (@pa_cons _ _ _ _ _ (pv 1) (@pa_nil _) star_name) star_name) (by rfl) (by decide) (by rfl) (by rfl)) (by rfl) (by first | exact .inl rfl | exact .inr rfl | assumption)) (@pss_never _ _)), ⟨_, rfl, _, rfl, _, _, x, y, rfl, hv, hx, k⟩⟩
theorem sc_made_of : FnScope ["many", "strokes", "pieces", "ranks"] ["many", "strokes"] (defScope s_made_of) := ⟨rfl, rfl, rfl, by decide +kernel, rfl, by decide +kernel, by decide +kernel⟩
def spx_strokes_between_middles (t : Adr) : Sp := fun vs H Q E => ∃ (b l : Addr) (m v : V) (x y : Int), vs = [.ref b, v] ∧ H b = some (.tup [m, .ref l]) ∧ TupT H v [x, y] ∧ x ≤ 0 ∧ ∀ H', Same H H' → E (.ref t.c_NoSize) none H'
theorem sc_strokes_between_middles : FnScope ["plan", "size", "sums", "piece", "thread", "middles", "u", "v"] ["plan", "size"] (defScope s_strokes_between_middles) := ⟨rfl, rfl, rfl, by decide +kernel, rfl, by decide +kernel, by decide +kernel⟩
theorem okx_strokes_between_middles (T : Txt K mg t) : FnOk P w K mg base (CXE P w) 6 t.f_strokes_between_middles t.d_strokes_between_middles ["plan", "size"] (spx_strokes_between_middles t) := by
  refine T.strokes_between_middles.F.okE (k := 5) sc_strokes_between_middles (fun vs H Q E h => ?_) (fun cdv A outer s H vs Q E hr h => ?_)
  · obtain ⟨b, l, m, v, x, y, rfl, _⟩ := h
    rfl
  · obtain ⟨b, l, m, v, x, y, rfl, hb, hv, hx, k⟩ := h
    refine ⟨_, (@pss_cons _ _ _ _ _ (@ps_set _ _ 2 _ _ _ _ sc_strokes_between_middles.nd rfl (Or.inl rfl) (@pe_newD _ _) (by rfl) (by first | exact .inl rfl | exact .inr rfl | assumption)) (@pss_cons _ _ _ _ _ (@ps_forZipX _ _ _ _ _ _ _ _ _ rfl T.b_zip PyProof.Rows.Boot.«zip» (@pa_cons _ _ _ _ _ (@pe_ix _ _ _ _ _ _ _ ix_tup (pv 0) (@pe_int _ _ _ _) (fun _ _ => rfl)) (@pa_cons _ _ _ _ _ (@pe_fnX _ _ _ _ _ _ _ _ _ _ _ _ _ _ _ _ _ T.threads_of (okx_threads_of T) hr (by decide) passX (@pa_cons _ _ _ _ _ (pv 0) (@pa_cons _ _ _ _ _ (pv 1) (@pa_nil _) star_name) star_name) (by rfl) (by decide) (by rfl) (by rfl)) (@pa_nil _) star_call) star_sub) (by rfl) (by rfl) (by intro _; rfl)) (@pss_never _ _))), ?_⟩
    intro d hd
    have s : Same H (upd H d (.dK [])) := Same.upd hd
    exact pu_ixT (K := K) (i := 1) (v := .ref l) (pu_v rfl) pu_c (SqT.of (s _ _ hb)) rfl _ ⟨_, rfl, _, rfl, _, _, x, y, rfl, hv.same s, hx, k _ s⟩
def spx_brought_to (t : Adr) : Sp := fun vs H Q E => ∃ (b l : Addr) (m v : V) (x y : Int), vs = [.ref b, v] ∧ H b = some (.tup [m, .ref l]) ∧ TupT H v [x, y] ∧ x ≤ 0 ∧ ∀ H', Same H H' → E (.ref t.c_NoSize) none H'
theorem sc_brought_to : FnScope ["plan", "size"] ["plan", "size"] (defScope s_brought_to) := ⟨rfl, rfl, rfl, by decide +kernel, rfl, by decide +kernel, by decide +kernel⟩
theorem okx_brought_to (T : Txt K mg t) : FnOk P w K mg base (CXE P w) 7 t.f_brought_to t.d_brought_to ["plan", "size"] (spx_brought_to t) := by
  refine T.brought_to.F.okE (k := 6) sc_brought_to (fun vs H Q E h => ?_) (fun cdv A outer s H vs Q E hr h => ?_)
  · obtain ⟨b, l, m, v, x, y, rfl, _⟩ := h
    rfl
  · obtain ⟨b, l, m, v, x, y, rfl, hb, hv, hx, k⟩ := h
    refine ⟨_, (@pss_one _ _ _ (@ps_ret _ _ _ _ (@pe_fn _ _ _ _ _ _ _ _ _ _ _ _ _ _ T.made_of (T.made_of.F.okNo sc_made_of) hr (by decide) (@pa_cons _ _ _ _ _ (@pe_ix _ _ _ _ _ _ _ ix_tup (pv 0) (@pe_int _ _ _ _) (fun _ _ => rfl)) (@pa_cons _ _ _ _ _ (@pe_fnX _ _ _ _ _ _ _ _ _ _ _ _ _ _ _ _ _ T.strokes_between_middles (okx_strokes_between_middles T) hr (by decide) passX (@pa_cons _ _ _ _ _ (pv 0) (@pa_cons _ _ _ _ _ (pv 1) (@pa_nil _) star_name) star_name) (by rfl) (by decide) (by rfl) (by rfl)) (@pa_nil _) star_call) star_sub) (by rfl) (by decide) (by rfl) (by rfl)))), ?_⟩
    exact pu_ixT (K := K) (i := 0) (v := m) (pu_v rfl) pu_c (SqT.of hb) rfl _ ⟨_, rfl, _, rfl, b, l, m, _, x, y, rfl, hb, hv, hx, k⟩
def sp_l_hand (K : PySem.W.Frag) : Sp := fun vs H Q _ => ∃ (a : Addr) (ns : List Int), vs = [.ref a] ∧ SqL K H a (ns.map V.int) ∧ ∀ hd sc H', Same H H' → H hd = none → HandAt H' hd sc → Q (.ref hd) H'
theorem sc_l_hand : FnScope ["_law_script"] ["_law_script"] (defScope s_l_hand) := ⟨rfl, rfl, rfl, by decide +kernel, rfl, by decide +kernel, by decide +kernel⟩
theorem ok_l_hand (T : Txt K mg t) : FnOk P w K mg base CX0 1 t.f_l_hand t.d_l_hand ["_law_script"] (sp_l_hand K) := by
  refine T.l_hand.F.ok (k := 0) sc_l_hand (fun vs H Q E h => ?_) (fun cdv A outer s H vs Q E hr h => ?_)
  · obtain ⟨a, ns, rfl, _⟩ := h
    rfl
  · obtain ⟨a, ns, rfl, hS, k⟩ := h
    refine ⟨_, (@pss_one _ _ _ (@ps_ret _ _ _ _ (@pe_lst _ _ _ _ (@pa_cons _ _ _ _ _ (@pe_callTy _ _ _ _ _ _ _ _ _ call_list_of (by rfl) T.b_list PyProof.Rows.boot_list (@pa_cons _ _ _ _ _ (@pe_slice _ _ _ _ _ _ _ _ _ _ sl_list (pv 0) (@po_none _) (@po_some _ _ _ (@pe_int _ _ _ _))) (@pa_nil _) star_sub) (by decide) (by decide) (by rfl) (by rfl)) (@pa_cons _ _ _ _ _ (@pe_int _ _ _ _) (@pa_cons _ _ _ _ _ (@pe_int _ _ _ _) (@pa_cons _ _ _ _ _ (@pe_int _ _ _ _) (@pa_cons _ _ _ _ _ (@pe_int _ _ _ _) (@pa_cons _ _ _ _ _ (@pe_int _ _ _ _) (@pa_nil _) star_con) star_con) star_con) star_con) star_con) star_call)))), ?_⟩
    refine ⟨_, rfl, 63, rfl, a, _, rfl, hS, fun p hp => ?_⟩
    refine ⟨p, _, rfl, .inl (SqL.of upd_same), fun l hl => ⟨by show 6 ≤ sizeLine; decide, fun hd hh => ?_⟩⟩
    have s1 : Same H (upd H p (.lst (cutV (ns.map V.int) none (some 63)))) := Same.upd hp
    have s2 : Same (upd H p (.lst (cutV (ns.map V.int) none (some 63)))) _ := Same.upd (o := .lst (cutV (ns.map V.int) none (some 63))) hl
    have s3 := s1.trans (s2.trans (Same.upd (o := .lst [.ref l, .int 0, .int 0, .int 0, .int 20011, .int 40009]) hh))
    refine k hd l _ s3 (s1.free (s2.free hh)) ⟨(ns.drop (HT.sIx (ns.map V.int).length 0 none)).take (HT.sIx (ns.map V.int).length (ns.map V.int).length (some 63) - HT.sIx (ns.map V.int).length 0 none), 0, 0, 0, 20011, 40009, upd_same, ?_, by decide⟩
    rw [upd_ne (ne_of_none upd_same hh), upd_same, List.map_take, List.map_drop]
    rfl
def sp_l_next : Sp := fun vs H Q _ => ∃ hd sc, vs = [.ref hd] ∧ HandAt H hd sc ∧ ∀ (n : Int) H', HandAt H' hd sc → SameB hd H H' → Q (.int n) H'
theorem sc_l_next : FnScope ["_law_hand_here"] ["_law_hand_here"] (defScope s_l_next) := ⟨rfl, rfl, rfl, by decide +kernel, rfl, by decide +kernel, by decide +kernel⟩
theorem ok_l_next (T : Txt K mg t) : FnOk P w K mg base CX0 1 t.f_l_next t.d_l_next ["_law_hand_here"] sp_l_next := by
  refine T.l_next.F.ok (k := 0) sc_l_next (fun vs H Q E h => ?_) (fun cdv A outer s H vs Q E hr h => ?_)
  · obtain ⟨hd, sc, rfl, _⟩ := h
    rfl
  · obtain ⟨hd, sc, rfl, ⟨ns, i, b, c, p, q, h1, h2, h0⟩, k⟩ := h
    have nsc := HandAt.ne h1 h2
    refine ⟨_, (@pss_cons _ _ _ _ _ (@ps_asg _ _ _ _ _ _ (@pe_op _ _ _ _ _ _ _ _ op_modN (@pe_op _ _ _ _ _ _ _ _ op_mulB (@pe_ix _ _ _ _ _ _ _ ix_list (pv 0) (@pe_int _ _ _ _) (fun _ _ => rfl)) (@pe_int _ _ _ _)) (@pe_int _ _ _ _)) (@pg_sub _ _ _ _ _ _ _ (pv 0) (@pe_int _ _ _ _) set_list (by intro _; rfl)) (by rfl) (by rfl) (by rfl)) (@pss_cons _ _ _ _ _ (@ps_asg _ _ _ _ _ _ (@pe_op _ _ _ _ _ _ _ _ op_modN (@pe_op _ _ _ _ _ _ _ _ op_mulB (@pe_ix _ _ _ _ _ _ _ ix_list (pv 0) (@pe_int _ _ _ _) (fun _ _ => rfl)) (@pe_int _ _ _ _)) (@pe_int _ _ _ _)) (@pg_sub _ _ _ _ _ _ _ (pv 0) (@pe_int _ _ _ _) set_list (by intro _; rfl)) (by rfl) (by rfl) (by rfl)) (@pss_one _ _ _ (@ps_ret _ _ _ _ (@pe_op _ _ _ _ _ _ _ _ op_add (@pe_ix _ _ _ _ _ _ _ ix_list (pv 0) (@pe_int _ _ _ _) (fun _ _ => rfl)) (@pe_ix _ _ _ _ _ _ _ ix_list (pv 0) (@pe_int _ _ _ _) (fun _ _ => rfl))))))), ?_⟩
    refine st_put (pu_mod (pu_mul (pu_ixL (pu_v rfl) pu_c (SqL.of h1) rfl) pu_c (IntMulOk.of_right (by decide))) pu_c (by decide)) (pu_v rfl) pu_c h1 rfl ?_
    refine st_put (pu_mod (pu_mul (pu_ixL (pu_v rfl) pu_c (SqL.of upd_same) rfl) pu_c (IntMulOk.of_right (by decide))) pu_c (by decide)) (pu_v rfl) pu_c upd_same rfl ?_
    refine st_ret (pu_add (pu_ixL (pu_v rfl) pu_c (SqL.of upd_same) rfl) (pu_ixL (pu_v rfl) pu_c (SqL.of upd_same) rfl)) ?_
    exact k _ _ ⟨ns, i, b, c, _, _, upd_same, by rw [upd_ne nsc, upd_ne nsc]; exact h2, h0⟩ (SameB.upd.trans SameB.upd)
def sp_l_take : Sp := fun vs H Q _ => ∃ hd sc, vs = [.ref hd] ∧ HandAt H hd sc ∧ ∀ H', HandAt H' hd sc → SameB hd H H' → Q .non H'
theorem sc_l_take : FnScope ["_law_hand_here", "_law_cell"] ["_law_hand_here"] (defScope s_l_take) := ⟨rfl, rfl, rfl, by decide +kernel, rfl, by decide +kernel, by decide +kernel⟩
theorem ok_l_take (T : Txt K mg t) : FnOk P w K mg base CX0 2 t.f_l_take t.d_l_take ["_law_hand_here"] sp_l_take := by
  refine T.l_take.F.ok (k := 1) sc_l_take (fun vs H Q E h => ?_) (fun cdv A outer s H vs Q E hr h => ?_)
  · obtain ⟨hd, sc, rfl, _⟩ := h
    rfl
  · obtain ⟨hd, sc, rfl, ⟨ns, i, b, c, p, q, h1, h2, h0⟩, k⟩ := h
    have nsc := HandAt.ne h1 h2
    refine ⟨_, (@pss_cons _ _ _ _ _ (@ps_set _ _ 1 _ _ _ _ sc_l_take.nd rfl (Or.inl rfl) (@pe_int _ _ _ _) (by rfl) (by first | exact .inl rfl | exact .inr rfl | assumption)) (@pss_cons _ _ _ _ _ (@ps_if _ _ _ _ _ _ _ _ (@pt_cmpR _ _ _ _ _ _ _ _ op_lt (@pe_ix _ _ _ _ _ _ _ ix_list (pv 0) (@pe_int _ _ _ _) (fun _ _ => rfl)) (@pe_callB _ _ _ _ _ _ _ _ _ call_len_seq (by rfl) T.b_len PySem.boot_len (@pa_cons _ _ _ _ _ (@pe_ix _ _ _ _ _ _ _ ix_list (pv 0) (@pe_int _ _ _ _) (fun _ _ => rfl)) (@pa_nil _) star_sub) (by decide) (by decide) (by rfl) (by rfl)) (nomark _)) (@pss_one _ _ _ (@ps_set _ _ 1 _ _ _ _ sc_l_take.nd rfl (Or.inl rfl) (@pe_callB _ _ _ _ _ _ _ _ _ call_abs (by rfl) T.b_abs PyProof.Rows.boot_abs (@pa_cons _ _ _ _ _ (@pe_ix _ _ _ _ _ _ _ ix_list (@pe_ix _ _ _ _ _ _ _ ix_list (pv 0) (@pe_int _ _ _ _) (fun _ _ => rfl)) (@pe_ix _ _ _ _ _ _ _ ix_list (pv 0) (@pe_int _ _ _ _) (fun _ _ => rfl)) (fun _ _ => rfl)) (@pa_nil _) star_sub) (by decide) (by decide) (by rfl) (by rfl)) (by rfl) (by first | exact .inl rfl | exact .inr rfl | assumption))) (@pss_nil _)) (@pss_cons _ _ _ _ _ (@ps_augS _ _ _ _ _ _ _ _ _ _ _ _ _ (pv 0) (@pe_int _ _ _ _) get_list (@pe_int _ _ _ _) ip_add set_list (by intros; rfl)) (@pss_cons _ _ _ _ _ (@ps_if _ _ _ _ _ _ _ _ (@pt_cmpR _ _ _ _ _ _ _ _ op_ge (pv 1) (@pe_op _ _ _ _ _ _ _ _ op_pow (@pe_int _ _ _ _) (@pe_int _ _ _ _)) (nomark _)) (@pss_one _ _ _ (@ps_asg _ _ _ _ _ _ (pv 1) (@pg_sub _ _ _ _ _ _ _ (pv 0) (@pe_int _ _ _ _) set_list (by intro _; rfl)) (by rfl) (by rfl) (by rfl))) (@pss_one _ _ _ (@ps_asg _ _ _ _ _ _ (@pe_int _ _ _ _) (@pg_sub _ _ _ _ _ _ _ (pv 0) (@pe_int _ _ _ _) set_list (by intro _; rfl)) (by rfl) (by rfl) (by rfl)))) (@pss_cons _ _ _ _ _ (@ps_asg _ _ _ _ _ _ (@pe_op _ _ _ _ _ _ _ _ op_add (@pe_op _ _ _ _ _ _ _ _ op_modN (@pe_op _ _ _ _ _ _ _ _ op_add (@pe_ix _ _ _ _ _ _ _ ix_list (pv 0) (@pe_int _ _ _ _) (fun _ _ => rfl)) (@pe_op _ _ _ _ _ _ _ _ op_modN (pv 1) (@pe_int _ _ _ _))) (@pe_int _ _ _ _)) (@pe_int _ _ _ _)) (@pg_sub _ _ _ _ _ _ _ (pv 0) (@pe_int _ _ _ _) set_list (by intro _; rfl)) (by rfl) (by rfl) (by rfl)) (@pss_cons _ _ _ _ _ (@ps_asg _ _ _ _ _ _ (@pe_op _ _ _ _ _ _ _ _ op_add (@pe_op _ _ _ _ _ _ _ _ op_modN (@pe_op _ _ _ _ _ _ _ _ op_add (@pe_op _ _ _ _ _ _ _ _ op_mulB (@pe_ix _ _ _ _ _ _ _ ix_list (pv 0) (@pe_int _ _ _ _) (fun _ _ => rfl)) (@pe_int _ _ _ _)) (@pe_op _ _ _ _ _ _ _ _ op_modN (pv 1) (@pe_int _ _ _ _))) (@pe_int _ _ _ _)) (@pe_int _ _ _ _)) (@pg_sub _ _ _ _ _ _ _ (pv 0) (@pe_int _ _ _ _) set_list (by intro _; rfl)) (by rfl) (by rfl) (by rfl)) (@pss_cons _ _ _ _ _ (@ps_expr _ _ _ _ (@pe_fn _ _ _ _ _ _ _ _ _ _ _ _ _ _ T.l_next (ok_l_next T) hr (by decide) (@pa_cons _ _ _ _ _ (pv 0) (@pa_nil _) star_name) (by rfl) (by decide) (by rfl) (by rfl)) (by rfl)) (@pss_one _ _ _ (@ps_expr _ _ _ _ (@pe_fn _ _ _ _ _ _ _ _ _ _ _ _ _ _ T.l_next (ok_l_next T) hr (by decide) (@pa_cons _ _ _ _ _ (pv 0) (@pa_nil _) star_name) (by rfl) (by decide) (by rfl) (by rfl)) (by rfl)))))))))), ?_⟩
    refine st_set pu_c ?_
    refine st_ifSet (R := fun v H' => H = H' ∧ ∃ cell : Int, v = .int cell) (v0 := .int 0) (pt_t (pu_lt (pu_ixL (pu_v rfl) pu_c (SqL.of h1) rfl) (pu_lenL (pa_c (pu_ixL (pu_v rfl) pu_c (SqL.of h1) rfl) pa_n) (SqL.of h2)))) (fun e => ?_) rfl (fun _ => ⟨rfl, 0, rfl⟩) ?_
    · have e' : i < ((ns.map V.int).length : Int) := by simpa using e
      rw [List.length_map] at e'
      obtain ⟨m, hm⟩ : ∃ m, ns[i.toNat]? = some m := ⟨_, List.getElem?_eq_getElem (by omega)⟩
      have hat : atI (ns.map V.int) i = some (.int m) := by
        have := atI_nat (xs := ns.map V.int) (j := i.toNat) (v := .int m) (by rw [List.getElem?_map, hm]; rfl)
        rwa [show ((i.toNat : Nat) : Int) = i by omega] at this
      exact (pu_abs (pa_c (pu_ixL (pu_ixL (pu_v rfl) pu_c (SqL.of h1) rfl) (pu_ixL (pu_v rfl) pu_c (SqL.of h1) rfl) (SqL.of h2) hat) pa_n)).gv' ⟨rfl, _, rfl⟩
    rintro v H' ⟨rfl, cell, rfl⟩
    refine st_augI (pu_v rfl) pu_c (by decide) h1 rfl pu_c rfl ?_
    refine st_if (pt_t (pu_ge (pu_v rfl) (pu_pow pu_c pu_c ⟨by decide, by decide, by decide⟩))) (fun _ => st_put1 (pu_v rfl) (pu_v rfl) pu_c upd_same rfl ?_) (fun _ => st_put1 pu_c (pu_v rfl) pu_c upd_same rfl ?_)
    all_goals
      refine st_put (pu_add (pu_mod (pu_add (pu_ixL (pu_v rfl) pu_c (SqL.of upd_same) rfl) (pu_mod (pu_v rfl) pu_c (by decide))) pu_c (by decide)) pu_c) (pu_v rfl) pu_c upd_same rfl ?_
      refine st_put (pu_add (pu_mod (pu_add (pu_mul (pu_ixL (pu_v rfl) pu_c (SqL.of upd_same) rfl) pu_c (IntMulOk.of_right (by decide))) (pu_mod (pu_v rfl) pu_c (by decide))) pu_c (by decide)) pu_c) (pu_v rfl) pu_c upd_same rfl ?_
      refine st_exprG (R := fun _ H' => HandAt H' hd sc ∧ SameB hd H H') (gv_call (pa_c (pu_v rfl) pa_n) fun Q f => ⟨hd, sc, rfl, ⟨ns, _, _, _, _, _, upd_same, by rw [upd_ne nsc, upd_ne nsc, upd_ne nsc, upd_ne nsc]; exact h2, (by omega : 0 ≤ i + 1)⟩, fun n H' a s => f _ _ ⟨a, ((SameB.upd.trans SameB.upd).trans (SameB.upd.trans SameB.upd)).trans s⟩⟩) ?_
      rintro _ H1 ⟨a1, s1⟩
      refine st_exprG1 (R := fun _ H' => HandAt H' hd sc ∧ SameB hd H H') (gv_call (pa_c (pu_v rfl) pa_n) fun Q f => ⟨hd, sc, rfl, a1, fun n H' a s => f _ _ ⟨a, s1.trans s⟩⟩) ?_
      rintro _ H2 ⟨a2, s2⟩
      exact k _ a2 s2
def sp_l_draw : Sp := fun vs H Q _ => ∃ hd sc m, vs = [.ref hd, .int m] ∧ HandAt H hd sc ∧ 0 < m ∧ Bd 9000 m ∧ ∀ (n : Int) H', 0 ≤ n → n < m → HandAt H' hd sc → SameB hd H H' → Q (.int n) H'
/-- draw(hand, m), m known -/
theorem gv_draw {σ : L2.St} {H : Hp} {hd sc : Addr} {t : TA} {m : Int} (hh : HandAt H hd sc) (ha : PuA t σ H [.ref hd, .int m]) (h0 : 0 < m) (hb : Bd 9000 m) : Gv (tCall sp_l_draw [] E0 t) σ H (fun v H' => (∃ n : Int, v = .int n ∧ 0 ≤ n ∧ n < m) ∧ HandAt H' hd sc ∧ SameB hd H H') :=
  gv_call ha fun Q f => ⟨hd, sc, m, rfl, hh, h0, hb, fun n H' z0 z1 a s => f _ _ ⟨⟨n, rfl, z0, z1⟩, a, s⟩⟩
theorem pick_of {xs : List V} {ys : List Int} {m : Int} (e : xs = ys.map V.int) (h : ∀ y ∈ ys, 0 < y ∧ y ≤ m) {n : Int} (h0 : 0 ≤ n) (h1 : n < ys.length) : ∃ y : Int, atI xs n = some (.int y) ∧ 0 < y ∧ y ≤ m := by
  subst e
  have hl : n.toNat < ys.length := by omega
  refine ⟨ys[n.toNat], ?_, h _ (List.getElem_mem hl)⟩
  have := atI_nat (xs := ys.map V.int) (j := n.toNat) (v := .int ys[n.toNat]) (by simp [hl])
  rwa [show ((n.toNat : Nat) : Int) = n by omega] at this
/-- [..][draw(hand, so many)] -/
theorem gv_pick {K : PySem.W.Frag} {σ : L2.St} {H : Hp} {hd sc : Addr} {t ta : TA} {ys : List Int} {m : Int} (hh : HandAt H hd sc) (hl : PuA ta σ H (ys.map V.int)) (hz : ys.length ≤ 1000) (h0 : 0 < ys.length) (hy : ∀ y ∈ ys, 0 < y ∧ y ≤ m)
    (ha : ∀ H', PuA t σ H' [.ref hd, .int (ys.length : Nat)]) : Gv (tOp (rIxL K) (tLst ta) (tCall sp_l_draw [] E0 t)) σ H (fun v H' => (∃ n : Int, v = .int n ∧ 0 < n ∧ n ≤ m) ∧ HandAt H' hd sc ∧ SameB hd H H') := by
  intro Q f
  refine gv_lst hl (by rw [List.length_map]; exact Nat.le_of_lt (small1000 hz)) _ ?_
  rintro _ _ ⟨p, hp, rfl, rfl⟩
  have s0 := Same.upd (o := .lst (ys.map V.int)) hp
  refine gv_draw (hh.same s0) (ha _) (by omega) (Bd.small (by omega)) _ ?_
  rintro _ H1 ⟨⟨n, rfl, z0, z1⟩, hh1, s1⟩
  obtain ⟨y, ey, y0, y1⟩ := pick_of (xs := ys.map V.int) rfl hy z0 z1
  obtain ⟨zs, hzs⟩ := hh.ls
  exact ⟨p, _, n, .int y, rfl, rfl, SqL.of (s1 _ _ upd_same (Ne.symm (ne_of_none hzs hp))), ey, f _ _ ⟨⟨y, rfl, y0, y1⟩, hh1, s0.b.trans s1⟩⟩
theorem sc_l_draw : FnScope ["_law_hand_here", "_law_many", "_law_got", "_law_value", "_law_size"] ["_law_hand_here", "_law_many"] (defScope s_l_draw) := ⟨rfl, rfl, rfl, by decide +kernel, rfl, by decide +kernel, by decide +kernel⟩
theorem ok_l_draw (T : Txt K mg t) : FnOk P w K mg base CX0 3 t.f_l_draw t.d_l_draw ["_law_hand_here", "_law_many"] sp_l_draw := by
  refine T.l_draw.F.ok (k := 2) sc_l_draw (fun vs H Q E h => ?_) (fun cdv A outer s H vs Q E hr h => ?_)
  · obtain ⟨hd, sc, m, rfl, _⟩ := h
    rfl
  · obtain ⟨hd, sc, m, rfl, hh, hm, hB, k⟩ := h
    refine ⟨_, (@pss_cons _ _ _ _ _ (@ps_if _ _ _ _ _ _ _ _ (PW.pt (@pw_and _ _ _ _ _ _ _ (@pt_cmpR _ _ _ _ _ _ _ _ op_eq (@pe_ix _ _ _ _ _ _ _ ix_list (pv 0) (@pe_int _ _ _ _) (fun _ _ => rfl)) (@pe_int _ _ _ _) (nomark _)) (@pw_and1 _ _ _ _ (@pt_cmpR _ _ _ _ _ _ _ _ op_eq (@pe_ix _ _ _ _ _ _ _ ix_list (pv 0) (@pe_int _ _ _ _) (fun _ _ => rfl)) (@pe_int _ _ _ _) (nomark _))))) (@pss_one _ _ _ (@ps_expr _ _ _ _ (@pe_fn _ _ _ _ _ _ _ _ _ _ _ _ _ _ T.l_take (ok_l_take T) hr (by decide) (@pa_cons _ _ _ _ _ (pv 0) (@pa_nil _) star_name) (by rfl) (by decide) (by rfl) (by rfl)) (by rfl))) (@pss_nil _)) (@pss_cons _ _ _ _ _ (@ps_if _ _ _ _ _ _ _ _ (@pt_cmpR _ _ _ _ _ _ _ _ op_gt (@pe_ix _ _ _ _ _ _ _ ix_list (pv 0) (@pe_int _ _ _ _) (fun _ _ => rfl)) (@pe_int _ _ _ _) (nomark _)) (@pss_cons _ _ _ _ _ (@ps_set _ _ 2 _ _ _ _ sc_l_draw.nd rfl (Or.inl rfl) (@pe_op _ _ _ _ _ _ _ _ op_modN (@pe_ix _ _ _ _ _ _ _ ix_list (pv 0) (@pe_int _ _ _ _) (fun _ _ => rfl)) (pv 1)) (by rfl) (by first | exact .inl rfl | exact .inr rfl | assumption)) (@pss_cons _ _ _ _ _ (@ps_asg _ _ _ _ _ _ (@pe_op _ _ _ _ _ _ _ _ op_fdivB (@pe_ix _ _ _ _ _ _ _ ix_list (pv 0) (@pe_int _ _ _ _) (fun _ _ => rfl)) (pv 1)) (@pg_sub _ _ _ _ _ _ _ (pv 0) (@pe_int _ _ _ _) set_list (by intro _; rfl)) (by rfl) (by rfl) (by rfl)) (@pss_one _ _ _ (@ps_ret _ _ _ _ (pv 2))))) (@pss_nil _)) (@pss_cons _ _ _ _ _ (@ps_augS _ _ _ _ _ _ _ _ _ _ _ _ _ (pv 0) (@pe_int _ _ _ _) get_list (@pe_int _ _ _ _) ip_sub set_list (by intros; rfl)) (@pss_cons _ _ _ _ _ (@ps_set _ _ 3 _ _ _ _ sc_l_draw.nd rfl (Or.inl rfl) (@pe_fn _ _ _ _ _ _ _ _ _ _ _ _ _ _ T.l_next (ok_l_next T) hr (by decide) (@pa_cons _ _ _ _ _ (pv 0) (@pa_nil _) star_name) (by rfl) (by decide) (by rfl) (by rfl)) (by rfl) (by first | exact .inl rfl | exact .inr rfl | assumption)) (@pss_cons _ _ _ _ _ (@ps_set _ _ 4 _ _ _ _ sc_l_draw.nd rfl (Or.inl rfl) (@pe_int _ _ _ _) (by rfl) (by first | exact .inl rfl | exact .inr rfl | assumption)) (@pss_cons _ _ _ _ _ (@ps_while _ _ _ _ _ _ PassesOwn.never (@pt_cmpR _ _ _ _ _ _ _ _ op_lt (pv 4) (pv 1) (nomark _)) (@pss_cons _ _ _ _ _ (@ps_set _ _ 3 _ _ _ _ sc_l_draw.nd rfl (Or.inl rfl) (@pe_op _ _ _ _ _ _ _ _ op_add (@pe_op _ _ _ _ _ _ _ _ op_mulB (pv 3) (@pe_int _ _ _ _)) (@pe_fn _ _ _ _ _ _ _ _ _ _ _ _ _ _ T.l_next (ok_l_next T) hr (by decide) (@pa_cons _ _ _ _ _ (pv 0) (@pa_nil _) star_name) (by rfl) (by decide) (by rfl) (by rfl))) (by rfl) (by first | exact .inl rfl | exact .inr rfl | assumption)) (@pss_one _ _ _ (@ps_set _ _ 4 _ _ _ _ sc_l_draw.nd rfl (Or.inl rfl) (@pe_op _ _ _ _ _ _ _ _ op_mulB (pv 4) (@pe_int _ _ _ _)) (by rfl) (by first | exact .inl rfl | exact .inr rfl | assumption))))) (@pss_one _ _ _ (@ps_ret _ _ _ _ (@pe_op _ _ _ _ _ _ _ _ op_modN (pv 3) (pv 1)))))))))), ?_⟩
    refine (show ∀ (H1 : Hp) (rest : TS) (D : Ends) (σ : L2.St) (tc : TT) (te : TE), (∃ b, PuT tc σ H b ∧ (b = true → Gv te σ H (fun _ H' => HandAt H' hd sc ∧ SameB hd H H'))) → (∀ H', HandAt H' hd sc → SameB hd H H' → rest D σ H') → tSeq (tIfS tc (tDrop te) tNext) rest D σ H from fun H1 rest D σ tc te ⟨b, hc, he⟩ q => st_if hc (fun e => st_exprG1 (he e) fun v H' r => q H' r.1 r.2) fun _ => q H hh (SameB.refl _ _)) H _ _ _ _ _ ?_ ?_
    · obtain ⟨ns, i, b, c, p, q, h1, h2, h0⟩ := id hh
      exact ⟨_, pt_and (pt_t (pu_eqI (pu_ixL (pu_v rfl) pu_c (SqL.of h1) rfl) pu_c)) fun _ => pt_t (pu_eqI (pu_ixL (pu_v rfl) pu_c (SqL.of h1) rfl) pu_c), fun _ => gv_call (pa_c (pu_v rfl) pa_n) fun Q f => ⟨hd, sc, rfl, hh, fun H' a s => f _ _ ⟨a, s⟩⟩⟩
    intro H1 hh1 s1
    obtain ⟨ns, i, b, c, p, q, h1, h2, h0⟩ := id hh1
    have nsc := HandAt.ne h1 h2
    refine st_if (pt_t (pu_gt (pu_ixL (pu_v rfl) pu_c (SqL.of h1) rfl) pu_c)) (fun _ => ?_) fun _ => ?_
    · refine st_set (pu_mod (pu_ixL (pu_v rfl) pu_c (SqL.of h1) rfl) (pu_v rfl) (by omega)) ?_
      refine st_put (pu_fdiv (pu_ixL (pu_v rfl) pu_c (SqL.of h1) rfl) (pu_v rfl) ⟨by omega, hB⟩) (pu_v rfl) pu_c h1 rfl ?_
      refine st_ret (pu_v rfl) ?_
      have hl := fmod_lt (x := b) hm
      exact k _ _ hl.1 hl.2 ⟨ns, i, _, c, p, q, upd_same, by rw [upd_ne nsc]; exact h2, h0⟩ (s1.trans SameB.upd)
    · refine st_augI (pu_v rfl) pu_c (by decide) h1 rfl pu_c rfl ?_
      have hh2 : HandAt (upd H1 hd (.lst [.ref sc, .int i, .int b, .int (c - 1), .int p, .int q])) hd sc := ⟨ns, i, b, c - 1, p, q, upd_same, by rw [upd_ne nsc]; exact h2, h0⟩
      refine st_setG (R := fun v H' => (∃ n : Int, v = .int n) ∧ HandAt H' hd sc ∧ SameB hd H H') (gv_call (pa_c (pu_v rfl) pa_n) fun Q f => ⟨hd, sc, rfl, hh2, fun n H' a s => f _ _ ⟨⟨n, rfl⟩, a, s1.trans (SameB.upd.trans s)⟩⟩) ?_
      rintro _ H3 ⟨⟨n, rfl⟩, hh3, s3⟩
      refine st_set pu_c ?_
      refine st_while (fun σ H' => HandAt H' hd sc ∧ SameB hd H H' ∧ ∃ (x y : Int) (r : Option V), σ = [some (.ref hd), some (.int m), r, some (.int x), some (.int y)] ∧ 0 < y) (fun σ _ => match σ with | [_, _, _, _, some (.int y)] => (m - y).toNat | _ => 0)
        ⟨hh3, s3, n, 4294967296, _, rfl, by decide⟩ ?_
      rintro σ H4 ⟨hh4, s4, x, y, r, rfl, hy⟩
      refine ⟨_, pt_t (pu_lt (pu_v rfl) (pu_v rfl)), fun e => ?_, fun e => ?_⟩
      · have e' : y < m := by simpa using e
        refine st_setG (R := fun v H' => (∃ n : Int, v = .int n) ∧ HandAt H' hd sc ∧ SameB hd H H') (fun Q f => pu_mul (pu_v rfl) pu_c (IntMulOk.of_right (by decide)) _ ?_) ?_
        · exact gv_call (sp := sp_l_next) (E := E0) (R := fun v H' => (∃ n : Int, v = .int n) ∧ HandAt H' hd sc ∧ SameB hd H H') (pa_c (pu_v rfl) pa_n) (fun Q f => ⟨hd, sc, rfl, hh4, fun n H' a s => f _ _ ⟨⟨n, rfl⟩, a, s4.trans s⟩⟩) _ fun v H' ⟨⟨n, e⟩, a, s⟩ => by
            subst e
            exact ⟨_, n, rfl, rfl, f _ _ ⟨⟨_, rfl⟩, a, s⟩⟩
        rintro _ H5 ⟨⟨z, rfl⟩, hh5, s5⟩
        refine st_set1 (pu_mul (pu_v rfl) pu_c (IntMulOk.of_right (by decide))) ?_
        exact ⟨⟨hh5, s5, z, y * 4294967296, r, rfl, by omega⟩, by show (m - y * 4294967296).toNat < (m - y).toNat; omega⟩
      · refine st_ret (pu_mod (pu_v rfl) (pu_v rfl) (by omega)) ?_
        have hl := fmod_lt (x := x) hm
        exact k _ _ hl.1 hl.2 hh4 s4
def sp_l_divisor : Sp := fun vs H Q _ => ∃ a b : Int, vs = [.int a, .int b] ∧ Q (.int (Int.gcd a b)) H
theorem sc_l_divisor : FnScope ["_law_one", "_law_other"] ["_law_one", "_law_other"] (defScope s_l_divisor) := ⟨rfl, rfl, rfl, by decide +kernel, rfl, by decide +kernel, by decide +kernel⟩
theorem ok_l_divisor (T : Txt K mg t) : FnOk P w K mg base CX0 1 t.f_l_divisor t.d_l_divisor ["_law_one", "_law_other"] sp_l_divisor := by
  refine T.l_divisor.F.ok (k := 0) sc_l_divisor (fun vs H Q E h => ?_) (fun cdv A outer s H vs Q E hr h => ?_)
  · obtain ⟨a, b, rfl, _⟩ := h
    rfl
  · obtain ⟨a, b, rfl, k⟩ := h
    refine ⟨_, (@pss_cons _ _ _ _ _ (@ps_set _ _ 0 _ _ _ _ sc_l_divisor.nd rfl (Or.inl rfl) (@pe_callB _ _ _ _ _ _ _ _ _ call_abs (by rfl) T.b_abs PyProof.Rows.boot_abs (@pa_cons _ _ _ _ _ (pv 0) (@pa_nil _) star_name) (by decide) (by decide) (by rfl) (by rfl)) (by rfl) (by first | exact .inl rfl | exact .inr rfl | assumption)) (@pss_cons _ _ _ _ _ (@ps_set _ _ 1 _ _ _ _ sc_l_divisor.nd rfl (Or.inl rfl) (@pe_callB _ _ _ _ _ _ _ _ _ call_abs (by rfl) T.b_abs PyProof.Rows.boot_abs (@pa_cons _ _ _ _ _ (pv 1) (@pa_nil _) star_name) (by decide) (by decide) (by rfl) (by rfl)) (by rfl) (by first | exact .inl rfl | exact .inr rfl | assumption)) (@pss_cons _ _ _ _ _ (@ps_while _ _ _ _ _ _ PassesOwn.never (@pt_cmpR _ _ _ _ _ _ _ _ op_gt (pv 1) (@pe_int _ _ _ _) (nomark _)) (@pss_one _ _ _ (@ps_par _ _ 0 1 _ _ _ _ _ _ _ _ _ _ _ rfl sc_l_divisor.nd rfl rfl (by decide) rfl rfl (@pa_cons _ _ _ _ _ (pv 1) (@pa_cons _ _ _ _ _ (@pe_op _ _ _ _ _ _ _ _ op_modN (pv 0) (pv 1)) (@pa_nil _) star_bin) star_name) (by rfl) (by rfl)))) (@pss_one _ _ _ (@ps_ret _ _ _ _ (pv 0)))))), ?_⟩
    refine st_set (pu_abs (pa_c (pu_v rfl) pa_n)) ?_
    refine st_set (pu_abs (pa_c (pu_v rfl) pa_n)) ?_
    refine st_while (fun σ H' => H' = H ∧ ∃ (x y : Int), σ = [some (.int x), some (.int y)] ∧ 0 ≤ x ∧ 0 ≤ y ∧ Int.gcd x y = Int.gcd a b) (fun σ _ => match σ with | [_, some (.int y)] => y.toNat | _ => 0)
      ⟨rfl, a.natAbs, b.natAbs, rfl, by omega, by omega, rfl⟩ ?_
    rintro σ H' ⟨rfl, x, y, rfl, hx, hy, hg⟩
    refine ⟨_, pt_t (pu_gt (pu_v rfl) pu_c), fun e => ?_, fun e => ?_⟩
    · have e' : 0 < y := by simpa using e
      have hm := fmod_lt (x := x) e'
      refine pa_c (pu_v rfl) (pa_c (pu_mod (pu_v rfl) (pu_v rfl) (by omega)) pa_n) _ ?_
      exact ⟨_, _, rfl, ⟨rfl, y, x.fmod y, rfl, hy, hm.1, by rw [gcd_step hx hy]; exact hg⟩, by show (x.fmod y).toNat < y.toNat; omega⟩
    · have e' : ¬ 0 < y := by simpa using e
      have e'' : y = 0 := by omega
      subst e''
      refine st_ret (pu_v rfl) ?_
      rw [← hg, gcd_zero x hx] at k
      exact k
def sp_l_point : Sp := fun vs H Q _ => ∃ a b c : Int, vs = [.int a, .int b, .int c] ∧ 0 < c ∧ Bd 9000 c ∧ ∀ v H' r, Same H H' → AtP H' v r → Is3 a b c r → Q v H'
theorem gv_point {σ : L2.St} {H : Hp} {t : TA} {a b c : Int} (ha : PuA t σ H [.int a, .int b, .int c]) (hc : 0 < c) (hb : Bd 9000 c) : Gv (tCall sp_l_point [] E0 t) σ H (fun v H' => Same H H' ∧ ∃ r, AtP H' v r ∧ Is3 a b c r) :=
  gv_call ha fun Q f => ⟨a, b, c, rfl, hc, hb, fun v H' r s t i => f _ _ ⟨s, r, t, i⟩⟩
theorem sc_l_point : FnScope ["_law_a", "_law_b", "_law_c", "_law_d"] ["_law_a", "_law_b", "_law_c"] (defScope s_l_point) := ⟨rfl, rfl, rfl, by decide +kernel, rfl, by decide +kernel, by decide +kernel⟩
theorem ok_l_point (T : Txt K mg t) : FnOk P w K mg base CX0 2 t.f_l_point t.d_l_point ["_law_a", "_law_b", "_law_c"] sp_l_point := by
  refine T.l_point.F.ok (k := 1) sc_l_point (fun vs H Q E h => ?_) (fun cdv A outer s H vs Q E hr h => ?_)
  · obtain ⟨a, b, c, rfl, _⟩ := h
    rfl
  · obtain ⟨a, b, c, rfl, hc, hB, k⟩ := h
    refine ⟨_, (@pss_cons _ _ _ _ _ (@ps_set _ _ 3 _ _ _ _ sc_l_point.nd rfl (Or.inl rfl) (@pe_fn _ _ _ _ _ _ _ _ _ _ _ _ _ _ T.l_divisor (ok_l_divisor T) hr (by decide) (@pa_cons _ _ _ _ _ (@pe_fn _ _ _ _ _ _ _ _ _ _ _ _ _ _ T.l_divisor (ok_l_divisor T) hr (by decide) (@pa_cons _ _ _ _ _ (pv 2) (@pa_cons _ _ _ _ _ (pv 0) (@pa_nil _) star_name) star_name) (by rfl) (by decide) (by rfl) (by rfl)) (@pa_cons _ _ _ _ _ (pv 1) (@pa_nil _) star_name) star_call) (by rfl) (by decide) (by rfl) (by rfl)) (by rfl) (by first | exact .inl rfl | exact .inr rfl | assumption)) (@pss_one _ _ _ (@ps_ret _ _ _ _ (@pe_tup _ _ _ _ _ (@pa_cons _ _ _ _ _ (@pe_op _ _ _ _ _ _ _ _ op_fdivB (pv 0) (pv 3)) (@pa_cons _ _ _ _ _ (@pe_op _ _ _ _ _ _ _ _ op_fdivB (pv 1) (pv 3)) (@pa_cons _ _ _ _ _ (@pe_op _ _ _ _ _ _ _ _ op_fdivB (pv 2) (pv 3)) (@pa_nil _) star_bin) star_bin) star_bin))))), ?_⟩
    obtain ⟨hi, hd⟩ := pt_has (a := a) (b := b) hc
    have hdB : Bd 9000 (Int.gcd (Int.gcd c a) b : Int) := by
      refine hB.le ?_
      have : (Int.gcd (Int.gcd c a) b : Nat) ≤ c.natAbs := by
        refine Nat.le_of_dvd (by omega) ?_
        refine Nat.dvd_trans (Int.gcd_dvd_natAbs_left _ _) ?_
        rw [Int.natAbs_natCast]
        exact Int.gcd_dvd_natAbs_left c a
      exact this
    refine st_set (pu_call (pa_c (pu_call (pa_c (pu_v rfl) (pa_c (pu_v rfl) pa_n)) (fun Q q => ⟨c, a, rfl, q⟩)) (pa_c (pu_v rfl) pa_n)) (fun Q q => ⟨_, b, rfl, q⟩)) ?_
    refine st_retG (gv_tup (pa_c (pu_fdiv (pu_v rfl) (pu_v rfl) ⟨by omega, hdB⟩) (pa_c (pu_fdiv (pu_v rfl) (pu_v rfl) ⟨by omega, hdB⟩) (pa_c (pu_fdiv (pu_v rfl) (pu_v rfl) ⟨by omega, hdB⟩) pa_n))) (by show 3 ≤ sizeLine; decide)) ?_
    rintro _ _ ⟨p, hp, rfl, rfl⟩
    exact k _ _ _ (Same.upd hp) (TupT.of upd_same) hi
def sp_l_fraction : Sp := fun vs H Q _ => ∃ (n m : Int) (c : Nat), vs = [.int n, .int m] ∧ 0 < m ∧ Bd c n ∧ Bd c m ∧ c ≤ 400 ∧ ∀ v H' x y, Same H H' → TupT H' v [x, y] → 0 < y → (0 < n → 0 < x) → (n ≤ 0 → x ≤ 0) → Bd c x → Bd c y → Q v H'
theorem sc_l_fraction : FnScope ["_law_top", "_law_bottom", "_law_d"] ["_law_top", "_law_bottom"] (defScope s_l_fraction) := ⟨rfl, rfl, rfl, by decide +kernel, rfl, by decide +kernel, by decide +kernel⟩
theorem ok_l_fraction (T : Txt K mg t) : FnOk P w K mg base CX0 2 t.f_l_fraction t.d_l_fraction ["_law_top", "_law_bottom"] sp_l_fraction := by
  refine T.l_fraction.F.ok (k := 1) sc_l_fraction (fun vs H Q E h => ?_) (fun cdv A outer s H vs Q E hr h => ?_)
  · obtain ⟨n, m, c, rfl, _⟩ := h
    rfl
  · obtain ⟨n, m, c, rfl, hm, bn, bm, hc, k⟩ := h
    refine ⟨_, (@pss_cons _ _ _ _ _ (@ps_set _ _ 2 _ _ _ _ sc_l_fraction.nd rfl (Or.inl rfl) (@pe_fn _ _ _ _ _ _ _ _ _ _ _ _ _ _ T.l_divisor (ok_l_divisor T) hr (by decide) (@pa_cons _ _ _ _ _ (pv 1) (@pa_cons _ _ _ _ _ (pv 0) (@pa_nil _) star_name) star_name) (by rfl) (by decide) (by rfl) (by rfl)) (by rfl) (by first | exact .inl rfl | exact .inr rfl | assumption)) (@pss_one _ _ _ (@ps_ret _ _ _ _ (@pe_tup _ _ _ _ _ (@pa_cons _ _ _ _ _ (@pe_op _ _ _ _ _ _ _ _ op_fdivB (pv 0) (pv 2)) (@pa_cons _ _ _ _ _ (@pe_op _ _ _ _ _ _ _ _ op_fdivB (pv 1) (pv 2)) (@pa_nil _) star_bin) star_bin))))), ?_⟩
    have eg : ((Int.gcd m n : Nat) : Int) = gS n m := by
      unfold gS
      rw [if_neg (by omega), Int.gcd_comm]
    have lh := low_has (n := n) (m := m) (by omega)
    have ll := low_le (n := n) (m := m) (by omega)
    have hne := gS_ne (a := n) (b := m) (by omega)
    have hbd := gS_bd (a := n) (by omega) bm
    refine st_set (pu_call (pa_c (pu_v rfl) (pa_c (pu_v rfl) pa_n)) (fun Q q => ⟨m, n, rfl, q⟩)) ?_
    rw [eg]
    refine st_retG (gv_tup (pa_c (pu_fdiv (pu_v rfl) (pu_v rfl) ⟨hne, hbd.mono (by omega)⟩) (pa_c (pu_fdiv (pu_v rfl) (pu_v rfl) ⟨hne, hbd.mono (by omega)⟩) pa_n)) (by show 2 ≤ sizeLine; decide)) ?_
    rintro _ _ ⟨p, hp, rfl, rfl⟩
    obtain ⟨l1, _, l3⟩ := lh
    refine k _ _ _ _ (Same.upd hp) (TupT.of (ns := [n.fdiv (gS n m), m.fdiv (gS n m)]) upd_same) l1 (fun h => ?_) (fun h => ?_) (bn.le ll.1) (bm.le ll.2)
    · have h1 : 0 < n * m.fdiv (gS n m) := Int.mul_pos h l1
      rw [← l3] at h1
      exact Int.pos_of_mul_pos_right (by rw [Int.mul_comm] at h1; exact h1) hm |> fun z => z
    · have h1 : n * m.fdiv (gS n m) ≤ 0 := Int.mul_nonpos_of_nonpos_of_nonneg h (Int.le_of_lt l1)
      rw [← l3] at h1
      rcases Int.lt_or_le 0 (n.fdiv (gS n m)) with z | z
      · have := Int.mul_pos z hm
        omega
      · exact z
def sp_l_whole : Sp := fun vs H Q _ => ∃ n : Int, vs = [.int n] ∧ Q (.bl true) H
theorem sc_l_whole : FnScope ["_law_thing"] ["_law_thing"] (defScope s_l_whole) := ⟨rfl, rfl, rfl, by decide +kernel, rfl, by decide +kernel, by decide +kernel⟩
theorem ok_l_whole (T : Txt K mg t) : FnOk P w K mg base CX0 1 t.f_l_whole t.d_l_whole ["_law_thing"] sp_l_whole := by
  refine T.l_whole.F.ok (k := 0) sc_l_whole (fun vs H Q E h => ?_) (fun cdv A outer s H vs Q E hr h => ?_)
  · obtain ⟨n, rfl, _⟩ := h
    rfl
  · obtain ⟨n, rfl, k⟩ := h
    refine ⟨_, (@pss_one _ _ _ (@ps_ret _ _ _ _ (@pe_and _ _ _ _ _ _ _ (@pe_callB _ _ _ _ _ _ _ _ _ call_isinst (by rfl) T.b_isinstance PyProof.Rows.boot_isinstance (@pa_cons _ _ _ _ _ (pv 0) (@pa_cons _ _ _ _ _ (@pe_ty _ _ _ _ T.b_int PyProof.Rows.boot_int (by rfl) (by decide) (by decide)) (@pa_nil _) star_name) star_name) (by decide) (by decide) (by rfl) (by rfl)) (@pe_one _ _ _ _ _ (@pe_not _ _ _ _ (@pe_callB _ _ _ _ _ _ _ _ _ call_isinst (by rfl) T.b_isinstance PyProof.Rows.boot_isinstance (@pa_cons _ _ _ _ _ (pv 0) (@pa_cons _ _ _ _ _ (@pe_ty _ _ _ _ T.b_bool PyProof.Rows.boot_bool (by rfl) (by decide) (by decide)) (@pa_nil _) star_name) star_name) (by decide) (by decide) (by rfl) (by rfl))))))), ?_⟩
    exact st_ret (pu_and (pu_isi (pa_c (pu_v rfl) (pa_c pu_c pa_n)) (.int n) kit_same) fun _ => pu_not (pu_isi (pa_c (pu_v rfl) (pa_c pu_c pa_n)) (.int n) kit_int_bool)) k
def sp_l_wholes : Sp := fun vs H Q _ => ∃ v ns, vs = [v, .int (List.length ns)] ∧ TupT H v ns ∧ Q (.bl true) H
theorem sc_l_wholes : FnScope ["_law_thing", "_law_many", "_law_part"] ["_law_thing", "_law_many"] (defScope s_l_wholes) := ⟨rfl, rfl, rfl, by decide +kernel, rfl, by decide +kernel, by decide +kernel⟩
theorem ok_l_wholes (T : Txt K mg t) : FnOk P w K mg base CX0 2 t.f_l_wholes t.d_l_wholes ["_law_thing", "_law_many"] sp_l_wholes := by
  refine T.l_wholes.F.ok (k := 1) sc_l_wholes (fun vs H Q E h => ?_) (fun cdv A outer s H vs Q E hr h => ?_)
  · obtain ⟨v, ns, rfl, _⟩ := h
    rfl
  · obtain ⟨v, ns, rfl, ⟨a, rfl, ha⟩, k⟩ := h
    refine ⟨_, (@pss_cons _ _ _ _ _ (@ps_if _ _ _ _ _ _ _ _ (PW.pt (@pw_or _ _ _ _ _ _ _ (@pt_not _ _ _ _ (@pt_val _ _ _ (@pe_callB _ _ _ _ _ _ _ _ _ call_isinst (by rfl) T.b_isinstance PyProof.Rows.boot_isinstance (@pa_cons _ _ _ _ _ (pv 0) (@pa_cons _ _ _ _ _ (@pe_ty _ _ _ _ T.b_tuple PyProof.Rows.boot_tuple (by rfl) (by decide) (by decide)) (@pa_nil _) star_name) star_name) (by decide) (by decide) (by rfl) (by rfl)) (by intro _; rfl))) (@pw_or1 _ _ _ _ (@pt_cmpR _ _ _ _ _ _ _ _ op_ne (@pe_callB _ _ _ _ _ _ _ _ _ call_len_seq (by rfl) T.b_len PySem.boot_len (@pa_cons _ _ _ _ _ (pv 0) (@pa_nil _) star_name) (by decide) (by decide) (by rfl) (by rfl)) (pv 1) (nomark _))))) (@pss_one _ _ _ (@ps_ret _ _ _ _ (@pe_bl _ _ _ _))) (@pss_nil _)) (@pss_cons _ _ _ _ _ (@ps_for _ _ _ _ _ _ _ _ PassesOwn.never rfl (@pi_tup _ _ _ _ (pv 0)) (@pg_name _ _ 2 _ sc_l_wholes.nd rfl (Or.inl rfl) (by first | exact .inl rfl | exact .inr rfl | assumption)) (@pss_one _ _ _ (@ps_if _ _ _ _ _ _ _ _ (@pt_not _ _ _ _ (@pt_val _ _ _ (@pe_fn _ _ _ _ _ _ _ _ _ _ _ _ _ _ T.l_whole (ok_l_whole T) hr (by decide) (@pa_cons _ _ _ _ _ (pv 2) (@pa_nil _) star_name) (by rfl) (by decide) (by rfl) (by rfl)) (by intro _; rfl))) (@pss_one _ _ _ (@ps_ret _ _ _ _ (@pe_bl _ _ _ _))) (@pss_nil _))) (by intro _; rfl)) (@pss_one _ _ _ (@ps_ret _ _ _ _ (@pe_bl _ _ _ _))))), ?_⟩
    refine st_ifN (pt_or (b := false) (pt_n (b := true) (pt_b (pu_isi (pa_c (pu_v rfl) (pa_c pu_c pa_n)) (.tup ha) kit_same))) fun _ => pt_t (pu_neI (pu_lenT (pa_c (pu_v rfl) pa_n) (SqT.of ha)) (pu_v rfl))) (fun e => absurd e (by simp)) fun _ => ?_
    refine st_tupl (K := K) (xs := ns.map V.int) (pu_v rfl) (fun i σ H' => H = H' ∧ ∃ z : Option V, σ = [some (.ref a), some (.int ns.length), z]) ⟨rfl, none, rfl⟩ (fun i σ H' _ ⟨e, _⟩ => by subst e; exact SqT.of ha) ?_ ?_
    · rintro i x σ _ hx ⟨rfl, z, rfl⟩
      obtain ⟨n, _, rfl⟩ := List.mem_map.mp (List.mem_of_getElem? hx)
      refine st_ifN1 (pt_n (b := true) (pt_b (pu_call (pa_c (pu_v rfl) pa_n) fun Q f => ⟨n, rfl, f⟩))) (fun e => by simp at e) fun _ => ⟨rfl, _, rfl⟩
    · rintro σ _ ⟨rfl, z, rfl⟩
      exact st_ret pu_c k
def sp_l_inside : Sp := fun vs H Q _ => ∃ u v w p i j x y, vs = [u, v, w] ∧ AtP H u p ∧ TupT H v [i, j] ∧ TupT H w [x, y] ∧ Sz 400 p ∧ Bd 1000 i ∧ Bd 1000 j ∧ Bd 400 x ∧ Bd 400 y ∧
  (2 * i - 1) * (x * p.z) ≤ 2 * y * p.x ∧ 2 * y * p.x < (2 * i + 1) * (x * p.z) ∧ (2 * j - 1) * (x * p.z) ≤ 2 * y * p.y ∧ 2 * y * p.y < (2 * j + 1) * (x * p.z) ∧ Q (.bl true) H
theorem sc_l_inside : FnScope ["_law_p", "_law_cell", "_law_size", "_law_k", "_law_here", "_law_step"] ["_law_p", "_law_cell", "_law_size"] (defScope s_l_inside) := ⟨rfl, rfl, rfl, by decide +kernel, rfl, by decide +kernel, by decide +kernel⟩
theorem ok_l_inside (T : Txt K mg t) : FnOk P w K mg base CX0 1 t.f_l_inside t.d_l_inside ["_law_p", "_law_cell", "_law_size"] sp_l_inside := by
  refine T.l_inside.F.ok (k := 0) sc_l_inside (fun vs H Q E h => ?_) (fun cdv A outer s H vs Q E hr h => ?_)
  · obtain ⟨u, v, w, p, i, j, x, y, rfl, _⟩ := h
    rfl
  · obtain ⟨u, v, w, p, i, j, x, y, rfl, ⟨a, rfl, ha⟩, ⟨b, rfl, hb⟩, ⟨c, rfl, hc⟩, zp, bi, bj, bx, by', h1, h2, h3, h4, k⟩ := h
    refine ⟨_, (@pss_cons _ _ _ _ _ (@ps_for _ _ _ _ _ _ _ _ PassesOwn.never rfl (@pi_range1 _ _ _ _ _ _ rfl T.b_range (@pa_cons _ _ _ _ _ (@pe_int _ _ _ _) (@pa_nil _) star_con) (by rfl)) (@pg_name _ _ 3 _ sc_l_inside.nd rfl (Or.inl rfl) (by first | exact .inl rfl | exact .inr rfl | assumption)) (@pss_cons _ _ _ _ _ (@ps_set _ _ 4 _ _ _ _ sc_l_inside.nd rfl (Or.inl rfl) (@pe_op _ _ _ _ _ _ _ _ op_mulB (@pe_op _ _ _ _ _ _ _ _ op_mulB (@pe_int _ _ _ _) (@pe_ix _ _ _ _ _ _ _ ix_tup (pv 2) (@pe_int _ _ _ _) (fun _ _ => rfl))) (@pe_ix _ _ _ _ _ _ _ ix_tup (pv 0) (pv 3) (fun _ _ => rfl))) (by rfl) (by first | exact .inl rfl | exact .inr rfl | assumption)) (@pss_cons _ _ _ _ _ (@ps_set _ _ 5 _ _ _ _ sc_l_inside.nd rfl (Or.inl rfl) (@pe_op _ _ _ _ _ _ _ _ op_mulB (@pe_ix _ _ _ _ _ _ _ ix_tup (pv 2) (@pe_int _ _ _ _) (fun _ _ => rfl)) (@pe_ix _ _ _ _ _ _ _ ix_tup (pv 0) (@pe_int _ _ _ _) (fun _ _ => rfl))) (by rfl) (by first | exact .inl rfl | exact .inr rfl | assumption)) (@pss_one _ _ _ (@ps_if _ _ _ _ _ _ _ _ (PW.pt (@pw_or _ _ _ _ _ _ _ (@pt_cmpR _ _ _ _ _ _ _ _ op_lt (pv 4) (@pe_op _ _ _ _ _ _ _ _ op_mulB (@pe_op _ _ _ _ _ _ _ _ op_sub (@pe_op _ _ _ _ _ _ _ _ op_mulB (@pe_int _ _ _ _) (@pe_ix _ _ _ _ _ _ _ ix_tup (pv 1) (pv 3) (fun _ _ => rfl))) (@pe_int _ _ _ _)) (pv 5)) (nomark _)) (@pw_or1 _ _ _ _ (@pt_cmpR _ _ _ _ _ _ _ _ op_ge (pv 4) (@pe_op _ _ _ _ _ _ _ _ op_mulB (@pe_op _ _ _ _ _ _ _ _ op_add (@pe_op _ _ _ _ _ _ _ _ op_mulB (@pe_int _ _ _ _) (@pe_ix _ _ _ _ _ _ _ ix_tup (pv 1) (pv 3) (fun _ _ => rfl))) (@pe_int _ _ _ _)) (pv 5)) (nomark _))))) (@pss_one _ _ _ (@ps_ret _ _ _ _ (@pe_bl _ _ _ _))) (@pss_nil _))))) (by intro _; rfl)) (@pss_one _ _ _ (@ps_ret _ _ _ _ (@pe_bl _ _ _ _)))), ?_⟩
    have b2 : Bd 2 (2 : Int) := by unfold Bd; decide
    refine st_range (n := 2) (pa_c pu_c pa_n) (by decide) (by decide) (fun _ σ H' => H = H' ∧ ∃ d e f : Option V, σ = [some (.ref a), some (.ref b), some (.ref c), d, e, f]) ⟨rfl, none, none, none, rfl⟩ ?_ ?_
    · rintro n σ _ hn ⟨rfl, d, e, f, rfl⟩
      obtain ⟨z, q, ez, eq, bz, bq, l1, l2⟩ : ∃ z q : Int, atI ([p.x, p.y, p.z].map V.int) (0 + (n : Int)) = some (.int z) ∧ atI ([i, j].map V.int) (0 + (n : Int)) = some (.int q) ∧ Bd 400 z ∧ Bd 1000 q ∧ (2 * q - 1) * (x * p.z) ≤ 2 * y * z ∧ 2 * y * z < (2 * q + 1) * (x * p.z) := by
        have hn' : n = 0 ∨ n = 1 := by
          have : n < 2 := hn
          omega
        rcases hn' with rfl | rfl
        · exact ⟨p.x, i, rfl, rfl, zp.x, bi, h1, h2⟩
        · exact ⟨p.y, j, rfl, rfl, zp.y, bj, h3, h4⟩
      refine st_set (pu_mul (pu_mul pu_c (pu_ixT (pu_v rfl) pu_c (SqT.of (hc)) rfl) (mulOk_of (b2) (by') (by decide))) (pu_ixT (pu_v rfl) (pu_v rfl) (SqT.of ha) ez) (mulOk_of (b2.mul by') (bz) (by decide))) ?_
      refine st_set (pu_mul (pu_ixT (pu_v rfl) pu_c (SqT.of (hc)) rfl) (pu_ixT (pu_v rfl) pu_c (SqT.of (ha)) rfl) (mulOk_of (bx) (zp.z) (by decide))) ?_
      have bq1 : Bd 1010 (2 * q - 1) := by
        have := b2.mul bq
        have b1 : Bd 1002 (1 : Int) := Bd.small (by decide)
        exact (this.sub (b1.mono (by decide))).mono (by decide)
      have bq2 : Bd 1010 (2 * q + 1) := by
        have := b2.mul bq
        have b1 : Bd 1002 (1 : Int) := Bd.small (by decide)
        exact (this.add (b1.mono (by decide))).mono (by decide)
      refine st_ifN1 (pt_or (pt_t (pu_lt (pu_v rfl) (pu_mul (pu_sub (pu_mul pu_c (pu_ixT (pu_v rfl) (pu_v rfl) (SqT.of hb) eq) (mulOk_of (b2) (bq) (by decide))) pu_c) (pu_v rfl) (mulOk_of (bq1) (bx.mul zp.z) (by decide))))) fun _ => pt_t (pu_ge (pu_v rfl) (pu_mul (pu_add (pu_mul pu_c (pu_ixT (pu_v rfl) (pu_v rfl) (SqT.of hb) eq) (mulOk_of (b2) (bq) (by decide))) pu_c) (pu_v rfl) (mulOk_of (bq2) (bx.mul zp.z) (by decide))))) (fun e => ?_) fun _ => ⟨rfl, _, _, _, rfl⟩
      rw [Bool.or_eq_true] at e
      rcases e with e | e
      · have := of_decide_eq_true e
        omega
      · have := of_decide_eq_true e
        omega
    · rintro σ _ ⟨rfl, d, e, f, rfl⟩
      exact st_ret pu_c k
/-- arguments, whatever they are, and a last one that is known -/
def GaS (t : TA) (σ : L2.St) (H : Hp) (n : Nat) (v : V) : Prop := GvA t σ H (fun vs H' => Same H H' ∧ ∃ us : List V, us.length = n ∧ vs = us ++ [v])
theorem ga_last {σ : L2.St} {H : Hp} {tv : TE} {v : V} (h : Pu tv σ H v) : GaS (tCons tv tNil) σ H 0 v := fun Q q => h _ (q _ _ ⟨Same.rfl', [], rfl, rfl⟩)
theorem ga_more {σ : L2.St} {H : Hp} {ta : TE} {tr : TA} {n : Nat} {v : V} (h : Gv ta σ H (fun _ H' => Same H H')) (g : ∀ H', GaS tr σ H' n v) : GaS (tCons ta tr) σ H (n + 1) v := fun Q q => h _ fun x H1 s1 => g H1 _ fun vs H2 ⟨s2, us, hl, e⟩ => q _ _ ⟨s1.trans s2, x :: us, by simp [hl], by rw [e]; rfl⟩
def spx_l_ask (t : Adr) : Sp := fun vs H Q E => ∃ (w mm : Int) (b l : Addr) (m v : V) (x y : Int), vs = [.int w, v, .ref b, .int mm] ∧ H b = some (.tup [m, .ref l]) ∧ TupT H v [x, y] ∧ x ≤ 0 ∧ ∀ H', Same H H' → E (.ref t.c_NoSize) none H'
theorem sc_l_ask : FnScope ["_law_way", "_law_size", "_law_plan", "_law_many"] ["_law_way", "_law_size", "_law_plan", "_law_many"] (defScope s_l_ask) := ⟨rfl, rfl, rfl, by decide +kernel, rfl, by decide +kernel, by decide +kernel⟩
theorem okx_l_ask (T : Txt K mg t) : FnOk P w K mg base (CXE P w) 8 t.f_l_ask t.d_l_ask ["_law_way", "_law_size", "_law_plan", "_law_many"] (spx_l_ask t) := by
  refine T.l_ask.F.okE (k := 7) sc_l_ask (fun vs H Q E h => ?_) (fun cdv A outer s H vs Q E hr h => ?_)
  · obtain ⟨w, mm, b, l, m, v, x, y, rfl, _⟩ := h
    rfl
  · obtain ⟨w, mm, b, l, m, v, x, y, rfl, hb, hv, hx, k⟩ := h
    refine ⟨_, (@pss_cons _ _ _ _ _ (@ps_if _ _ _ _ _ _ _ _ (@pt_cmpR _ _ _ _ _ _ _ _ op_eq (pv 0) (@pe_int _ _ _ _) (nomark _)) (@pss_one _ _ _ (@ps_ret _ _ _ _ (@pe_fnX _ _ _ _ _ _ _ _ _ _ _ _ _ _ _ _ _ T.cell_of (okx_cell_of T) hr (by decide) passX (@pa_cons _ _ _ _ _ (@pe_tup _ _ _ _ _ (@pa_cons _ _ _ _ _ (@pe_int _ _ _ _) (@pa_cons _ _ _ _ _ (@pe_int _ _ _ _) (@pa_cons _ _ _ _ _ (@pe_int _ _ _ _) (@pa_nil _) star_con) star_con) star_con)) (@pa_cons _ _ _ _ _ (pv 1) (@pa_nil _) star_name) star_tup) (by rfl) (by decide) (by rfl) (by rfl)))) (@pss_nil _)) (@pss_cons _ _ _ _ _ (@ps_if _ _ _ _ _ _ _ _ (@pt_cmpR _ _ _ _ _ _ _ _ op_eq (pv 0) (@pe_int _ _ _ _) (nomark _)) (@pss_one _ _ _ (@ps_ret _ _ _ _ (@pe_fnX _ _ _ _ _ _ _ _ _ _ _ _ _ _ _ _ _ T.cell_middle (okx_cell_middle T) hr (by decide) passX (@pa_cons _ _ _ _ _ (@pe_tup _ _ _ _ _ (@pa_cons _ _ _ _ _ (@pe_int _ _ _ _) (@pa_cons _ _ _ _ _ (@pe_un _ _ _ _ _ _ un_neg (@pe_int _ _ _ _)) (@pa_nil _) star_un) star_con)) (@pa_cons _ _ _ _ _ (pv 1) (@pa_nil _) star_name) star_tup) (by rfl) (by decide) (by rfl) (by rfl)))) (@pss_nil _)) (@pss_cons _ _ _ _ _ (@ps_if _ _ _ _ _ _ _ _ (@pt_cmpR _ _ _ _ _ _ _ _ op_eq (pv 0) (@pe_int _ _ _ _) (nomark _)) (@pss_one _ _ _ (@ps_ret _ _ _ _ (@pe_fnX _ _ _ _ _ _ _ _ _ _ _ _ _ _ _ _ _ T.meets_cell (okx_meets_cell T) hr (by decide) passX (@pa_cons _ _ _ _ _ (@pe_tup _ _ _ _ _ (@pa_cons _ _ _ _ _ (@pe_int _ _ _ _) (@pa_cons _ _ _ _ _ (@pe_int _ _ _ _) (@pa_cons _ _ _ _ _ (@pe_int _ _ _ _) (@pa_nil _) star_con) star_con) star_con)) (@pa_cons _ _ _ _ _ (@pe_tup _ _ _ _ _ (@pa_cons _ _ _ _ _ (@pe_int _ _ _ _) (@pa_cons _ _ _ _ _ (@pe_int _ _ _ _) (@pa_cons _ _ _ _ _ (@pe_int _ _ _ _) (@pa_nil _) star_con) star_con) star_con)) (@pa_cons _ _ _ _ _ (@pe_tup _ _ _ _ _ (@pa_cons _ _ _ _ _ (@pe_int _ _ _ _) (@pa_cons _ _ _ _ _ (@pe_int _ _ _ _) (@pa_nil _) star_con) star_con)) (@pa_cons _ _ _ _ _ (pv 1) (@pa_nil _) star_name) star_tup) star_tup) star_tup) (by rfl) (by decide) (by rfl) (by rfl)))) (@pss_nil _)) (@pss_cons _ _ _ _ _ (@ps_if _ _ _ _ _ _ _ _ (@pt_cmpR _ _ _ _ _ _ _ _ op_eq (pv 0) (@pe_int _ _ _ _) (nomark _)) (@pss_one _ _ _ (@ps_ret _ _ _ _ (@pe_fnX _ _ _ _ _ _ _ _ _ _ _ _ _ _ _ _ _ T.hot_cells (okx_hot_cells T) hr (by decide) passX (@pa_cons _ _ _ _ _ (pv 2) (@pa_cons _ _ _ _ _ (pv 1) (@pa_nil _) star_name) star_name) (by rfl) (by decide) (by rfl) (by rfl)))) (@pss_nil _)) (@pss_cons _ _ _ _ _ (@ps_if _ _ _ _ _ _ _ _ (@pt_cmpR _ _ _ _ _ _ _ _ op_eq (pv 0) (@pe_int _ _ _ _) (nomark _)) (@pss_one _ _ _ (@ps_ret _ _ _ _ (@pe_fnX _ _ _ _ _ _ _ _ _ _ _ _ _ _ _ _ _ T.thread_of (okx_thread_of T) hr (by decide) passX (@pa_cons _ _ _ _ _ (@pe_tup _ _ _ _ _ (@pa_cons _ _ _ _ _ (@pe_int _ _ _ _) (@pa_cons _ _ _ _ _ (@pe_int _ _ _ _) (@pa_cons _ _ _ _ _ (@pe_int _ _ _ _) (@pa_nil _) star_con) star_con) star_con)) (@pa_cons _ _ _ _ _ (@pe_tup _ _ _ _ _ (@pa_cons _ _ _ _ _ (@pe_int _ _ _ _) (@pa_cons _ _ _ _ _ (@pe_int _ _ _ _) (@pa_cons _ _ _ _ _ (@pe_int _ _ _ _) (@pa_nil _) star_con) star_con) star_con)) (@pa_cons _ _ _ _ _ (@pe_slice _ _ _ _ _ _ _ _ _ _ sl_list (@pe_lst _ _ _ _ (@pa_cons _ _ _ _ _ (@pe_tup _ _ _ _ _ (@pa_cons _ _ _ _ _ (@pe_int _ _ _ _) (@pa_cons _ _ _ _ _ (@pe_int _ _ _ _) (@pa_nil _) star_con) star_con)) (@pa_cons _ _ _ _ _ (@pe_tup _ _ _ _ _ (@pa_cons _ _ _ _ _ (@pe_int _ _ _ _) (@pa_cons _ _ _ _ _ (@pe_int _ _ _ _) (@pa_nil _) star_con) star_con)) (@pa_nil _) star_tup) star_tup)) (@po_none _) (@po_some _ _ _ (pv 3))) (@pa_cons _ _ _ _ _ (pv 1) (@pa_nil _) star_name) star_sub) star_tup) star_tup) (by rfl) (by decide) (by rfl) (by rfl)))) (@pss_nil _)) (@pss_cons _ _ _ _ _ (@ps_if _ _ _ _ _ _ _ _ (@pt_cmpR _ _ _ _ _ _ _ _ op_eq (pv 0) (@pe_int _ _ _ _) (nomark _)) (@pss_one _ _ _ (@ps_ret _ _ _ _ (@pe_fnX _ _ _ _ _ _ _ _ _ _ _ _ _ _ _ _ _ T.threads_of (okx_threads_of T) hr (by decide) passX (@pa_cons _ _ _ _ _ (pv 2) (@pa_cons _ _ _ _ _ (pv 1) (@pa_nil _) star_name) star_name) (by rfl) (by decide) (by rfl) (by rfl)))) (@pss_nil _)) (@pss_one _ _ _ (@ps_ret _ _ _ _ (@pe_fnX _ _ _ _ _ _ _ _ _ _ _ _ _ _ _ _ _ T.brought_to (okx_brought_to T) hr (by decide) passX (@pa_cons _ _ _ _ _ (pv 2) (@pa_cons _ _ _ _ _ (pv 1) (@pa_nil _) star_name) star_name) (by rfl) (by decide) (by rfl) (by rfl)))))))))), ?_⟩
    have two : ∀ {us : List V} {u : V}, us.length = 1 → us ++ [u] = [us.getD 0 .non, u] := fun {us u} h => by
      match us, h with
      | [a], _ => rfl
    have four : ∀ {us : List V} {u : V}, us.length = 3 → us ++ [u] = [us.getD 0 .non, us.getD 1 .non, us.getD 2 .non, u] := fun {us u} h => by
      match us, h with
      | [a, b, c], _ => rfl
    refine st_ifN (pt_t (pu_eqI (pu_v rfl) pu_c)) (fun _ => ?_) fun _ => ?_
    · refine st_retG (R := fun _ _ => False) (gv_callA (ga_more (gs_tup (pa_c pu_c (pa_c pu_c (pa_c pu_c pa_n))) len3) fun H' => ga_last (v := v) (pu_v rfl)) ?_) fun _ _ h => h.elim
      rintro _ H' ⟨s, us, hl, rfl⟩ Q f
      exact ⟨_, v, x, y, by rw [List.append_nil, two hl], hv.same s, hx, k _ s⟩
    refine st_ifN (pt_t (pu_eqI (pu_v rfl) pu_c)) (fun _ => ?_) fun _ => ?_
    · refine st_retG (R := fun _ _ => False) (gv_callA (ga_more (gs_tup (pa_c pu_c (pa_c (pu_neg pu_c) pa_n)) len2) fun H' => ga_last (v := v) (pu_v rfl)) ?_) fun _ _ h => h.elim
      rintro _ H' ⟨s, us, hl, rfl⟩ Q f
      exact ⟨_, v, x, y, by rw [List.append_nil, two hl], hv.same s, hx, k _ s⟩
    refine st_ifN (pt_t (pu_eqI (pu_v rfl) pu_c)) (fun _ => ?_) fun _ => ?_
    · refine st_retG (R := fun _ _ => False) (gv_callA (ga_more (gs_tup (pa_c pu_c (pa_c pu_c (pa_c pu_c pa_n))) len3) fun H' => ga_more (gs_tup (pa_c pu_c (pa_c pu_c (pa_c pu_c pa_n))) len3) fun H' => ga_more (gs_tup (pa_c pu_c (pa_c pu_c pa_n)) len2) fun H' => ga_last (v := v) (pu_v rfl)) ?_) fun _ _ h => h.elim
      rintro _ H' ⟨s, us, hl, rfl⟩ Q f
      exact ⟨_, _, _, v, x, y, by rw [List.append_nil, four hl], hv.same s, hx, k _ s⟩
    refine st_ifN (pt_t (pu_eqI (pu_v rfl) pu_c)) (fun _ => ?_) fun _ => ?_
    · refine st_retG (R := fun _ _ => False) (gv_callA (ga_more ((pu_v (v := .ref b) rfl).gv' Same.rfl') fun H' => ga_last (v := v) (pu_v rfl)) ?_) fun _ _ h => h.elim
      rintro _ H' ⟨s, us, hl, rfl⟩ Q f
      exact ⟨_, v, x, y, by rw [List.append_nil, two hl], hv.same s, hx, k _ s⟩
    refine st_ifN (pt_t (pu_eqI (pu_v rfl) pu_c)) (fun _ => ?_) fun _ => ?_
    · refine st_retG (R := fun _ _ => False) (gv_callA (ga_more (gs_tup (pa_c pu_c (pa_c pu_c (pa_c pu_c pa_n))) len3) fun H' => ga_more (gs_tup (pa_c pu_c (pa_c pu_c (pa_c pu_c pa_n))) len3) fun H' => ga_more (gs_slice2 (mm := mm) (fun _ => pa_c pu_c (pa_c pu_c pa_n)) len2 (fun _ => pa_c pu_c (pa_c pu_c pa_n)) len2 (fun _ => pu_v rfl)) fun H' => ga_last (v := v) (pu_v rfl)) ?_) fun _ _ h => h.elim
      rintro _ H' ⟨s, us, hl, rfl⟩ Q f
      exact ⟨_, _, _, v, x, y, by rw [List.append_nil, four hl], hv.same s, hx, k _ s⟩
    refine st_ifN (pt_t (pu_eqI (pu_v rfl) pu_c)) (fun _ => ?_) fun _ => ?_
    · refine st_retG (R := fun _ _ => False) (gv_callA (ga_more ((pu_v (v := .ref b) rfl).gv' Same.rfl') fun H' => ga_last (v := v) (pu_v rfl)) ?_) fun _ _ h => h.elim
      rintro _ H' ⟨s, us, hl, rfl⟩ Q f
      exact ⟨_, v, x, y, by rw [List.append_nil, two hl], hv.same s, hx, k _ s⟩
    refine st_retG (R := fun _ _ => False) (gv_call (pa_c (pu_v rfl) (pa_c (pu_v rfl) pa_n)) fun Q f => ⟨b, l, m, v, x, y, rfl, hb, hv, hx, k⟩) fun _ _ h => h.elim
def sp_l_refused : Sp := fun vs H Q _ => ∃ (w mm : Int) (b l : Addr) (m v : V) (x y : Int), vs = [.int w, v, .ref b, .int mm] ∧ H b = some (.tup [m, .ref l]) ∧ TupT H v [x, y] ∧ x ≤ 0 ∧ ∀ H', Q (.bl true) H'
theorem sc_l_refused : FnScope ["_law_way", "_law_size", "_law_plan", "_law_many", "e"] ["_law_way", "_law_size", "_law_plan", "_law_many"] (defScope s_l_refused) := ⟨rfl, rfl, rfl, by decide +kernel, rfl, by decide +kernel, by decide +kernel⟩
theorem ok_l_refused (T : Txt K mg t) : FnOk P w K mg base CX0 9 t.f_l_refused t.d_l_refused ["_law_way", "_law_size", "_law_plan", "_law_many"] sp_l_refused := by
  refine T.l_refused.F.ok (k := 8) sc_l_refused (fun vs H Q E h => ?_) (fun cdv A outer s H vs Q E hr h => ?_)
  · obtain ⟨w, mm, b, l, m, v, x, y, rfl, _⟩ := h
    rfl
  · obtain ⟨w, mm, b, l, m, v, x, y, rfl, hb, hv, hx, k⟩ := h
    refine ⟨_, (@pss_cons _ _ _ _ _ (@ps_tryE _ 4 _ _ _ _ _ _ _ _ _ _ _ _ _ _ _ _ _ _ _ _ _ rfl rfl rfl rfl (okx_l_ask T) (hr.mono (by decide)) rfl T.l_ask.m T.l_ask.F.kp T.l_ask.b (@pa_cons _ _ _ _ _ (pv 0) (@pa_cons _ _ _ _ _ (pv 1) (@pa_cons _ _ _ _ _ (pv 2) (@pa_cons _ _ _ _ _ (pv 3) (@pa_nil _) star_name) star_name) star_name) star_name) sc_l_refused.nd rfl rfl rfl T.m_NoSize (fun _ => (@pss_cons _ _ _ _ _ (@ps_if _ _ _ _ _ _ _ _ (@pt_val _ _ _ (@pe_callB _ _ _ _ _ _ _ _ _ (call_isinstT (K := K) rfl) (by rfl) T.b_isinstance PyProof.Rows.boot_isinstance (@pa_cons _ _ _ _ _ (pv 4) (@pa_cons _ _ _ _ _ (@pe_tup _ _ _ _ _ (@pa_cons _ _ _ _ _ (@pe_cls _ _ _ _ T.m_NoNumber (by rfl) (by decide)) (@pa_cons _ _ _ _ _ (@pe_cls _ _ _ _ T.m_BadPlan (by rfl) (by decide)) (@pa_cons _ _ _ _ _ (@pe_cls _ _ _ _ T.m_NoPoint (by rfl) (by decide)) (@pa_nil _) star_name) star_name) star_name)) (@pa_nil _) star_tup) star_name) (by decide) (by decide) (by rfl) (by rfl)) (by intro _; rfl)) (@pss_one _ _ _ (@ps_ret _ _ _ _ (@pe_bl _ _ _ _))) (@pss_nil _)) (@pss_one _ _ _ (@ps_ret _ _ _ _ (@pe_and _ _ _ _ _ _ _ (@pe_callB _ _ _ _ _ _ _ _ _ (call_isinstK (K := K) rfl) (by rfl) T.b_isinstance PyProof.Rows.boot_isinstance (@pa_cons _ _ _ _ _ (pv 4) (@pa_cons _ _ _ _ _ (@pe_cls _ _ _ _ T.m_PlyError (by rfl) (by decide)) (@pa_nil _) star_name) star_name) (by decide) (by decide) (by rfl) (by rfl)) (@pe_one _ _ _ _ _ (@pe_callB _ _ _ _ _ _ _ _ _ (call_isinstK (K := K) rfl) (by rfl) T.b_isinstance PyProof.Rows.boot_isinstance (@pa_cons _ _ _ _ _ (pv 4) (@pa_cons _ _ _ _ _ (@pe_ty _ _ _ _ T.b_ValueError PyProof.Rows.Boot.«ValueError» (by rfl) (by decide) (by decide)) (@pa_nil _) star_name) star_name) (by decide) (by decide) (by rfl) (by rfl)))))))) (by rfl) (by decide) (by decide) (by rfl) (by rfl)) (@pss_one _ _ _ (@ps_ret _ _ _ _ (@pe_bl _ _ _ _)))), ?_⟩
    refine st_tryE (pa_c (pu_v rfl) (pa_c (pu_v rfl) (pa_c (pu_v rfl) (pa_c (pu_v rfl) pa_n)))) ⟨w, mm, b, l, m, v, x, y, rfl, hb, hv, hx, fun H' s => ⟨T.m1, fun ea hea => ?_⟩⟩
    refine st_ifNG (R := fun c H2 => c = false ∧ Same (upd H' ea (.ext (isOf ea (.ref t.c_NoSize)))) H2) (fun Q f => ?_) (fun _ e => by cases e.1) ?_
    · refine gv_callBT (K := K) (C := t.c_NoSize) (a := ea) (us := [.ref t.c_NoNumber, .ref t.c_BadPlan, .ref t.c_NoPoint]) (pu_v rfl) (pa_c pu_c (pa_c pu_c (pa_c pu_c pa_n))) len3 upd_same T.x_NoSize (.cons (.ref _) (.cons (.ref _) (.cons (.ref _) .nil))) T.i0 _ fun v H2 e => ?_
      obtain ⟨rfl, s2⟩ := e
      exact ⟨false, rfl, f _ _ ⟨rfl, s2⟩⟩
    rintro H2 ⟨_, s2⟩
    have he := s2 _ _ upd_same
    exact st_ret (pu_and (pu_isE (pa_c (pu_v rfl) (pa_c pu_c pa_n)) he T.x_NoSize (.ref _) T.i1) fun _ => pu_isE (pa_c (pu_v rfl) (pa_c pu_c pa_n)) he T.x_NoSize (.ty _) T.i2) (k _)
def sp_l_place : Sp := fun vs H Q _ => ∃ hd sc v w i j x y, vs = [.ref hd, v, w] ∧ HandAt H hd sc ∧ TupT H v [i, j] ∧ TupT H w [x, y] ∧ Bd 64 i ∧ Bd 64 j ∧ Bd 64 x ∧ Bd 64 y ∧ 0 < y ∧ ∀ r H' p, HandAt H' hd sc → SameB hd H H' → AtP H' r p → 0 < p.z → Sz 400 p → Q r H'
theorem sc_l_place : FnScope ["_law_hand_here", "_law_cell", "_law_size", "_law_way", "_law_turned", "_law_a", "_law_b"] ["_law_hand_here", "_law_cell", "_law_size"] (defScope s_l_place) := ⟨rfl, rfl, rfl, by decide +kernel, rfl, by decide +kernel, by decide +kernel⟩
theorem ok_l_place (T : Txt K mg t) : FnOk P w K mg base CX0 4 t.f_l_place t.d_l_place ["_law_hand_here", "_law_cell", "_law_size"] sp_l_place := by
  refine T.l_place.F.ok (k := 3) sc_l_place (fun vs H Q E h => ?_) (fun cdv A outer s H vs Q E hr h => ?_)
  · obtain ⟨hd, sc, v, w, i, j, x, y, rfl, _⟩ := h
    rfl
  · obtain ⟨hd, sc, v, w, i, j, x, y, rfl, hh, tv, tw, bi, bj, bx, by', hy, k⟩ := h
    refine ⟨_, (@pss_cons _ _ _ _ _ (@ps_set _ _ 3 _ _ _ _ sc_l_place.nd rfl (Or.inl rfl) (@pe_fn _ _ _ _ _ _ _ _ _ _ _ _ _ _ T.l_draw (ok_l_draw T) hr (by decide) (@pa_cons _ _ _ _ _ (pv 0) (@pa_cons _ _ _ _ _ (@pe_int _ _ _ _) (@pa_nil _) star_con) star_name) (by rfl) (by decide) (by rfl) (by rfl)) (by rfl) (by first | exact .inl rfl | exact .inr rfl | assumption)) (@pss_cons _ _ _ _ _ (@ps_if _ _ _ _ _ _ _ _ (@pt_cmpR _ _ _ _ _ _ _ _ op_eq (pv 3) (@pe_int _ _ _ _) (nomark _)) (@pss_one _ _ _ (@ps_ret _ _ _ _ (@pe_fn _ _ _ _ _ _ _ _ _ _ _ _ _ _ T.l_point (ok_l_point T) hr (by decide) (@pa_cons _ _ _ _ _ (@pe_op _ _ _ _ _ _ _ _ op_mulB (@pe_op _ _ _ _ _ _ _ _ op_add (@pe_op _ _ _ _ _ _ _ _ op_mulB (@pe_int _ _ _ _) (@pe_ix _ _ _ _ _ _ _ ix_tup (pv 1) (@pe_int _ _ _ _) (fun _ _ => rfl))) (@pe_int _ _ _ _)) (@pe_ix _ _ _ _ _ _ _ ix_tup (pv 2) (@pe_int _ _ _ _) (fun _ _ => rfl))) (@pa_cons _ _ _ _ _ (@pe_op _ _ _ _ _ _ _ _ op_mulB (@pe_op _ _ _ _ _ _ _ _ op_sub (@pe_op _ _ _ _ _ _ _ _ op_mulB (@pe_int _ _ _ _) (@pe_ix _ _ _ _ _ _ _ ix_tup (pv 1) (@pe_int _ _ _ _) (fun _ _ => rfl))) (@pe_int _ _ _ _)) (@pe_ix _ _ _ _ _ _ _ ix_tup (pv 2) (@pe_int _ _ _ _) (fun _ _ => rfl))) (@pa_cons _ _ _ _ _ (@pe_op _ _ _ _ _ _ _ _ op_mulB (@pe_int _ _ _ _) (@pe_ix _ _ _ _ _ _ _ ix_tup (pv 2) (@pe_int _ _ _ _) (fun _ _ => rfl))) (@pa_nil _) star_bin) star_bin) star_bin) (by rfl) (by decide) (by rfl) (by rfl)))) (@pss_nil _)) (@pss_cons _ _ _ _ _ (@ps_if _ _ _ _ _ _ _ _ (@pt_cmpR _ _ _ _ _ _ _ _ op_eq (pv 3) (@pe_int _ _ _ _) (nomark _)) (@pss_cons _ _ _ _ _ (@ps_set _ _ 4 _ _ _ _ sc_l_place.nd rfl (Or.inl rfl) (@pe_fn _ _ _ _ _ _ _ _ _ _ _ _ _ _ T.l_draw (ok_l_draw T) hr (by decide) (@pa_cons _ _ _ _ _ (pv 0) (@pa_cons _ _ _ _ _ (@pe_int _ _ _ _) (@pa_nil _) star_con) star_name) (by rfl) (by decide) (by rfl) (by rfl)) (by rfl) (by first | exact .inl rfl | exact .inr rfl | assumption)) (@pss_cons _ _ _ _ _ (@ps_set _ _ 5 _ _ _ _ sc_l_place.nd rfl (Or.inl rfl) (@pe_op _ _ _ _ _ _ _ _ op_mulB (@pe_op _ _ _ _ _ _ _ _ op_add (@pe_op _ _ _ _ _ _ _ _ op_mulB (@pe_int _ _ _ _) (@pe_ix _ _ _ _ _ _ _ ix_tup (pv 1) (@pe_int _ _ _ _) (fun _ _ => rfl))) (pv 4)) (@pe_ix _ _ _ _ _ _ _ ix_tup (pv 2) (@pe_int _ _ _ _) (fun _ _ => rfl))) (by rfl) (by first | exact .inl rfl | exact .inr rfl | assumption)) (@pss_cons _ _ _ _ _ (@ps_set _ _ 6 _ _ _ _ sc_l_place.nd rfl (Or.inl rfl) (@pe_op _ _ _ _ _ _ _ _ op_mulB (@pe_op _ _ _ _ _ _ _ _ op_sub (@pe_op _ _ _ _ _ _ _ _ op_add (@pe_op _ _ _ _ _ _ _ _ op_mulB (@pe_int _ _ _ _) (@pe_ix _ _ _ _ _ _ _ ix_tup (pv 1) (@pe_int _ _ _ _) (fun _ _ => rfl))) (@pe_int _ _ _ _)) (pv 4)) (@pe_ix _ _ _ _ _ _ _ ix_tup (pv 2) (@pe_int _ _ _ _) (fun _ _ => rfl))) (by rfl) (by first | exact .inl rfl | exact .inr rfl | assumption)) (@pss_one _ _ _ (@ps_ret _ _ _ _ (@pe_fn _ _ _ _ _ _ _ _ _ _ _ _ _ _ T.l_point (ok_l_point T) hr (by decide) (@pa_cons _ _ _ _ _ (pv 5) (@pa_cons _ _ _ _ _ (pv 6) (@pa_cons _ _ _ _ _ (@pe_op _ _ _ _ _ _ _ _ op_mulB (@pe_int _ _ _ _) (@pe_ix _ _ _ _ _ _ _ ix_tup (pv 2) (@pe_int _ _ _ _) (fun _ _ => rfl))) (@pa_nil _) star_bin) star_name) star_name) (by rfl) (by decide) (by rfl) (by rfl))))))) (@pss_nil _)) (@pss_one _ _ _ (@ps_ret _ _ _ _ (@pe_fn _ _ _ _ _ _ _ _ _ _ _ _ _ _ T.l_point (ok_l_point T) hr (by decide) (@pa_cons _ _ _ _ _ (@pe_ix _ _ _ _ _ _ _ ix_tup (pv 1) (@pe_int _ _ _ _) (fun _ _ => rfl)) (@pa_cons _ _ _ _ _ (@pe_ix _ _ _ _ _ _ _ ix_tup (pv 1) (@pe_int _ _ _ _) (fun _ _ => rfl)) (@pa_cons _ _ _ _ _ (@pe_op _ _ _ _ _ _ _ _ op_add (@pe_int _ _ _ _) (@pe_fn _ _ _ _ _ _ _ _ _ _ _ _ _ _ T.l_draw (ok_l_draw T) hr (by decide) (@pa_cons _ _ _ _ _ (pv 0) (@pa_cons _ _ _ _ _ (@pe_op _ _ _ _ _ _ _ _ op_pow (@pe_int _ _ _ _) (@pe_int _ _ _ _)) (@pa_nil _) star_bin) star_name) (by rfl) (by decide) (by rfl) (by rfl))) (@pa_nil _) star_bin) star_sub) star_sub) (by rfl) (by decide) (by rfl) (by rfl))))))), ?_⟩
    have b2 : Bd 2 (2 : Int) := by unfold Bd; decide
    have b1 : Bd 66 (1 : Int) := Bd.small (by decide)
    obtain ⟨ys, hys⟩ := hh.ls
    have fin : ∀ {H1 : Hp} {a b c : Int} {v : V} {H' : Hp}, HandAt H1 hd sc → SameB hd H H1 → Bd 400 a → Bd 400 b → Bd 400 c → (Same H1 H' ∧ ∃ r, AtP H' v r ∧ Is3 a b c r) → Q v H' := fun {H1 a b c v H'} hh s ba bb bc ⟨s', r, t, i3⟩ => k v H' r (hh.same s') (s.trans s'.b) t i3.pos (Sz.is3 i3 ba bb bc)
    refine st_setG (gv_draw hh (pa_c (pu_v rfl) (pa_c pu_c pa_n)) (by decide) Bd.small) ?_
    rintro _ H1 ⟨⟨n, rfl, n0, n1⟩, hh1, s1⟩
    obtain ⟨av, rfl, hv⟩ := tv.sameB s1 hys
    obtain ⟨aw, rfl, hw⟩ := tw.sameB s1 hys
    obtain ⟨ys1, hys1⟩ := hh1.ls
    have bi2 := b2.mul bi
    have bj2 := b2.mul bj
    refine st_ifN (pt_t (pu_eqI (pu_v rfl) pu_c)) (fun _ => ?_) fun _ => ?_
    · refine st_retG (gv_point (pa_c (pu_mul (pu_add (pu_mul pu_c (pu_ixT (pu_v rfl) pu_c (SqT.of (hv)) rfl) (mulOk_of (b2) (bi) (by decide))) pu_c) (pu_ixT (pu_v rfl) pu_c (SqT.of (hw)) rfl) (mulOk_of (bi2.add b1) (bx) (by decide))) (pa_c (pu_mul (pu_sub (pu_mul pu_c (pu_ixT (pu_v rfl) pu_c (SqT.of (hv)) rfl) (mulOk_of (b2) (bj) (by decide))) pu_c) (pu_ixT (pu_v rfl) pu_c (SqT.of (hw)) rfl) (mulOk_of (bj2.sub b1) (bx) (by decide))) (pa_c (pu_mul pu_c (pu_ixT (pu_v rfl) pu_c (SqT.of (hw)) rfl) (mulOk_of (b2) (by') (by decide))) pa_n))) (by omega) ((b2.mul by').mono (by decide))) fun v H' r => ?_
      exact fin hh1 s1 (((bi2.add b1).mul bx).mono (by decide)) (((bj2.sub b1).mul bx).mono (by decide)) ((b2.mul by').mono (by decide)) r
    refine st_ifN (pt_t (pu_eqI (pu_v rfl) pu_c)) (fun _ => ?_) fun _ => ?_
    · refine st_setG (gv_draw hh1 (pa_c (pu_v rfl) (pa_c pu_c pa_n)) (by decide) Bd.small) ?_
      rintro _ H2 ⟨⟨m, rfl, m0, m1⟩, hh2, s2⟩
      have hv2 : H2 av = some (.tup ([i, j].map V.int)) := s2 _ _ hv (ne_of hv hys1 (by intro z; cases z))
      have hw2 : H2 aw = some (.tup ([x, y].map V.int)) := s2 _ _ hw (ne_of hw hys1 (by intro z; cases z))
      have bm : Bd 66 m := Bd.small (by omega)
      have bm' : Bd 67 m := Bd.small (by omega)
      refine st_set (pu_mul (pu_add (pu_mul pu_c (pu_ixT (pu_v rfl) pu_c (SqT.of (hv2)) rfl) (mulOk_of (b2) (bi) (by decide))) (pu_v rfl)) (pu_ixT (pu_v rfl) pu_c (SqT.of (hw2)) rfl) (mulOk_of (bi2.add bm) (bx) (by decide))) ?_
      refine st_set (pu_mul (pu_sub (pu_add (pu_mul pu_c (pu_ixT (pu_v rfl) pu_c (SqT.of (hv2)) rfl) (mulOk_of (b2) (bj) (by decide))) pu_c) (pu_v rfl)) (pu_ixT (pu_v rfl) pu_c (SqT.of (hw2)) rfl) (mulOk_of ((bj2.add b1).sub bm') bx (by decide))) ?_
      refine st_retG (gv_point (pa_c (pu_v rfl) (pa_c (pu_v rfl) (pa_c (pu_mul pu_c (pu_ixT (pu_v rfl) pu_c (SqT.of (hw2)) rfl) (mulOk_of (b2) (by') (by decide))) pa_n))) (by omega) ((b2.mul by').mono (by decide))) fun v H' r => ?_
      exact fin hh2 (s1.trans s2) (((bi2.add bm).mul bx).mono (by decide)) ((((bj2.add b1).sub bm').mul bx).mono (by decide)) ((b2.mul by').mono (by decide)) r
    refine st_retG (R := fun v H' => ∃ r, HandAt H' hd sc ∧ SameB hd H H' ∧ AtP H' v r ∧ 0 < r.z ∧ Sz 400 r) (gv_callA (ga_cons (Pu.gv (v := .int i) (pu_ixT (pu_v rfl) pu_c (SqT.of (hv)) rfl)) fun u1 H2 e2 => ga_cons (R1 := fun v H' => v = .int j ∧ H1 = H') ?_ fun u2 H3 e3 => ga_cons (R1 := fun v H' => (∃ c : Int, v = .int c ∧ 0 < c ∧ c ≤ 10 ^ 6) ∧ HandAt H' hd sc ∧ SameB hd H H') ?_ fun _ _ _ => ga_nil) ?_) ?_
    · obtain ⟨rfl, rfl⟩ := e2
      exact Pu.gv' (pu_ixT (pu_v rfl) pu_c (SqT.of (hv)) rfl) ⟨rfl, rfl⟩
    · obtain ⟨rfl, rfl⟩ := e3
      refine fun Q f => pu_c (v := .int 1) _ (gv_draw (m := 10 ^ 6) hh1 (pa_c (pu_v rfl) (pa_c (pu_pow pu_c pu_c ⟨by decide, by decide, by decide⟩) pa_n)) (by decide) (Bd.small (by decide)) _ ?_)
      rintro _ H4 ⟨⟨c, rfl, c0, c1⟩, hh4, s4⟩
      exact ⟨1, c, rfl, rfl, f _ _ ⟨⟨_, rfl, by omega, by omega⟩, hh4, s1.trans s4⟩⟩
    · rintro vs H4 ⟨_, _, r, rfl, ⟨rfl, rfl⟩, _, _, r2, rfl, ⟨rfl, rfl⟩, _, H6, r3, rfl, ⟨⟨c, rfl, c0, c1⟩, hh6, s6⟩, rfl, rfl⟩ Q f
      have bc : Bd 64 c := by unfold Bd; omega
      exact ⟨i, j, c, rfl, c0, bc.mono (by decide), fun v H' r s t i3 => f _ _ ⟨r, hh6.same s, s6.trans s.b, t, i3.pos, Sz.is3 i3 (bi.mono (by decide)) (bj.mono (by decide)) (bc.mono (by decide))⟩⟩
    · rintro v H' ⟨r, a, b, c, d, e⟩
      exact k v H' r a b c d e
def sp_law (K : PySem.W.Frag) : Sp := fun vs H Q _ => ∃ (a : Addr) (ns : List Int), vs = [.ref a] ∧ SqL K H a (ns.map V.int) ∧ ns.length ≤ 63 ∧ ∀ H', Q (.bl true) H'
/-- 1 + draw(hand, m) -/
theorem gv_draw1 {σ : L2.St} {H : Hp} {hd sc : Addr} {t : TA} {m : Int} (hh : HandAt H hd sc) (ha : PuA t σ H [.ref hd, .int m]) (h0 : 0 < m) (hb : Bd 9000 m) : Gv (tOp (rI0 fun i j => .int (i + j)) (tC (.int 1)) (tCall sp_l_draw [] E0 t)) σ H (fun v H' => (∃ n : Int, v = .int n ∧ 0 < n ∧ n ≤ m) ∧ HandAt H' hd sc ∧ SameB hd H H') := fun Q f => pu_c (v := .int 1) _ (gv_draw hh ha h0 hb _ fun v H' ⟨⟨n, e, n0, n1⟩, a, s⟩ => by
  subst e
  exact ⟨1, n, rfl, rfl, f _ _ ⟨⟨_, rfl, by omega, by omega⟩, a, s⟩⟩)
/-- draw(hand, 2 * far + 1) - far -/
theorem gv_drawF {σ : L2.St} {H : Hp} {hd sc : Addr} {t : TA} {tf : TE} {m : Int} (hh : HandAt H hd sc) (ha : PuA t σ H [.ref hd, .int (2 * m + 1)]) (hf : ∀ H', Pu tf σ H' (.int m)) (h0 : 0 ≤ m) (hb : m ≤ 10 ^ 9) : Gv (tOp (rI0 fun i j => .int (i - j)) (tCall sp_l_draw [] E0 t) tf) σ H (fun v H' => (∃ n : Int, v = .int n ∧ Bd 64 n) ∧ HandAt H' hd sc ∧ SameB hd H H') := fun Q f => gv_draw hh ha (by omega) (Bd.small (by omega)) _ fun v H' ⟨⟨n, e, n0, n1⟩, a, s⟩ => by
  subst e
  exact hf _ _ ⟨n, m, rfl, rfl, f _ _ ⟨⟨_, rfl, by unfold Bd; omega⟩, a, s⟩⟩
theorem sc_law : FnScope ["_law_script", "_law_hand_here", "_law_wide", "_law_top", "_law_size", "_law_far", "_law_k", "_law_i", "_law_cell", "_law_told", "_law_p", "_law_got", "_law_plan", "_law_bad", "_law_way"] ["_law_script"] (defScope s_law) := ⟨rfl, rfl, rfl, by decide +kernel, rfl, by decide +kernel, by decide +kernel⟩
theorem ok_law (T : Txt K mg t) : FnOk P w K mg base CX0 10 t.f_law t.d_law ["_law_script"] (sp_law K) := by
  refine T.law.F.ok (k := 9) sc_law (fun vs H Q E h => ?_) (fun cdv A outer s H vs Q E hr h => ?_)
  · obtain ⟨a, ns, rfl, _⟩ := h
    rfl
  · obtain ⟨sa, ns, rfl, hS, hlen, k⟩ := h
    refine ⟨_, (@pss_cons _ _ _ _ _ (@ps_set _ _ 1 _ _ _ _ sc_law.nd rfl (Or.inl rfl) (@pe_fn _ _ _ _ _ _ _ _ _ _ _ _ _ _ T.l_hand (ok_l_hand T) hr (by decide) (@pa_cons _ _ _ _ _ (pv 0) (@pa_nil _) star_name) (by rfl) (by decide) (by rfl) (by rfl)) (by rfl) (by first | exact .inl rfl | exact .inr rfl | assumption)) (@pss_cons _ _ _ _ _ (@ps_set _ _ 2 _ _ _ _ sc_law.nd rfl (Or.inl rfl) (@pe_ix _ _ _ _ _ _ _ ix_list (@pe_lst _ _ _ _ (@pa_cons _ _ _ _ _ (@pe_int _ _ _ _) (@pa_cons _ _ _ _ _ (@pe_op _ _ _ _ _ _ _ _ op_pow (@pe_int _ _ _ _) (@pe_int _ _ _ _)) (@pa_nil _) star_bin) star_con)) (@pe_fn _ _ _ _ _ _ _ _ _ _ _ _ _ _ T.l_draw (ok_l_draw T) hr (by decide) (@pa_cons _ _ _ _ _ (pv 1) (@pa_cons _ _ _ _ _ (@pe_int _ _ _ _) (@pa_nil _) star_con) star_name) (by rfl) (by decide) (by rfl) (by rfl)) (fun _ _ => rfl)) (by rfl) (by first | exact .inl rfl | exact .inr rfl | assumption)) (@pss_cons _ _ _ _ _ (@ps_set _ _ 3 _ _ _ _ sc_law.nd rfl (Or.inl rfl) (@pe_op _ _ _ _ _ _ _ _ op_add (@pe_int _ _ _ _) (@pe_fn _ _ _ _ _ _ _ _ _ _ _ _ _ _ T.l_draw (ok_l_draw T) hr (by decide) (@pa_cons _ _ _ _ _ (pv 1) (@pa_cons _ _ _ _ _ (pv 2) (@pa_nil _) star_name) star_name) (by rfl) (by decide) (by rfl) (by rfl))) (by rfl) (by first | exact .inl rfl | exact .inr rfl | assumption)) (@pss_cons _ _ _ _ _ (@ps_set _ _ 4 _ _ _ _ sc_law.nd rfl (Or.inl rfl) (@pe_fn _ _ _ _ _ _ _ _ _ _ _ _ _ _ T.l_fraction (ok_l_fraction T) hr (by decide) (@pa_cons _ _ _ _ _ (pv 3) (@pa_cons _ _ _ _ _ (@pe_op _ _ _ _ _ _ _ _ op_add (@pe_int _ _ _ _) (@pe_fn _ _ _ _ _ _ _ _ _ _ _ _ _ _ T.l_draw (ok_l_draw T) hr (by decide) (@pa_cons _ _ _ _ _ (pv 1) (@pa_cons _ _ _ _ _ (pv 2) (@pa_nil _) star_name) star_name) (by rfl) (by decide) (by rfl) (by rfl))) (@pa_nil _) star_bin) star_name) (by rfl) (by decide) (by rfl) (by rfl)) (by rfl) (by first | exact .inl rfl | exact .inr rfl | assumption)) (@pss_cons _ _ _ _ _ (@ps_set _ _ 5 _ _ _ _ sc_law.nd rfl (Or.inl rfl) (@pe_ix _ _ _ _ _ _ _ ix_list (@pe_lst _ _ _ _ (@pa_cons _ _ _ _ _ (@pe_int _ _ _ _) (@pa_cons _ _ _ _ _ (@pe_op _ _ _ _ _ _ _ _ op_pow (@pe_int _ _ _ _) (@pe_int _ _ _ _)) (@pa_nil _) star_bin) star_con)) (@pe_fn _ _ _ _ _ _ _ _ _ _ _ _ _ _ T.l_draw (ok_l_draw T) hr (by decide) (@pa_cons _ _ _ _ _ (pv 1) (@pa_cons _ _ _ _ _ (@pe_int _ _ _ _) (@pa_nil _) star_con) star_name) (by rfl) (by decide) (by rfl) (by rfl)) (fun _ _ => rfl)) (by rfl) (by first | exact .inl rfl | exact .inr rfl | assumption)) (@pss_cons _ _ _ _ _ (@ps_for _ _ _ _ _ _ _ _ PassesOwn.never rfl (@pi_range1 _ _ _ _ _ _ rfl T.b_range (@pa_cons _ _ _ _ _ (@pe_op _ _ _ _ _ _ _ _ op_add (@pe_int _ _ _ _) (@pe_fn _ _ _ _ _ _ _ _ _ _ _ _ _ _ T.l_draw (ok_l_draw T) hr (by decide) (@pa_cons _ _ _ _ _ (pv 1) (@pa_cons _ _ _ _ _ (@pe_int _ _ _ _) (@pa_nil _) star_con) star_name) (by rfl) (by decide) (by rfl) (by rfl))) (@pa_nil _) star_bin) (by rfl)) (@pg_name _ _ 6 _ sc_law.nd rfl (Or.inl rfl) (by first | exact .inl rfl | exact .inr rfl | assumption)) (@pss_cons _ _ _ _ _ (@ps_set _ _ 7 _ _ _ _ sc_law.nd rfl (Or.inl rfl) (@pe_op _ _ _ _ _ _ _ _ op_sub (@pe_fn _ _ _ _ _ _ _ _ _ _ _ _ _ _ T.l_draw (ok_l_draw T) hr (by decide) (@pa_cons _ _ _ _ _ (pv 1) (@pa_cons _ _ _ _ _ (@pe_op _ _ _ _ _ _ _ _ op_add (@pe_op _ _ _ _ _ _ _ _ op_mulB (@pe_int _ _ _ _) (pv 5)) (@pe_int _ _ _ _)) (@pa_nil _) star_bin) star_name) (by rfl) (by decide) (by rfl) (by rfl)) (pv 5)) (by rfl) (by first | exact .inl rfl | exact .inr rfl | assumption)) (@pss_cons _ _ _ _ _ (@ps_set _ _ 8 _ _ _ _ sc_law.nd rfl (Or.inl rfl) (@pe_tup _ _ _ _ _ (@pa_cons _ _ _ _ _ (pv 7) (@pa_cons _ _ _ _ _ (@pe_op _ _ _ _ _ _ _ _ op_sub (@pe_fn _ _ _ _ _ _ _ _ _ _ _ _ _ _ T.l_draw (ok_l_draw T) hr (by decide) (@pa_cons _ _ _ _ _ (pv 1) (@pa_cons _ _ _ _ _ (@pe_op _ _ _ _ _ _ _ _ op_add (@pe_op _ _ _ _ _ _ _ _ op_mulB (@pe_int _ _ _ _) (pv 5)) (@pe_int _ _ _ _)) (@pa_nil _) star_bin) star_name) (by rfl) (by decide) (by rfl) (by rfl)) (pv 5)) (@pa_nil _) star_bin) star_name)) (by rfl) (by first | exact .inl rfl | exact .inr rfl | assumption)) (@pss_cons _ _ _ _ _ (@ps_set _ _ 9 _ _ _ _ sc_law.nd rfl (Or.inl rfl) (@pe_fn _ _ _ _ _ _ _ _ _ _ _ _ _ _ T.cell_middle (ok_cell_middle T) hr (by decide) (@pa_cons _ _ _ _ _ (pv 8) (@pa_cons _ _ _ _ _ (pv 4) (@pa_nil _) star_name) star_name) (by rfl) (by decide) (by rfl) (by rfl)) (by rfl) (by first | exact .inl rfl | exact .inr rfl | assumption)) (@pss_cons _ _ _ _ _ (@ps_if _ _ _ _ _ _ _ _ (PW.pt (@pw_or _ _ _ _ _ _ _ (@pt_not _ _ _ _ (@pt_val _ _ _ (@pe_fn _ _ _ _ _ _ _ _ _ _ _ _ _ _ T.l_wholes (ok_l_wholes T) hr (by decide) (@pa_cons _ _ _ _ _ (pv 9) (@pa_cons _ _ _ _ _ (@pe_int _ _ _ _) (@pa_nil _) star_con) star_name) (by rfl) (by decide) (by rfl) (by rfl)) (by intro _; rfl))) (@pw_or1 _ _ _ _ (@pt_cmpR _ _ _ _ _ _ _ _ (op_neTI hr.units) (pv 9) (@pe_fn _ _ _ _ _ _ _ _ _ _ _ _ _ _ T.l_point (ok_l_point T) hr (by decide) (@pa_cons _ _ _ _ _ (@pe_op _ _ _ _ _ _ _ _ op_mulB (@pe_ix _ _ _ _ _ _ _ ix_tup (pv 8) (@pe_int _ _ _ _) (fun _ _ => rfl)) (@pe_ix _ _ _ _ _ _ _ ix_tup (pv 4) (@pe_int _ _ _ _) (fun _ _ => rfl))) (@pa_cons _ _ _ _ _ (@pe_op _ _ _ _ _ _ _ _ op_mulB (@pe_ix _ _ _ _ _ _ _ ix_tup (pv 8) (@pe_int _ _ _ _) (fun _ _ => rfl)) (@pe_ix _ _ _ _ _ _ _ ix_tup (pv 4) (@pe_int _ _ _ _) (fun _ _ => rfl))) (@pa_cons _ _ _ _ _ (@pe_ix _ _ _ _ _ _ _ ix_tup (pv 4) (@pe_int _ _ _ _) (fun _ _ => rfl)) (@pa_nil _) star_sub) star_bin) star_bin) (by rfl) (by decide) (by rfl) (by rfl)) (nomark _))))) (@pss_one _ _ _ (@ps_ret _ _ _ _ (@pe_bl _ _ _ _))) (@pss_nil _)) (@pss_cons _ _ _ _ _ (@ps_if _ _ _ _ _ _ _ _ (@pt_cmpR _ _ _ _ _ _ _ _ (op_neTI hr.units) (@pe_fn _ _ _ _ _ _ _ _ _ _ _ _ _ _ T.cell_of (ok_cell_of T) hr (by decide) (@pa_cons _ _ _ _ _ (pv 9) (@pa_cons _ _ _ _ _ (pv 4) (@pa_nil _) star_name) star_name) (by rfl) (by decide) (by rfl) (by rfl)) (pv 8) (nomark _)) (@pss_one _ _ _ (@ps_ret _ _ _ _ (@pe_bl _ _ _ _))) (@pss_nil _)) (@pss_cons _ _ _ _ _ (@ps_set _ _ 10 _ _ _ _ sc_law.nd rfl (Or.inl rfl) (@pe_fn _ _ _ _ _ _ _ _ _ _ _ _ _ _ T.l_place (ok_l_place T) hr (by decide) (@pa_cons _ _ _ _ _ (pv 1) (@pa_cons _ _ _ _ _ (pv 8) (@pa_cons _ _ _ _ _ (pv 4) (@pa_nil _) star_name) star_name) star_name) (by rfl) (by decide) (by rfl) (by rfl)) (by rfl) (by first | exact .inl rfl | exact .inr rfl | assumption)) (@pss_cons _ _ _ _ _ (@ps_set _ _ 11 _ _ _ _ sc_law.nd rfl (Or.inl rfl) (@pe_fn _ _ _ _ _ _ _ _ _ _ _ _ _ _ T.cell_of (ok_cell_of T) hr (by decide) (@pa_cons _ _ _ _ _ (pv 10) (@pa_cons _ _ _ _ _ (pv 4) (@pa_nil _) star_name) star_name) (by rfl) (by decide) (by rfl) (by rfl)) (by rfl) (by first | exact .inl rfl | exact .inr rfl | assumption)) (@pss_one _ _ _ (@ps_if _ _ _ _ _ _ _ _ (PW.pt (@pw_or _ _ _ _ _ _ _ (@pt_not _ _ _ _ (@pt_val _ _ _ (@pe_fn _ _ _ _ _ _ _ _ _ _ _ _ _ _ T.l_wholes (ok_l_wholes T) hr (by decide) (@pa_cons _ _ _ _ _ (pv 11) (@pa_cons _ _ _ _ _ (@pe_int _ _ _ _) (@pa_nil _) star_con) star_name) (by rfl) (by decide) (by rfl) (by rfl)) (by intro _; rfl))) (@pw_or1 _ _ _ _ (@pt_not _ _ _ _ (@pt_val _ _ _ (@pe_fn _ _ _ _ _ _ _ _ _ _ _ _ _ _ T.l_inside (ok_l_inside T) hr (by decide) (@pa_cons _ _ _ _ _ (pv 10) (@pa_cons _ _ _ _ _ (pv 11) (@pa_cons _ _ _ _ _ (pv 4) (@pa_nil _) star_name) star_name) star_name) (by rfl) (by decide) (by rfl) (by rfl)) (by intro _; rfl)))))) (@pss_one _ _ _ (@ps_ret _ _ _ _ (@pe_bl _ _ _ _))) (@pss_nil _)))))))))) (by intro _; rfl)) (@pss_cons _ _ _ _ _ (@ps_set _ _ 12 _ _ _ _ sc_law.nd rfl (Or.inl rfl) (@pe_tup _ _ _ _ _ (@pa_cons _ _ _ _ _ (@pe_int _ _ _ _) (@pa_cons _ _ _ _ _ (@pe_lst _ _ _ _ (@pa_cons _ _ _ _ _ (@pe_tup _ _ _ _ _ (@pa_cons _ _ _ _ _ (@pe_tup _ _ _ _ _ (@pa_cons _ _ _ _ _ (@pe_int _ _ _ _) (@pa_cons _ _ _ _ _ (@pe_int _ _ _ _) (@pa_cons _ _ _ _ _ (@pe_int _ _ _ _) (@pa_nil _) star_con) star_con) star_con)) (@pa_cons _ _ _ _ _ (@pe_tup _ _ _ _ _ (@pa_cons _ _ _ _ _ (@pe_int _ _ _ _) (@pa_cons _ _ _ _ _ (@pe_int _ _ _ _) (@pa_cons _ _ _ _ _ (@pe_int _ _ _ _) (@pa_nil _) star_con) star_con) star_con)) (@pa_cons _ _ _ _ _ (@pe_tup _ _ _ _ _ (@pa_cons _ _ _ _ _ (@pe_int _ _ _ _) (@pa_nil _) star_con)) (@pa_nil _) star_tup) star_tup) star_tup)) (@pa_cons _ _ _ _ _ (@pe_tup _ _ _ _ _ (@pa_cons _ _ _ _ _ (@pe_tup _ _ _ _ _ (@pa_cons _ _ _ _ _ (@pe_int _ _ _ _) (@pa_cons _ _ _ _ _ (@pe_int _ _ _ _) (@pa_cons _ _ _ _ _ (@pe_int _ _ _ _) (@pa_nil _) star_con) star_con) star_con)) (@pa_cons _ _ _ _ _ (@pe_tup _ _ _ _ _ (@pa_cons _ _ _ _ _ (@pe_int _ _ _ _) (@pa_cons _ _ _ _ _ (@pe_int _ _ _ _) (@pa_cons _ _ _ _ _ (@pe_int _ _ _ _) (@pa_nil _) star_con) star_con) star_con)) (@pa_cons _ _ _ _ _ (@pe_tup _ _ _ _ _ (@pa_cons _ _ _ _ _ (@pe_un _ _ _ _ _ _ un_neg (@pe_int _ _ _ _)) (@pa_nil _) star_un)) (@pa_nil _) star_tup) star_tup) star_tup)) (@pa_cons _ _ _ _ _ (@pe_tup _ _ _ _ _ (@pa_cons _ _ _ _ _ (@pe_tup _ _ _ _ _ (@pa_cons _ _ _ _ _ (@pe_int _ _ _ _) (@pa_cons _ _ _ _ _ (@pe_int _ _ _ _) (@pa_cons _ _ _ _ _ (@pe_int _ _ _ _) (@pa_nil _) star_con) star_con) star_con)) (@pa_cons _ _ _ _ _ (@pe_tup _ _ _ _ _ (@pa_cons _ _ _ _ _ (@pe_int _ _ _ _) (@pa_cons _ _ _ _ _ (@pe_int _ _ _ _) (@pa_cons _ _ _ _ _ (@pe_int _ _ _ _) (@pa_nil _) star_con) star_con) star_con)) (@pa_cons _ _ _ _ _ (@pe_tup _ _ _ _ _ (@pa_cons _ _ _ _ _ (@pe_int _ _ _ _) (@pa_nil _) star_con)) (@pa_nil _) star_tup) star_tup) star_tup)) (@pa_nil _) star_tup) star_tup) star_tup)) (@pa_nil _) star_lst) star_con)) (by rfl) (by first | exact .inl rfl | exact .inr rfl | assumption)) (@pss_cons _ _ _ _ _ (@ps_if _ _ _ _ _ _ _ _ (@pt_cmpR _ _ _ _ _ _ _ _ op_eq (@pe_fn _ _ _ _ _ _ _ _ _ _ _ _ _ _ T.l_draw (ok_l_draw T) hr (by decide) (@pa_cons _ _ _ _ _ (pv 1) (@pa_cons _ _ _ _ _ (@pe_int _ _ _ _) (@pa_nil _) star_con) star_name) (by rfl) (by decide) (by rfl) (by rfl)) (@pe_int _ _ _ _) (nomark _)) (@pss_one _ _ _ (@ps_set _ _ 12 _ _ _ _ sc_law.nd rfl (Or.inl rfl) (@pe_tup _ _ _ _ _ (@pa_cons _ _ _ _ _ (@pe_int _ _ _ _) (@pa_cons _ _ _ _ _ (@pe_lst _ _ _ _ (@pa_nil _)) (@pa_nil _) star_lst) star_con)) (by rfl) (by first | exact .inl rfl | exact .inr rfl | assumption))) (@pss_nil _)) (@pss_cons _ _ _ _ _ (@ps_set _ _ 13 _ _ _ _ sc_law.nd rfl (Or.inl rfl) (@pe_fn _ _ _ _ _ _ _ _ _ _ _ _ _ _ T.l_fraction (ok_l_fraction T) hr (by decide) (@pa_cons _ _ _ _ _ (@pe_op _ _ _ _ _ _ _ _ op_mulB (@pe_un _ _ _ _ _ _ un_neg (@pe_fn _ _ _ _ _ _ _ _ _ _ _ _ _ _ T.l_draw (ok_l_draw T) hr (by decide) (@pa_cons _ _ _ _ _ (pv 1) (@pa_cons _ _ _ _ _ (@pe_int _ _ _ _) (@pa_nil _) star_con) star_name) (by rfl) (by decide) (by rfl) (by rfl))) (@pe_op _ _ _ _ _ _ _ _ op_add (@pe_int _ _ _ _) (@pe_fn _ _ _ _ _ _ _ _ _ _ _ _ _ _ T.l_draw (ok_l_draw T) hr (by decide) (@pa_cons _ _ _ _ _ (pv 1) (@pa_cons _ _ _ _ _ (@pe_op _ _ _ _ _ _ _ _ op_pow (@pe_int _ _ _ _) (@pe_int _ _ _ _)) (@pa_nil _) star_bin) star_name) (by rfl) (by decide) (by rfl) (by rfl)))) (@pa_cons _ _ _ _ _ (@pe_op _ _ _ _ _ _ _ _ op_add (@pe_int _ _ _ _) (@pe_fn _ _ _ _ _ _ _ _ _ _ _ _ _ _ T.l_draw (ok_l_draw T) hr (by decide) (@pa_cons _ _ _ _ _ (pv 1) (@pa_cons _ _ _ _ _ (@pe_int _ _ _ _) (@pa_nil _) star_con) star_name) (by rfl) (by decide) (by rfl) (by rfl))) (@pa_nil _) star_bin) star_bin) (by rfl) (by decide) (by rfl) (by rfl)) (by rfl) (by first | exact .inl rfl | exact .inr rfl | assumption)) (@pss_cons _ _ _ _ _ (@ps_set _ _ 14 _ _ _ _ sc_law.nd rfl (Or.inl rfl) (@pe_fn _ _ _ _ _ _ _ _ _ _ _ _ _ _ T.l_draw (ok_l_draw T) hr (by decide) (@pa_cons _ _ _ _ _ (pv 1) (@pa_cons _ _ _ _ _ (@pe_int _ _ _ _) (@pa_nil _) star_con) star_name) (by rfl) (by decide) (by rfl) (by rfl)) (by rfl) (by first | exact .inl rfl | exact .inr rfl | assumption)) (@pss_one _ _ _ (@ps_ret _ _ _ _ (@pe_fn _ _ _ _ _ _ _ _ _ _ _ _ _ _ T.l_refused (ok_l_refused T) hr (by decide) (@pa_cons _ _ _ _ _ (pv 14) (@pa_cons _ _ _ _ _ (pv 13) (@pa_cons _ _ _ _ _ (pv 12) (@pa_cons _ _ _ _ _ (@pe_fn _ _ _ _ _ _ _ _ _ _ _ _ _ _ T.l_draw (ok_l_draw T) hr (by decide) (@pa_cons _ _ _ _ _ (pv 1) (@pa_cons _ _ _ _ _ (@pe_int _ _ _ _) (@pa_nil _) star_con) star_name) (by rfl) (by decide) (by rfl) (by rfl)) (@pa_nil _) star_call) star_name) star_name) star_name) (by rfl) (by decide) (by rfl) (by rfl)))))))))))))), ?_⟩
    have b2 : Bd 2 (2 : Int) := by unfold Bd; decide
    refine st_setG (gv_call (R := fun v H' => ∃ hd sc, v = .ref hd ∧ HandAt H' hd sc) (pa_c (pu_v rfl) pa_n) fun Q f => ⟨sa, ns, rfl, hS, fun hd sc H' s n hh => f _ _ ⟨hd, sc, rfl, hh⟩⟩) ?_
    rintro _ H1 ⟨hd, sc, rfl, hh1⟩
    refine st_setG (gv_pick (ys := [8, 10 ^ 6]) (m := 10 ^ 6) hh1 (pa_c pu_c (pa_c (pu_pow pu_c pu_c ⟨by decide, by decide, by decide⟩) pa_n)) (by decide) (by decide) (by decide) (fun _ => pa_c (pu_v rfl) (pa_c pu_c pa_n))) ?_
    rintro _ H2 ⟨⟨wd, rfl, w0, w1⟩, hh2, _⟩
    have bw : Bd 9000 wd := Bd.small (by omega)
    refine st_setG (gv_draw1 hh2 (pa_c (pu_v rfl) (pa_c (pu_v rfl) pa_n)) w0 bw) ?_
    rintro _ H3 ⟨⟨tp, rfl, t0, t1⟩, hh3, _⟩
    refine st_setG (R := fun v H' => ∃ x y, TupT H' v [x, y] ∧ 0 < x ∧ 0 < y ∧ Bd 64 x ∧ Bd 64 y ∧ HandAt H' hd sc) (gv_callA (ga_cons (Pu.gv (v := .int tp) (pu_v rfl)) fun u1 H4 e4 => ga_cons (R1 := fun v H' => (∃ n : Int, v = .int n ∧ 0 < n ∧ n ≤ wd) ∧ HandAt H' hd sc ∧ SameB hd H3 H') ?_ fun _ _ _ => ga_nil) ?_) ?_
    · obtain ⟨rfl, rfl⟩ := e4
      exact gv_draw1 hh3 (pa_c (pu_v rfl) (pa_c (pu_v rfl) pa_n)) w0 bw
    · rintro vs H4 ⟨_, _, r, rfl, ⟨rfl, rfl⟩, _, H5, r2, rfl, ⟨⟨n, rfl, n0, n1⟩, hh5, s5⟩, rfl, rfl⟩ Q f
      exact ⟨tp, n, 64, rfl, n0, by unfold Bd; omega, by unfold Bd; omega, by decide, fun v H' x y s t hy hx _ bx by' => f _ _ ⟨x, y, t, hx t0, hy, bx, by', hh5.same s⟩⟩
    rintro vsz H4 ⟨x, y, tz, hx, hy, bx, by', hh4⟩
    obtain ⟨ys4, hys4⟩ := hh4.ls
    refine st_setG (gv_pick (ys := [5, 10 ^ 9]) (m := 10 ^ 9) hh4 (pa_c pu_c (pa_c (pu_pow pu_c pu_c ⟨by decide, by decide, by decide⟩) pa_n)) (by decide) (by decide) (by decide) (fun _ => pa_c (pu_v rfl) (pa_c pu_c pa_n))) ?_
    rintro _ H5 ⟨⟨far, rfl, f0, f1⟩, hh5, s5⟩
    have tz5 := tz.sameB s5 hys4
    obtain ⟨ys5, hys5⟩ := hh5.ls
    refine st_rangeG (ga_cons (gv_draw1 (m := 6) hh5 (pa_c (pu_v rfl) (pa_c pu_c pa_n)) (by decide) Bd.small) fun _ _ _ => ga_nil) ?_
    rintro vs H6 ⟨_, _, r, rfl, ⟨⟨n, rfl, n0, n1⟩, hh6, s6⟩, rfl, rfl⟩
    refine ⟨n, rfl, by omega, by omega, fun _ σ H' => HandAt H' hd sc ∧ TupT H' vsz [x, y] ∧ ∃ c d e f g h : Option V, σ = [some (.ref sa), some (.ref hd), some (.int wd), some (.int tp), some vsz, some (.int far), c, d, e, f, g, h, none, none, none], ⟨hh6, tz5.sameB s6 hys5, _, _, _, _, _, _, rfl⟩, ?_, ?_⟩
    · rintro i σ H7 hi ⟨hh7, tz7, c, d, e, f, g, h, rfl⟩
      have A2 : ∀ {H' : Hp} {σ : L2.St}, σ[1]? = some (some (.ref hd)) → σ[5]? = some (some (.int far)) → PuA (tCons (tVar 1) (tCons (tOp (rI0 fun i j => .int (i + j)) (tOp (rI IntMulOk fun i j => .int (i * j)) (tC (.int 2)) (tVar 5)) (tC (.int 1))) tNil)) σ H' [.ref hd, .int (2 * far + 1)] := fun h1 h5 => pa_c (pu_v h1) (pa_c (pu_add (pu_mul pu_c (pu_v h5) (IntMulOk.of_left (by decide))) pu_c) pa_n)
      refine st_setG (gv_drawF hh7 (A2 rfl rfl) (fun _ => pu_v rfl) (by omega) f1) ?_
      rintro _ H8 ⟨⟨ci, rfl, bi⟩, hh8, s8⟩
      obtain ⟨ys7, hys7⟩ := hh7.ls
      have tz8 := tz7.sameB s8 hys7
      obtain ⟨ys8, hys8⟩ := hh8.ls
      refine st_setG (gv_tupG (RA := fun vs H' => ∃ cj : Int, vs = [.int ci, .int cj] ∧ Bd 64 cj ∧ HandAt H' hd sc ∧ SameB hd H8 H') (fun Q q => pu_v (v := .int ci) rfl _ (gv_drawF hh8 (A2 rfl rfl) (fun _ => pu_v rfl) (by omega) f1 _ fun v H' ⟨⟨cj, e, bj⟩, a, s⟩ => by subst e; exact q _ _ ⟨cj, rfl, bj, a, s⟩)) (fun vs H1 r => by obtain ⟨cj, rfl, _⟩ := r; exact len2)) ?_
      rintro _ _ ⟨_, H9, pc, ⟨cj, rfl, bj, hh9, s9⟩, hpc, rfl, rfl⟩
      have tz9 := tz8.sameB s9 hys8
      have tc : TupT (upd H9 pc (.tup [.int ci, .int cj])) (.ref pc) [ci, cj] := TupT.of (ns := [ci, cj]) upd_same
      have hhc := hh9.same (Same.upd (o := .tup [.int ci, .int cj]) hpc)
      have tzc := tz9.same (Same.upd (o := .tup [.int ci, .int cj]) hpc)
      revert tc hhc tzc
      generalize upd H9 pc (.tup [.int ci, .int cj]) = HA
      intro tc hhA tzA
      refine st_setG (gv_call (R := fun v H' => Same HA H' ∧ AtP H' v (pbF (ci * x) (cj * x) y)) (pa_c (pu_v rfl) (pa_c (pu_v rfl) pa_n)) fun Q f => ⟨_, vsz, ci, cj, x, y, rfl, tc, tzA, bi.mono (by decide), bj.mono (by decide), bx.mono (by decide), by'.mono (by decide), hx, hy, fun r H' s t => f _ _ ⟨s, t⟩⟩) ?_
      rintro vt HB ⟨sB, tt⟩
      have tcB := tc.same sB
      have tzB := tzA.same sB
      have hhB := hhA.same sB
      obtain ⟨ac, ec, hc⟩ := id tcB
      cases ec
      obtain ⟨az, rfl, hz⟩ := id tzB
      refine st_ifNG (R := fun b H' => b = false ∧ Same HB H' ∧ ∃ r, pbF (ci * x) (cj * x) y = r ∧ Is3 (ci * x) (cj * x) y r) (gt_or (R := fun b H' => b = false ∧ HB = H') (PuT.gt (pt_n (b := true) (pt_b (pu_call (pa_c (pu_v rfl) (pa_c pu_c pa_n)) fun Q f => ⟨vt, [_, _, _], rfl, tt, f⟩))) ⟨rfl, rfl⟩) (fun H' e => ?_) fun _ e => by cases e.1) (fun _ e => by cases e.1) ?_
      · obtain ⟨_, rfl⟩ := e
        refine gt_neT (x := vt) (pu_v rfl) (gv_point (pa_c (pu_mul (pu_ixT (pu_v rfl) pu_c (SqT.of (hc)) rfl) (pu_ixT (pu_v rfl) pu_c (SqT.of (hz)) rfl) (mulOk_of (bi) (bx) (by decide))) (pa_c (pu_mul (pu_ixT (pu_v rfl) pu_c (SqT.of (hc)) rfl) (pu_ixT (pu_v rfl) pu_c (SqT.of (hz)) rfl) (mulOk_of (bj) (bx) (by decide))) (pa_c (pu_ixT (pu_v rfl) pu_c (SqT.of (hz)) rfl) pa_n))) hy (by'.mono (by decide))) ?_
        rintro v H' ⟨s', r, t', i3⟩
        have er := pb_is3 (by omega) i3
        refine ⟨L3 (pbF (ci * x) (cj * x) y), L3 r, TupT.i (TupT.same tt s'), TupT.i t', ?_, s', r, er, i3⟩
        rw [er]
        simp
      rintro HC ⟨_, sC, r, er, i3⟩
      rw [er] at tt
      have ttC := TupT.same tt sC
      have tcC := tcB.same sC
      have tzC := tzB.same sC
      have hhC := hhB.same sC
      have szr : Sz 400 r := Sz.is3 i3 ((bi.mul bx).mono (by decide)) ((bj.mul bx).mono (by decide)) (by'.mono (by decide))
      refine st_ifNG (R := fun b H' => b = false ∧ Same HC H') (gt_neT2 (y := .ref pc) (gv_call (sp := sp_cell_of) (E := E0) (R := fun v H' => Same HC H' ∧ TupT H' v [nrst (r.x * y) (r.z * x), nrst (r.y * y) (r.z * x)]) (pa_c (pu_v rfl) (pa_c (pu_v rfl) pa_n)) (fun Q f => ⟨vt, _, r, x, y, rfl, ttC, tzC, szr, bx.mono (by decide), by'.mono (by decide), i3.pos, hx, fun v H' s t => f _ _ ⟨s, t⟩⟩)) (fun _ => pu_v rfl) ?_) (fun _ e => by cases e.1) ?_
      · rintro v H' ⟨s', t'⟩
        refine ⟨_, [ci, cj], TupT.i t', TupT.i (tcC.same s'), ?_, s'⟩
        obtain ⟨dd, hd', e1, e2, e3⟩ := i3.ex
        have hpos : 0 < r.z * x := Int.mul_pos i3.pos hx
        have q1 : r.x * y = ci * (r.z * x) := by rw [e3]; grind
        have q2 : r.y * y = cj * (r.z * x) := by rw [e3]; grind
        rw [q1, q2, nrst_at hpos, nrst_at hpos]
        simp
      rintro HD ⟨_, sD⟩
      have tcD := tcC.same sD
      have tzD := tzC.same sD
      have hhD := hhC.same sD
      refine st_setG (gv_call (R := fun v H' => ∃ p, HandAt H' hd sc ∧ SameB hd HD H' ∧ AtP H' v p ∧ 0 < p.z ∧ Sz 400 p) (pa_c (pu_v rfl) (pa_c (pu_v rfl) (pa_c (pu_v rfl) pa_n))) fun Q f => ⟨hd, sc, _, _, ci, cj, x, y, rfl, hhD, tcD, tzD, bi, bj, bx, by', hy, fun v H' p a b c d e => f _ _ ⟨p, a, b, c, d, e⟩⟩) ?_
      rintro vp HE ⟨p, hhE, sE, tp', p0, szp⟩
      obtain ⟨ysD, hysD⟩ := hhD.ls
      have tzE := tzD.sameB sE hysD
      refine st_setG (gv_call (R := fun v H' => Same HE H' ∧ TupT H' v [nrst (p.x * y) (p.z * x), nrst (p.y * y) (p.z * x)]) (pa_c (pu_v rfl) (pa_c (pu_v rfl) pa_n)) fun Q f => ⟨vp, _, p, x, y, rfl, tp', tzE, szp, bx.mono (by decide), by'.mono (by decide), p0, hx, fun v H' s t => f _ _ ⟨s, t⟩⟩) ?_
      rintro vg HF ⟨sF, tg⟩
      have tzF := tzE.same sF
      have hhF := hhE.same sF
      have hpos : 0 < p.z * x := Int.mul_pos p0 hx
      obtain ⟨n1, n2⟩ := nrst_has (t := p.x * y) hpos
      obtain ⟨n3, n4⟩ := nrst_has (t := p.y * y) hpos
      have bn : ∀ t : Int, Bd 800 t → Bd 1000 (nrst t (p.z * x)) := fun t bt => by
        unfold nrst
        rw [Int.fdiv_eq_ediv_of_nonneg _ (by omega)]
        have b1 : Bd (2 + 800 + 1) (2 * t + p.z * x) := (b2.mul bt).add ((szp.z.mul bx).mono (by decide))
        refine (b1.mono (by decide)).le ?_
        exact Int.natAbs_ediv_le_natAbs _ _
      refine st_ifN1 (pt_or (b := false) (pt_n (b := true) (pt_b (pu_call (pa_c (pu_v rfl) (pa_c pu_c pa_n)) fun Q f => ⟨vg, [_, _], rfl, tg, f⟩))) fun _ => pt_n (b := true) (pt_b (pu_call (pa_c (pu_v rfl) (pa_c (pu_v rfl) (pa_c (pu_v rfl) pa_n))) fun Q f => ⟨vp, vg, _, p, _, _, x, y, rfl, TupT.same tp' sF, tg, tzF, szp, bn _ ((szp.x.mul by').mono (by decide)), bn _ ((szp.y.mul by').mono (by decide)), bx.mono (by decide), by'.mono (by decide), ?_, ?_, ?_, ?_, f⟩))) (fun e => by simp at e) fun _ => ⟨hhF, tzF, _, _, _, _, _, _, rfl⟩
      · rw [Int.mul_comm x]; grind
      · rw [Int.mul_comm x]; grind
      · rw [Int.mul_comm x]; grind
      · rw [Int.mul_comm x]; grind
    · rintro σ H7 ⟨hh7, tz7, c, d, e, f, g, h, rfl⟩
      have C1 : ∀ {σ : L2.St} {H : Hp} {v : V}, Gv (tC v) σ H (fun _ H' => Same H H') := gs_pu pu_c
      have T3 : ∀ {σ : L2.St} {H : Hp} {a b c : V}, Gv (tTup (tCons (tC a) (tCons (tC b) (tCons (tC c) tNil)))) σ H (fun _ H' => Same H H') := gs_tupN (gan_cons C1 fun _ => gan_cons C1 fun _ => gan_cons C1 fun _ => gan_nil) len3
      have one : 1 ≤ sizeLine := by decide
      refine st_setG (gv_pairL pu_c (gan_cons (gs_tupN (gan_cons T3 fun _ => gan_cons T3 fun _ => gan_cons (gs_tupN (gan_cons C1 fun _ => gan_nil) one) fun _ => gan_nil) len3) fun _ => gan_cons (gs_tupN (gan_cons T3 fun _ => gan_cons T3 fun _ => gan_cons (gs_tupN (gan_cons (gs_pu (pu_neg pu_c)) fun _ => gan_nil) one) fun _ => gan_nil) len3) fun _ => gan_cons (gs_tupN (gan_cons T3 fun _ => gan_cons T3 fun _ => gan_cons (gs_tupN (gan_cons C1 fun _ => gan_nil) one) fun _ => gan_nil) len3) fun _ => gan_nil) len3) ?_
      rintro _ H8 ⟨s8, b, l, m, rfl, hb⟩
      have hh8 := hh7.same s8
      obtain ⟨ys8, hys8⟩ := hh8.ls
      refine st_ifRG (RB := fun _ H9 => HandAt H9 hd sc ∧ H9 b = some (.tup [m, .ref l])) (fun σ' H' => HandAt H' hd sc ∧ ∃ (b l : Addr) (m : V), H' b = some (.tup [m, .ref l]) ∧ σ' = [some (.ref sa), some (.ref hd), some (.int wd), some (.int tp), some vsz, some (.int far), c, d, e, f, g, h, some (.ref b), none, none]) (fun Q q => ?_) (fun H9 r D' q _ => ?_) (fun H9 r => ⟨r.1, b, l, m, r.2, rfl⟩) ?_
      · refine gv_draw hh8 (pa_c (pu_v rfl) (pa_c pu_c pa_n)) (by decide) Bd.small _ ?_
        rintro _ H9 ⟨⟨n, rfl, _, _⟩, hh9, s9⟩
        exact ⟨rfl, _, rfl, q _ _ ⟨hh9, s9 _ _ hb (ne_of hb hys8 (by intro z; cases z))⟩⟩
      · refine st_setG1 (R := fun v H' => Same H9 H' ∧ ∃ (b l : Addr) (m : V), v = .ref b ∧ H' b = some (.tup [m, .ref l])) (gv_pairL pu_c gan_nil (by decide)) ?_
        rintro _ HA ⟨sA, b, l, m, rfl, hb⟩
        exact q _ _ ⟨r.1.same sA, b, l, m, hb, rfl⟩
      rintro _ H9 ⟨hh9, b, l, m, hb, rfl⟩
      obtain ⟨ys9, hys9⟩ := hh9.ls
      have keepb : ∀ {H' : Hp}, SameB hd H9 H' → H' b = some (.tup [m, .ref l]) := fun s => s _ _ hb (ne_of hb hys9 (by intro z; cases z))
      refine st_setG (R := fun v H' => ∃ x y, TupT H' v [x, y] ∧ x ≤ 0 ∧ HandAt H' hd sc ∧ SameB hd H9 H') (gv_callA (ga_cons (R1 := fun v H' => (∃ n : Int, v = .int n ∧ n ≤ 0 ∧ Bd 64 n) ∧ HandAt H' hd sc ∧ SameB hd H9 H') (fun Q q => gv_draw hh9 (pa_c (pu_v rfl) (pa_c pu_c pa_n)) (by decide) Bd.small _ ?_) fun u1 HA eA => ga_cons (R1 := fun v H' => (∃ n : Int, v = .int n ∧ 0 < n ∧ n ≤ 9) ∧ HandAt H' hd sc ∧ SameB hd HA H') (gv_draw1 (m := 9) eA.2.1 (pa_c (pu_v rfl) (pa_c pu_c pa_n)) (by decide) Bd.small) fun _ _ _ => ga_nil) ?_) ?_
      · rintro _ HA ⟨⟨n, rfl, n0, n1⟩, hhA, sA⟩
        refine ⟨n, rfl, gv_draw1 (m := 10 ^ 6) hhA (pa_c (pu_v rfl) (pa_c (pu_pow pu_c pu_c ⟨by decide, by decide, by decide⟩) pa_n)) (by decide) (Bd.small (by decide)) _ ?_⟩
        rintro _ HB ⟨⟨u, rfl, u0, u1⟩, hhB, sB⟩
        have hm : -n * u ≤ 0 := by
          rw [Int.neg_mul]
          have := Int.mul_nonneg n0 (Int.le_of_lt u0)
          omega
        have hm2 : (-n * u).natAbs ≤ 3 * 10 ^ 6 := by
          rw [Int.natAbs_mul]
          exact Nat.mul_le_mul (by omega) (by omega)
        exact ⟨-n, u, rfl, rfl, L2.mulOk_of (m := 64) (n := 64) (by unfold Bd; omega) (by unfold Bd; omega) (by decide), q _ _ ⟨⟨_, rfl, hm, by unfold Bd; omega⟩, hhB, sA.trans sB⟩⟩
      · rintro vs HC ⟨_, HA, r, rfl, ⟨⟨n, rfl, n0, bn⟩, hhA, sA⟩, _, HB, r2, rfl, ⟨⟨u, rfl, u0, u1⟩, hhB, sB⟩, rfl, rfl⟩ Q q
        exact ⟨n, u, 64, rfl, u0, bn, by unfold Bd; omega, by decide, fun v H' x y s t _ _ hx _ _ => q _ _ ⟨x, y, t, hx n0, hhB.same s, (sA.trans sB).trans s.b⟩⟩
      rintro vb HA ⟨x', y', tb, hx', hhA, sA⟩
      obtain ⟨ysA, hysA⟩ := hhA.ls
      refine st_setG (gv_draw hhA (pa_c (pu_v rfl) (pa_c pu_c pa_n)) (by decide) Bd.small) ?_
      rintro _ HB ⟨⟨w, rfl, _, _⟩, hhB, sB⟩
      obtain ⟨ysB, hysB⟩ := hhB.ls
      refine st_retG (R := fun v _ => v = .bl true) (gv_callA (ga_cons (Pu.gv (v := .int w) (pu_v rfl)) fun u1 HC eC => ga_cons (R1 := fun v H' => v = vb ∧ HB = H') ?_ fun u2 HD eD => ga_cons (R1 := fun v H' => v = .ref b ∧ HB = H') ?_ fun u3 HE eE => ga_cons (R1 := fun v H' => (∃ n : Int, v = .int n ∧ 0 ≤ n ∧ n < 3) ∧ HandAt H' hd sc ∧ SameB hd HB H') ?_ fun _ _ _ => ga_nil) ?_) ?_
      · obtain ⟨rfl, rfl⟩ := eC
        exact (pu_v rfl).gv' ⟨rfl, rfl⟩
      · obtain ⟨rfl, rfl⟩ := eD
        exact (pu_v rfl).gv' ⟨rfl, rfl⟩
      · obtain ⟨rfl, rfl⟩ := eE
        exact gv_draw hhB (pa_c (pu_v rfl) (pa_c pu_c pa_n)) (by decide) Bd.small
      · rintro vs HF ⟨_, _, r, rfl, ⟨rfl, rfl⟩, _, _, r2, rfl, ⟨rfl, rfl⟩, _, _, r3, rfl, ⟨rfl, rfl⟩, _, HG, r4, rfl, ⟨⟨n, rfl, _, _⟩, hhG, sG⟩, rfl, rfl⟩ Q q
        exact ⟨w, n, b, l, m, _, x', y', rfl, keepb ((sA.trans sB).trans sG), (tb.sameB sB hysA).sameB sG hysB, hx', fun H' => q _ _ rfl⟩
      · rintro _ H' rfl
        exact k _
end
theorem all_mk {l : PySem.W.OpenLaw} {w : World} {K : PySem.W.Frag} {h : Heap} {mg : Str → Option Value} {fa : Addr} (X : K.In h) (G : h.Ns mainGlobals mg) (hfa : mg "law" = some (.ref fa))
    {g0 : Addr} (u0 : PySem.W.nsIn K mainGlobals "NoSize" = some (some (.ref g0)))
    {g1 : Addr} (u1 : PySem.W.nsIn K mainGlobals "PlyError" = some (some (.ref g1)))
    {g2 : Addr} (u2 : PySem.W.nsIn K mainGlobals "NoNumber" = some (some (.ref g2)))
    {g3 : Addr} (u3 : PySem.W.nsIn K mainGlobals "BadPlan" = some (some (.ref g3)))
    {g4 : Addr} (u4 : PySem.W.nsIn K mainGlobals "NoPoint" = some (some (.ref g4)))
    {f0 : Addr} {od0 an0 : Option Addr} {sl0 : Array (Option Value)} {oc0 kV0 dc0 pm0 cd0 ct0 : Value}
    (a0 : PySem.W.nsIn K mainGlobals "is_ahead" = some (some (.ref f0))) (l0 : K.lookup f0 = some ⟨oc0, od0, .func (PySem.W.fnOf "is_ahead" "is_ahead" (defArgs s_is_ahead) (defBody s_is_ahead) (defScope s_is_ahead) .none kV0 dc0 pm0 an0 cd0 ct0), sl0⟩) (c0 : PySem.W.codeIn K cd0 "is_ahead" = true) (k0 : PySem.W.keepIn K (.ref f0) = true)
    {f1 : Addr} {od1 an1 : Option Addr} {sl1 : Array (Option Value)} {oc1 kV1 dc1 pm1 cd1 ct1 : Value}
    (a1 : PySem.W.nsIn K mainGlobals "divisor_of" = some (some (.ref f1))) (l1 : K.lookup f1 = some ⟨oc1, od1, .func (PySem.W.fnOf "divisor_of" "divisor_of" (defArgs s_divisor_of) (defBody s_divisor_of) (defScope s_divisor_of) .none kV1 dc1 pm1 an1 cd1 ct1), sl1⟩) (c1 : PySem.W.codeIn K cd1 "divisor_of" = true) (k1 : PySem.W.keepIn K (.ref f1) = true)
    {f2 : Addr} {od2 an2 : Option Addr} {sl2 : Array (Option Value)} {oc2 kV2 dc2 pm2 cd2 ct2 : Value}
    (a2 : PySem.W.nsIn K mainGlobals "point_by" = some (some (.ref f2))) (l2 : K.lookup f2 = some ⟨oc2, od2, .func (PySem.W.fnOf "point_by" "point_by" (defArgs s_point_by) (defBody s_point_by) (defScope s_point_by) .none kV2 dc2 pm2 an2 cd2 ct2), sl2⟩) (c2 : PySem.W.codeIn K cd2 "point_by" = true) (k2 : PySem.W.keepIn K (.ref f2) = true)
    {f3 : Addr} {od3 an3 : Option Addr} {sl3 : Array (Option Value)} {oc3 kV3 dc3 pm3 cd3 ct3 : Value}
    (a3 : PySem.W.nsIn K mainGlobals "check_size" = some (some (.ref f3))) (l3 : K.lookup f3 = some ⟨oc3, od3, .func (PySem.W.fnOf "check_size" "check_size" (defArgs s_check_size) (defBody s_check_size) (defScope s_check_size) .none kV3 dc3 pm3 an3 cd3 ct3), sl3⟩) (c3 : PySem.W.codeIn K cd3 "check_size" = true) (k3 : PySem.W.keepIn K (.ref f3) = true)
    {f4 : Addr} {od4 an4 : Option Addr} {sl4 : Array (Option Value)} {oc4 kV4 dc4 pm4 cd4 ct4 : Value}
    (a4 : PySem.W.nsIn K mainGlobals "nearest_to" = some (some (.ref f4))) (l4 : K.lookup f4 = some ⟨oc4, od4, .func (PySem.W.fnOf "nearest_to" "nearest_to" (defArgs s_nearest_to) (defBody s_nearest_to) (defScope s_nearest_to) .none kV4 dc4 pm4 an4 cd4 ct4), sl4⟩) (c4 : PySem.W.codeIn K cd4 "nearest_to" = true) (k4 : PySem.W.keepIn K (.ref f4) = true)
    {f5 : Addr} {od5 an5 : Option Addr} {sl5 : Array (Option Value)} {oc5 kV5 dc5 pm5 cd5 ct5 : Value}
    (a5 : PySem.W.nsIn K mainGlobals "cell_of" = some (some (.ref f5))) (l5 : K.lookup f5 = some ⟨oc5, od5, .func (PySem.W.fnOf "cell_of" "cell_of" (defArgs s_cell_of) (defBody s_cell_of) (defScope s_cell_of) .none kV5 dc5 pm5 an5 cd5 ct5), sl5⟩) (c5 : PySem.W.codeIn K cd5 "cell_of" = true) (k5 : PySem.W.keepIn K (.ref f5) = true)
    {f6 : Addr} {od6 an6 : Option Addr} {sl6 : Array (Option Value)} {oc6 kV6 dc6 pm6 cd6 ct6 : Value}
    (a6 : PySem.W.nsIn K mainGlobals "cell_middle" = some (some (.ref f6))) (l6 : K.lookup f6 = some ⟨oc6, od6, .func (PySem.W.fnOf "cell_middle" "cell_middle" (defArgs s_cell_middle) (defBody s_cell_middle) (defScope s_cell_middle) .none kV6 dc6 pm6 an6 cd6 ct6), sl6⟩) (c6 : PySem.W.codeIn K cd6 "cell_middle" = true) (k6 : PySem.W.keepIn K (.ref f6) = true)
    {f7 : Addr} {od7 an7 : Option Addr} {sl7 : Array (Option Value)} {oc7 kV7 dc7 pm7 cd7 ct7 : Value}
    (a7 : PySem.W.nsIn K mainGlobals "meets_cell" = some (some (.ref f7))) (l7 : K.lookup f7 = some ⟨oc7, od7, .func (PySem.W.fnOf "meets_cell" "meets_cell" (defArgs s_meets_cell) (defBody s_meets_cell) (defScope s_meets_cell) .none kV7 dc7 pm7 an7 cd7 ct7), sl7⟩) (c7 : PySem.W.codeIn K cd7 "meets_cell" = true) (k7 : PySem.W.keepIn K (.ref f7) = true)
    {f8 : Addr} {od8 an8 : Option Addr} {sl8 : Array (Option Value)} {oc8 kV8 dc8 pm8 cd8 ct8 : Value}
    (a8 : PySem.W.nsIn K mainGlobals "hot_cells" = some (some (.ref f8))) (l8 : K.lookup f8 = some ⟨oc8, od8, .func (PySem.W.fnOf "hot_cells" "hot_cells" (defArgs s_hot_cells) (defBody s_hot_cells) (defScope s_hot_cells) .none kV8 dc8 pm8 an8 cd8 ct8), sl8⟩) (c8 : PySem.W.codeIn K cd8 "hot_cells" = true) (k8 : PySem.W.keepIn K (.ref f8) = true)
    {f9 : Addr} {od9 an9 : Option Addr} {sl9 : Array (Option Value)} {oc9 kV9 dc9 pm9 cd9 ct9 : Value}
    (a9 : PySem.W.nsIn K mainGlobals "thread_of" = some (some (.ref f9))) (l9 : K.lookup f9 = some ⟨oc9, od9, .func (PySem.W.fnOf "thread_of" "thread_of" (defArgs s_thread_of) (defBody s_thread_of) (defScope s_thread_of) .none kV9 dc9 pm9 an9 cd9 ct9), sl9⟩) (c9 : PySem.W.codeIn K cd9 "thread_of" = true) (k9 : PySem.W.keepIn K (.ref f9) = true)
    {f10 : Addr} {od10 an10 : Option Addr} {sl10 : Array (Option Value)} {oc10 kV10 dc10 pm10 cd10 ct10 : Value}
    (a10 : PySem.W.nsIn K mainGlobals "threads_of" = some (some (.ref f10))) (l10 : K.lookup f10 = some ⟨oc10, od10, .func (PySem.W.fnOf "threads_of" "threads_of" (defArgs s_threads_of) (defBody s_threads_of) (defScope s_threads_of) .none kV10 dc10 pm10 an10 cd10 ct10), sl10⟩) (c10 : PySem.W.codeIn K cd10 "threads_of" = true) (k10 : PySem.W.keepIn K (.ref f10) = true)
    {f11 : Addr} {od11 an11 : Option Addr} {sl11 : Array (Option Value)} {oc11 kV11 dc11 pm11 cd11 ct11 : Value}
    (a11 : PySem.W.nsIn K mainGlobals "made_of" = some (some (.ref f11))) (l11 : K.lookup f11 = some ⟨oc11, od11, .func (PySem.W.fnOf "made_of" "made_of" (defArgs s_made_of) (defBody s_made_of) (defScope s_made_of) .none kV11 dc11 pm11 an11 cd11 ct11), sl11⟩) (c11 : PySem.W.codeIn K cd11 "made_of" = true) (k11 : PySem.W.keepIn K (.ref f11) = true)
    {f12 : Addr} {od12 an12 : Option Addr} {sl12 : Array (Option Value)} {oc12 kV12 dc12 pm12 cd12 ct12 : Value}
    (a12 : PySem.W.nsIn K mainGlobals "strokes_between_middles" = some (some (.ref f12))) (l12 : K.lookup f12 = some ⟨oc12, od12, .func (PySem.W.fnOf "strokes_between_middles" "strokes_between_middles" (defArgs s_strokes_between_middles) (defBody s_strokes_between_middles) (defScope s_strokes_between_middles) .none kV12 dc12 pm12 an12 cd12 ct12), sl12⟩) (c12 : PySem.W.codeIn K cd12 "strokes_between_middles" = true) (k12 : PySem.W.keepIn K (.ref f12) = true)
    {f13 : Addr} {od13 an13 : Option Addr} {sl13 : Array (Option Value)} {oc13 kV13 dc13 pm13 cd13 ct13 : Value}
    (a13 : PySem.W.nsIn K mainGlobals "brought_to" = some (some (.ref f13))) (l13 : K.lookup f13 = some ⟨oc13, od13, .func (PySem.W.fnOf "brought_to" "brought_to" (defArgs s_brought_to) (defBody s_brought_to) (defScope s_brought_to) .none kV13 dc13 pm13 an13 cd13 ct13), sl13⟩) (c13 : PySem.W.codeIn K cd13 "brought_to" = true) (k13 : PySem.W.keepIn K (.ref f13) = true)
    {f14 : Addr} {od14 an14 : Option Addr} {sl14 : Array (Option Value)} {oc14 kV14 dc14 pm14 cd14 ct14 : Value}
    (a14 : PySem.W.nsIn K mainGlobals "_law_hand" = some (some (.ref f14))) (l14 : K.lookup f14 = some ⟨oc14, od14, .func (PySem.W.fnOf "_law_hand" "_law_hand" (defArgs s_l_hand) (defBody s_l_hand) (defScope s_l_hand) .none kV14 dc14 pm14 an14 cd14 ct14), sl14⟩) (c14 : PySem.W.codeIn K cd14 "_law_hand" = true) (k14 : PySem.W.keepIn K (.ref f14) = true)
    {f15 : Addr} {od15 an15 : Option Addr} {sl15 : Array (Option Value)} {oc15 kV15 dc15 pm15 cd15 ct15 : Value}
    (a15 : PySem.W.nsIn K mainGlobals "_law_next" = some (some (.ref f15))) (l15 : K.lookup f15 = some ⟨oc15, od15, .func (PySem.W.fnOf "_law_next" "_law_next" (defArgs s_l_next) (defBody s_l_next) (defScope s_l_next) .none kV15 dc15 pm15 an15 cd15 ct15), sl15⟩) (c15 : PySem.W.codeIn K cd15 "_law_next" = true) (k15 : PySem.W.keepIn K (.ref f15) = true)
    {f16 : Addr} {od16 an16 : Option Addr} {sl16 : Array (Option Value)} {oc16 kV16 dc16 pm16 cd16 ct16 : Value}
    (a16 : PySem.W.nsIn K mainGlobals "_law_take" = some (some (.ref f16))) (l16 : K.lookup f16 = some ⟨oc16, od16, .func (PySem.W.fnOf "_law_take" "_law_take" (defArgs s_l_take) (defBody s_l_take) (defScope s_l_take) .none kV16 dc16 pm16 an16 cd16 ct16), sl16⟩) (c16 : PySem.W.codeIn K cd16 "_law_take" = true) (k16 : PySem.W.keepIn K (.ref f16) = true)
    {f17 : Addr} {od17 an17 : Option Addr} {sl17 : Array (Option Value)} {oc17 kV17 dc17 pm17 cd17 ct17 : Value}
    (a17 : PySem.W.nsIn K mainGlobals "_law_draw" = some (some (.ref f17))) (l17 : K.lookup f17 = some ⟨oc17, od17, .func (PySem.W.fnOf "_law_draw" "_law_draw" (defArgs s_l_draw) (defBody s_l_draw) (defScope s_l_draw) .none kV17 dc17 pm17 an17 cd17 ct17), sl17⟩) (c17 : PySem.W.codeIn K cd17 "_law_draw" = true) (k17 : PySem.W.keepIn K (.ref f17) = true)
    {f18 : Addr} {od18 an18 : Option Addr} {sl18 : Array (Option Value)} {oc18 kV18 dc18 pm18 cd18 ct18 : Value}
    (a18 : PySem.W.nsIn K mainGlobals "_law_divisor" = some (some (.ref f18))) (l18 : K.lookup f18 = some ⟨oc18, od18, .func (PySem.W.fnOf "_law_divisor" "_law_divisor" (defArgs s_l_divisor) (defBody s_l_divisor) (defScope s_l_divisor) .none kV18 dc18 pm18 an18 cd18 ct18), sl18⟩) (c18 : PySem.W.codeIn K cd18 "_law_divisor" = true) (k18 : PySem.W.keepIn K (.ref f18) = true)
    {f19 : Addr} {od19 an19 : Option Addr} {sl19 : Array (Option Value)} {oc19 kV19 dc19 pm19 cd19 ct19 : Value}
    (a19 : PySem.W.nsIn K mainGlobals "_law_point" = some (some (.ref f19))) (l19 : K.lookup f19 = some ⟨oc19, od19, .func (PySem.W.fnOf "_law_point" "_law_point" (defArgs s_l_point) (defBody s_l_point) (defScope s_l_point) .none kV19 dc19 pm19 an19 cd19 ct19), sl19⟩) (c19 : PySem.W.codeIn K cd19 "_law_point" = true) (k19 : PySem.W.keepIn K (.ref f19) = true)
    {f20 : Addr} {od20 an20 : Option Addr} {sl20 : Array (Option Value)} {oc20 kV20 dc20 pm20 cd20 ct20 : Value}
    (a20 : PySem.W.nsIn K mainGlobals "_law_fraction" = some (some (.ref f20))) (l20 : K.lookup f20 = some ⟨oc20, od20, .func (PySem.W.fnOf "_law_fraction" "_law_fraction" (defArgs s_l_fraction) (defBody s_l_fraction) (defScope s_l_fraction) .none kV20 dc20 pm20 an20 cd20 ct20), sl20⟩) (c20 : PySem.W.codeIn K cd20 "_law_fraction" = true) (k20 : PySem.W.keepIn K (.ref f20) = true)
    {f21 : Addr} {od21 an21 : Option Addr} {sl21 : Array (Option Value)} {oc21 kV21 dc21 pm21 cd21 ct21 : Value}
    (a21 : PySem.W.nsIn K mainGlobals "_law_whole" = some (some (.ref f21))) (l21 : K.lookup f21 = some ⟨oc21, od21, .func (PySem.W.fnOf "_law_whole" "_law_whole" (defArgs s_l_whole) (defBody s_l_whole) (defScope s_l_whole) .none kV21 dc21 pm21 an21 cd21 ct21), sl21⟩) (c21 : PySem.W.codeIn K cd21 "_law_whole" = true) (k21 : PySem.W.keepIn K (.ref f21) = true)
    {f22 : Addr} {od22 an22 : Option Addr} {sl22 : Array (Option Value)} {oc22 kV22 dc22 pm22 cd22 ct22 : Value}
    (a22 : PySem.W.nsIn K mainGlobals "_law_wholes" = some (some (.ref f22))) (l22 : K.lookup f22 = some ⟨oc22, od22, .func (PySem.W.fnOf "_law_wholes" "_law_wholes" (defArgs s_l_wholes) (defBody s_l_wholes) (defScope s_l_wholes) .none kV22 dc22 pm22 an22 cd22 ct22), sl22⟩) (c22 : PySem.W.codeIn K cd22 "_law_wholes" = true) (k22 : PySem.W.keepIn K (.ref f22) = true)
    {f23 : Addr} {od23 an23 : Option Addr} {sl23 : Array (Option Value)} {oc23 kV23 dc23 pm23 cd23 ct23 : Value}
    (a23 : PySem.W.nsIn K mainGlobals "_law_inside" = some (some (.ref f23))) (l23 : K.lookup f23 = some ⟨oc23, od23, .func (PySem.W.fnOf "_law_inside" "_law_inside" (defArgs s_l_inside) (defBody s_l_inside) (defScope s_l_inside) .none kV23 dc23 pm23 an23 cd23 ct23), sl23⟩) (c23 : PySem.W.codeIn K cd23 "_law_inside" = true) (k23 : PySem.W.keepIn K (.ref f23) = true)
    {f24 : Addr} {od24 an24 : Option Addr} {sl24 : Array (Option Value)} {oc24 kV24 dc24 pm24 cd24 ct24 : Value}
    (a24 : PySem.W.nsIn K mainGlobals "_law_ask" = some (some (.ref f24))) (l24 : K.lookup f24 = some ⟨oc24, od24, .func (PySem.W.fnOf "_law_ask" "_law_ask" (defArgs s_l_ask) (defBody s_l_ask) (defScope s_l_ask) .none kV24 dc24 pm24 an24 cd24 ct24), sl24⟩) (c24 : PySem.W.codeIn K cd24 "_law_ask" = true) (k24 : PySem.W.keepIn K (.ref f24) = true)
    {f25 : Addr} {od25 an25 : Option Addr} {sl25 : Array (Option Value)} {oc25 kV25 dc25 pm25 cd25 ct25 : Value}
    (a25 : PySem.W.nsIn K mainGlobals "_law_refused" = some (some (.ref f25))) (l25 : K.lookup f25 = some ⟨oc25, od25, .func (PySem.W.fnOf "_law_refused" "_law_refused" (defArgs s_l_refused) (defBody s_l_refused) (defScope s_l_refused) .none kV25 dc25 pm25 an25 cd25 ct25), sl25⟩) (c25 : PySem.W.codeIn K cd25 "_law_refused" = true) (k25 : PySem.W.keepIn K (.ref f25) = true)
    {f26 : Addr} {od26 an26 : Option Addr} {sl26 : Array (Option Value)} {oc26 kV26 dc26 pm26 cd26 ct26 : Value}
    (a26 : PySem.W.nsIn K mainGlobals "_law_place" = some (some (.ref f26))) (l26 : K.lookup f26 = some ⟨oc26, od26, .func (PySem.W.fnOf "_law_place" "_law_place" (defArgs s_l_place) (defBody s_l_place) (defScope s_l_place) .none kV26 dc26 pm26 an26 cd26 ct26), sl26⟩) (c26 : PySem.W.codeIn K cd26 "_law_place" = true) (k26 : PySem.W.keepIn K (.ref f26) = true)
    {f27 : Addr} {od27 an27 : Option Addr} {sl27 : Array (Option Value)} {oc27 kV27 dc27 pm27 cd27 ct27 : Value}
    (a27 : PySem.W.nsIn K mainGlobals "law" = some (some (.ref f27))) (l27 : K.lookup f27 = some ⟨oc27, od27, .func (PySem.W.fnOf "law" "law" (defArgs s_law) (defBody s_law) (defScope s_law) .none kV27 dc27 pm27 an27 cd27 ct27), sl27⟩) (c27 : PySem.W.codeIn K cd27 "law" = true) (k27 : PySem.W.keepIn K (.ref f27) = true)
    (z0 : PySem.W.nsIn K mainGlobals "ValueError" = some none)
    (z1 : PySem.W.nsIn K mainGlobals "abs" = some none)
    (z2 : PySem.W.nsIn K mainGlobals "bool" = some none)
    (z3 : PySem.W.nsIn K mainGlobals "int" = some none)
    (z4 : PySem.W.nsIn K mainGlobals "isinstance" = some none)
    (z5 : PySem.W.nsIn K mainGlobals "len" = some none)
    (z6 : PySem.W.nsIn K mainGlobals "list" = some none)
    (z7 : PySem.W.nsIn K mainGlobals "range" = some none)
    (z8 : PySem.W.nsIn K mainGlobals "sorted" = some none)
    (z9 : PySem.W.nsIn K mainGlobals "tuple" = some none)
    (z10 : PySem.W.nsIn K mainGlobals "zip" = some none)
    (w0 : exK K g0 = true)
    (w1 : exC K g0 = true)
    (w2 : PySem.W.exmOne K (.ref g0) (.ref g0) = some true)
    (w3 : PySem.W.kitAny K (.ref g0) [.ref g2, .ref g3, .ref g4] = some false)
    (w4 : PySem.W.kitOne K (.ref g0) (.ref g1) = some true)
    (w5 : PySem.W.kitOne K (.ref g0) (.type "ValueError") = some true)
    : ∃ fd : FuncData, (∀ (s : Shared) (v : Value), BindsTo s fd ⟨[v], []⟩ [("_law_script", v)]) ∧ ∀ base : Heap, K.In base → base.Ns mainGlobals mg → FnOk l.prog w K mg base CX0 10 fa fd ["_law_script"] (sp_law K) := by
  have e := hfa.symm.trans (PySem.W.mg_of X G a27)
  cases e
  have F0 := fun_mk (st := s_is_ahead) l0 c0 k0
  have b0 := F0.binds (ps := ["p", "q"]) fun _ _ _ _ _ _ us hl => match us, hl with | [_, _], _ => rfl
  have F1 := fun_mk (st := s_divisor_of) l1 c1 k1
  have b1 := F1.binds (ps := ["one", "other"]) fun _ _ _ _ _ _ us hl => match us, hl with | [_, _], _ => rfl
  have F2 := fun_mk (st := s_point_by) l2 c2 k2
  have b2 := F2.binds (ps := ["a", "b", "c"]) fun _ _ _ _ _ _ us hl => match us, hl with | [_, _, _], _ => rfl
  have F3 := fun_mk (st := s_check_size) l3 c3 k3
  have b3 := F3.binds (ps := ["size"]) fun _ _ _ _ _ _ us hl => match us, hl with | [_], _ => rfl
  have F4 := fun_mk (st := s_nearest_to) l4 c4 k4
  have b4 := F4.binds (ps := ["top", "bottom"]) fun _ _ _ _ _ _ us hl => match us, hl with | [_, _], _ => rfl
  have F5 := fun_mk (st := s_cell_of) l5 c5 k5
  have b5 := F5.binds (ps := ["p", "size"]) fun _ _ _ _ _ _ us hl => match us, hl with | [_, _], _ => rfl
  have F6 := fun_mk (st := s_cell_middle) l6 c6 k6
  have b6 := F6.binds (ps := ["cell", "size"]) fun _ _ _ _ _ _ us hl => match us, hl with | [_, _], _ => rfl
  have F7 := fun_mk (st := s_meets_cell) l7 c7 k7
  have b7 := F7.binds (ps := ["p", "q", "cell", "size"]) fun _ _ _ _ _ _ us hl => match us, hl with | [_, _, _, _], _ => rfl
  have F8 := fun_mk (st := s_hot_cells) l8 c8 k8
  have b8 := F8.binds (ps := ["plan", "size"]) fun _ _ _ _ _ _ us hl => match us, hl with | [_, _], _ => rfl
  have F9 := fun_mk (st := s_thread_of) l9 c9 k9
  have b9 := F9.binds (ps := ["p", "q", "cells", "size"]) fun _ _ _ _ _ _ us hl => match us, hl with | [_, _, _, _], _ => rfl
  have F10 := fun_mk (st := s_threads_of) l10 c10 k10
  have b10 := F10.binds (ps := ["plan", "size"]) fun _ _ _ _ _ _ us hl => match us, hl with | [_, _], _ => rfl
  have F11 := fun_mk (st := s_made_of) l11 c11 k11
  have b11 := F11.binds (ps := ["many", "strokes"]) fun _ _ _ _ _ _ us hl => match us, hl with | [_, _], _ => rfl
  have F12 := fun_mk (st := s_strokes_between_middles) l12 c12 k12
  have b12 := F12.binds (ps := ["plan", "size"]) fun _ _ _ _ _ _ us hl => match us, hl with | [_, _], _ => rfl
  have F13 := fun_mk (st := s_brought_to) l13 c13 k13
  have b13 := F13.binds (ps := ["plan", "size"]) fun _ _ _ _ _ _ us hl => match us, hl with | [_, _], _ => rfl
  have F14 := fun_mk (st := s_l_hand) l14 c14 k14
  have b14 := F14.binds (ps := ["_law_script"]) fun _ _ _ _ _ _ us hl => match us, hl with | [_], _ => rfl
  have F15 := fun_mk (st := s_l_next) l15 c15 k15
  have b15 := F15.binds (ps := ["_law_hand_here"]) fun _ _ _ _ _ _ us hl => match us, hl with | [_], _ => rfl
  have F16 := fun_mk (st := s_l_take) l16 c16 k16
  have b16 := F16.binds (ps := ["_law_hand_here"]) fun _ _ _ _ _ _ us hl => match us, hl with | [_], _ => rfl
  have F17 := fun_mk (st := s_l_draw) l17 c17 k17
  have b17 := F17.binds (ps := ["_law_hand_here", "_law_many"]) fun _ _ _ _ _ _ us hl => match us, hl with | [_, _], _ => rfl
  have F18 := fun_mk (st := s_l_divisor) l18 c18 k18
  have b18 := F18.binds (ps := ["_law_one", "_law_other"]) fun _ _ _ _ _ _ us hl => match us, hl with | [_, _], _ => rfl
  have F19 := fun_mk (st := s_l_point) l19 c19 k19
  have b19 := F19.binds (ps := ["_law_a", "_law_b", "_law_c"]) fun _ _ _ _ _ _ us hl => match us, hl with | [_, _, _], _ => rfl
  have F20 := fun_mk (st := s_l_fraction) l20 c20 k20
  have b20 := F20.binds (ps := ["_law_top", "_law_bottom"]) fun _ _ _ _ _ _ us hl => match us, hl with | [_, _], _ => rfl
  have F21 := fun_mk (st := s_l_whole) l21 c21 k21
  have b21 := F21.binds (ps := ["_law_thing"]) fun _ _ _ _ _ _ us hl => match us, hl with | [_], _ => rfl
  have F22 := fun_mk (st := s_l_wholes) l22 c22 k22
  have b22 := F22.binds (ps := ["_law_thing", "_law_many"]) fun _ _ _ _ _ _ us hl => match us, hl with | [_, _], _ => rfl
  have F23 := fun_mk (st := s_l_inside) l23 c23 k23
  have b23 := F23.binds (ps := ["_law_p", "_law_cell", "_law_size"]) fun _ _ _ _ _ _ us hl => match us, hl with | [_, _, _], _ => rfl
  have F24 := fun_mk (st := s_l_ask) l24 c24 k24
  have b24 := F24.binds (ps := ["_law_way", "_law_size", "_law_plan", "_law_many"]) fun _ _ _ _ _ _ us hl => match us, hl with | [_, _, _, _], _ => rfl
  have F25 := fun_mk (st := s_l_refused) l25 c25 k25
  have b25 := F25.binds (ps := ["_law_way", "_law_size", "_law_plan", "_law_many"]) fun _ _ _ _ _ _ us hl => match us, hl with | [_, _, _, _], _ => rfl
  have F26 := fun_mk (st := s_l_place) l26 c26 k26
  have b26 := F26.binds (ps := ["_law_hand_here", "_law_cell", "_law_size"]) fun _ _ _ _ _ _ us hl => match us, hl with | [_, _, _], _ => rfl
  have F27 := fun_mk (st := s_law) l27 c27 k27
  have b27 := F27.binds (ps := ["_law_script"]) fun _ _ _ _ _ _ us hl => match us, hl with | [_], _ => rfl
  have T : Txt K mg { f_is_ahead := f0, d_is_ahead := _, f_divisor_of := f1, d_divisor_of := _, f_point_by := f2, d_point_by := _, f_check_size := f3, d_check_size := _, f_nearest_to := f4, d_nearest_to := _, f_cell_of := f5, d_cell_of := _, f_cell_middle := f6, d_cell_middle := _, f_meets_cell := f7, d_meets_cell := _, f_hot_cells := f8, d_hot_cells := _, f_thread_of := f9, d_thread_of := _, f_threads_of := f10, d_threads_of := _, f_made_of := f11, d_made_of := _, f_strokes_between_middles := f12, d_strokes_between_middles := _, f_brought_to := f13, d_brought_to := _, f_l_hand := f14, d_l_hand := _, f_l_next := f15, d_l_next := _, f_l_take := f16, d_l_take := _, f_l_draw := f17, d_l_draw := _, f_l_divisor := f18, d_l_divisor := _, f_l_point := f19, d_l_point := _, f_l_fraction := f20, d_l_fraction := _, f_l_whole := f21, d_l_whole := _, f_l_wholes := f22, d_l_wholes := _, f_l_inside := f23, d_l_inside := _, f_l_ask := f24, d_l_ask := _, f_l_refused := f25, d_l_refused := _, f_l_place := f26, d_l_place := _, f_law := fa, d_law := _, c_NoSize := g0, c_PlyError := g1, c_NoNumber := g2, c_BadPlan := g3, c_NoPoint := g4 } := { is_ahead := ⟨F0, b0, PySem.W.mg_of X G a0⟩, divisor_of := ⟨F1, b1, PySem.W.mg_of X G a1⟩, point_by := ⟨F2, b2, PySem.W.mg_of X G a2⟩, check_size := ⟨F3, b3, PySem.W.mg_of X G a3⟩, nearest_to := ⟨F4, b4, PySem.W.mg_of X G a4⟩, cell_of := ⟨F5, b5, PySem.W.mg_of X G a5⟩, cell_middle := ⟨F6, b6, PySem.W.mg_of X G a6⟩, meets_cell := ⟨F7, b7, PySem.W.mg_of X G a7⟩, hot_cells := ⟨F8, b8, PySem.W.mg_of X G a8⟩, thread_of := ⟨F9, b9, PySem.W.mg_of X G a9⟩, threads_of := ⟨F10, b10, PySem.W.mg_of X G a10⟩, made_of := ⟨F11, b11, PySem.W.mg_of X G a11⟩, strokes_between_middles := ⟨F12, b12, PySem.W.mg_of X G a12⟩, brought_to := ⟨F13, b13, PySem.W.mg_of X G a13⟩, l_hand := ⟨F14, b14, PySem.W.mg_of X G a14⟩, l_next := ⟨F15, b15, PySem.W.mg_of X G a15⟩, l_take := ⟨F16, b16, PySem.W.mg_of X G a16⟩, l_draw := ⟨F17, b17, PySem.W.mg_of X G a17⟩, l_divisor := ⟨F18, b18, PySem.W.mg_of X G a18⟩, l_point := ⟨F19, b19, PySem.W.mg_of X G a19⟩, l_fraction := ⟨F20, b20, PySem.W.mg_of X G a20⟩, l_whole := ⟨F21, b21, PySem.W.mg_of X G a21⟩, l_wholes := ⟨F22, b22, PySem.W.mg_of X G a22⟩, l_inside := ⟨F23, b23, PySem.W.mg_of X G a23⟩, l_ask := ⟨F24, b24, PySem.W.mg_of X G a24⟩, l_refused := ⟨F25, b25, PySem.W.mg_of X G a25⟩, l_place := ⟨F26, b26, PySem.W.mg_of X G a26⟩, law := ⟨F27, b27, PySem.W.mg_of X G a27⟩, b_ValueError := PySem.W.mg_none_of X G z0, b_abs := PySem.W.mg_none_of X G z1, b_bool := PySem.W.mg_none_of X G z2, b_int := PySem.W.mg_none_of X G z3, b_isinstance := PySem.W.mg_none_of X G z4, b_len := PySem.W.mg_none_of X G z5, b_list := PySem.W.mg_none_of X G z6, b_range := PySem.W.mg_none_of X G z7, b_sorted := PySem.W.mg_none_of X G z8, b_tuple := PySem.W.mg_none_of X G z9, b_zip := PySem.W.mg_none_of X G z10, m_NoSize := PySem.W.mg_of X G u0, m_PlyError := PySem.W.mg_of X G u1, m_NoNumber := PySem.W.mg_of X G u2, m_BadPlan := PySem.W.mg_of X G u3, m_NoPoint := PySem.W.mg_of X G u4, e_NoSize := w0, x_NoSize := w1, m1 := w2, i0 := w3, i1 := w4, i2 := w5 }
  exact ⟨PySem.W.fnOf "law" "law" (defArgs s_law) (defBody s_law) (defScope s_law) .none kV27 dc27 pm27 an27 cd27 ct27, fun s v => .of_eq rfl, fun base _ _ => ok_law T⟩
theorem walk {l : PySem.W.OpenLaw} {q : Program} {loose : List Str} {XP : (Str → Option Value) → Heap → Prop} {YP : World → Heap → Prop} {d : DefRec} {K : Params → PySem.W.Frag} (hn : l.most = some 63) (hdf : d.params.defaults = [])
    (hY : ∀ (w : World) (h : Heap), YP w h → (K w.params).In h)
    (F : ∀ (w : World) (mg : Str → Option Value) (fa : Addr) (h : Heap), (K w.params).In h → h.Ns mainGlobals mg → mg d.name = some (.ref fa) →
      ∃ fd : FuncData, (∀ (s : Shared) (u : Value), BindsTo s fd ⟨[u], []⟩ [("_law_script", u)]) ∧ ∀ base : Heap, (K w.params).In base → base.Ns mainGlobals mg → FnOk l.prog w (K w.params) mg base CX0 10 fa fd ["_law_script"] (sp_law (K w.params))) :
    PySem.W.WalkO q loose XP YP l.row.toRowW d [] (fun f vs => PySem.call f vs) :=
  L2.walk_of (n := 63) (k := 10) (x := "_law_script") (CX := fun _ => CX0) (sp := fun w => sp_law (K w.params)) hn (by decide) hdf ⟨rfl, by decide, by decide⟩ hY F (fun _ _ a ns hl _ hS => ⟨a, ns, rfl, hS, hl, fun _ => rfl⟩) fun _ _ _ _ _ z => z
end My
def PySem.W.Fast.tw5576680727733764558 : Nat := 0
def PySem.W.Fast.tw6379556391130952903 : Nat := 0
def PySem.W.Fast.tw7096418452795280147 : Nat := 0
def PySem.W.Fast.tw4408217924669134648 : Nat := 0
def PySem.W.Fast.tw9366188329894384354 : Nat := 0
def PySem.W.Fast.tw9867211828437013627 : Nat := 0
def PySem.W.Fast.tw11506101978650732763 : Nat := 0
def PySem.W.Fast.tw14687681351713247765 : Nat := 0
def PySem.W.Fast.tw1095037860861626959 : Nat := 0
def PySem.W.Fast.tw15247776445727247005 : Nat := 0
def PySem.W.Fast.tw6544689867758436247 : Nat := 0
def PySem.W.Fast.tw10453780011944362200 : Nat := 0
def PySem.W.Fast.tw14838685350961473826 : Nat := 0
def PySem.W.Fast.tw13255920373054982565 : Nat := 0
def PySem.W.Fast.tw12215808221728284856 : Nat := 0
def PySem.W.Fast.tw4956196452270432496 : Nat := 0
def PySem.W.Fast.tw2454125473458527002 : Nat := 0
def PySem.W.Fast.tw13616077258527680326 : Nat := 0
def PySem.W.Fast.tw4013152898535745721 : Nat := 0
def PySem.W.Fast.tw13708296516780726938 : Nat := 0
def PySem.W.Fast.tw11035757511237345863 : Nat := 0
def PySem.W.Fast.tw11462668722693738241 : Nat := 0
open PySem PySem.W PyProof.Rows
set_option maxRecDepth 100000 in
set_option maxHeartbeats 0 in
theorem PySem.Challenge.cw_plymap_k81_cells_and_middles_holds : PySem.Challenge.rw_plymap_k81_cells_and_middles.Holds := by
  w_on; o_law; k_head; (case hw => w_witness2)
  k_fill
  refine My.walk (l := PySem.Challenge.rw_plymap_k81_cells_and_middles) rfl rfl (fun w h Y => PySem.W.km_in_of Y) ?F
  case F =>
    intro w mg fa h KX G hmg
    refine' My.all_mk KX G hmg ?u0 ?u1 ?u2 ?u3 ?u4 ?a0 ?l0 ?c0 ?k0 ?a1 ?l1 ?c1 ?k1 ?a2 ?l2 ?c2 ?k2 ?a3 ?l3 ?c3 ?k3 ?a4 ?l4 ?c4 ?k4 ?a5 ?l5 ?c5 ?k5 ?a6 ?l6 ?c6 ?k6 ?a7 ?l7 ?c7 ?k7 ?a8 ?l8 ?c8 ?k8 ?a9 ?l9 ?c9 ?k9 ?a10 ?l10 ?c10 ?k10 ?a11 ?l11 ?c11 ?k11 ?a12 ?l12 ?c12 ?k12 ?a13 ?l13 ?c13 ?k13 ?a14 ?l14 ?c14 ?k14 ?a15 ?l15 ?c15 ?k15 ?a16 ?l16 ?c16 ?k16 ?a17 ?l17 ?c17 ?k17 ?a18 ?l18 ?c18 ?k18 ?a19 ?l19 ?c19 ?k19 ?a20 ?l20 ?c20 ?k20 ?a21 ?l21 ?c21 ?k21 ?a22 ?l22 ?c22 ?k22 ?a23 ?l23 ?c23 ?k23 ?a24 ?l24 ?c24 ?k24 ?a25 ?l25 ?c25 ?k25 ?a26 ?l26 ?c26 ?k26 ?a27 ?l27 ?c27 ?k27 ?z0 ?z1 ?z2 ?z3 ?z4 ?z5 ?z6 ?z7 ?z8 ?z9 ?z10 ?w0 ?w1 ?w2 ?w3 ?w4 ?w5
    (case u0 => k_is)
    (case u1 => k_is)
    (case u2 => k_is)
    (case u3 => k_is)
    (case u4 => k_is)
    (case a0 => k_is)
    (case l0 => k_is)
    (case c0 => k_is)
    (case k0 => k_is)
    (case a1 => k_is)
    (case l1 => k_is)
    (case c1 => k_is)
    (case k1 => k_is)
    (case a2 => k_is)
    (case l2 => k_is)
    (case c2 => k_is)
    (case k2 => k_is)
    (case a3 => k_is)
    (case l3 => k_is)
    (case c3 => k_is)
    (case k3 => k_is)
    (case a4 => k_is)
    (case l4 => k_is)
    (case c4 => k_is)
    (case k4 => k_is)
    (case a5 => k_is)
    (case l5 => k_is)
    (case c5 => k_is)
    (case k5 => k_is)
    (case a6 => k_is)
    (case l6 => k_is)
    (case c6 => k_is)
    (case k6 => k_is)
    (case a7 => k_is)
    (case l7 => k_is)
    (case c7 => k_is)
    (case k7 => k_is)
    (case a8 => k_is)
    (case l8 => k_is)
    (case c8 => k_is)
    (case k8 => k_is)
    (case a9 => k_is)
    (case l9 => k_is)
    (case c9 => k_is)
    (case k9 => k_is)
    (case a10 => k_is)
    (case l10 => k_is)
    (case c10 => k_is)
    (case k10 => k_is)
    (case a11 => k_is)
    (case l11 => k_is)
    (case c11 => k_is)
    (case k11 => k_is)
    (case a12 => k_is)
    (case l12 => k_is)
    (case c12 => k_is)
    (case k12 => k_is)
    (case a13 => k_is)
    (case l13 => k_is)
    (case c13 => k_is)
    (case k13 => k_is)
    (case a14 => k_is)
    (case l14 => k_is)
    (case c14 => k_is)
    (case k14 => k_is)
    (case a15 => k_is)
    (case l15 => k_is)
    (case c15 => k_is)
    (case k15 => k_is)
    (case a16 => k_is)
    (case l16 => k_is)
    (case c16 => k_is)
    (case k16 => k_is)
    (case a17 => k_is)
    (case l17 => k_is)
    (case c17 => k_is)
    (case k17 => k_is)
    (case a18 => k_is)
    (case l18 => k_is)
    (case c18 => k_is)
    (case k18 => k_is)
    (case a19 => k_is)
    (case l19 => k_is)
    (case c19 => k_is)
    (case k19 => k_is)
    (case a20 => k_is)
    (case l20 => k_is)
    (case c20 => k_is)
    (case k20 => k_is)
    (case a21 => k_is)
    (case l21 => k_is)
    (case c21 => k_is)
    (case k21 => k_is)
    (case a22 => k_is)
    (case l22 => k_is)
    (case c22 => k_is)
    (case k22 => k_is)
    (case a23 => k_is)
    (case l23 => k_is)
    (case c23 => k_is)
    (case k23 => k_is)
    (case a24 => k_is)
    (case l24 => k_is)
    (case c24 => k_is)
    (case k24 => k_is)
    (case a25 => k_is)
    (case l25 => k_is)
    (case c25 => k_is)
    (case k25 => k_is)
    (case a26 => k_is)
    (case l26 => k_is)
    (case c26 => k_is)
    (case k26 => k_is)
    (case a27 => k_is)
    (case l27 => k_is)
    (case c27 => k_is)
    (case k27 => k_is)
    (case z0 => k_is)
    (case z1 => k_is)
    (case z2 => k_is)
    (case z3 => k_is)
    (case z4 => k_is)
    (case z5 => k_is)
    (case z6 => k_is)
    (case z7 => k_is)
    (case z8 => k_is)
    (case z9 => k_is)
    (case z10 => k_is)
    (case w0 => kernel_rfl)
    (case w1 => kernel_rfl)
    (case w2 => kernel_rfl)
    (case w3 => kernel_rfl)
    (case w4 => kernel_rfl)
    (case w5 => kernel_rfl)
