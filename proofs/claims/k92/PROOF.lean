import PyProof.Rows.All
import Wide.All
import OpenK.AllK
import Wide.FinOn
import Lean
import PyProof.EqAt
import PyProof.EqKinds
import PyProof.TupleCall
import PyProof.ZipIter
import PyProof.TupleIter
import PyProof.AttrMiss
import PyProof.TupleKey
import PyProof.DictFindH
import KE.KDictOf
import PyProof.DictIter
import PyProof.DictWalks
import PyProof.ListRange
import KE.KDictList
import PyProof.CompUse
import KE.KTryMore
import PyProof.WalkInts
import KE.KIntText
import PyProof.StrLawsTight
import PyProof.Rows.StrIntSpec
import PySem.Challenge.RW_plymap_k92_rings
set_option Elab.async false
set_option linter.all false
set_option maxRecDepth 100000
/-! THE HAND LAYER, for ints, bools, texts, own classes, LISTS and tuples (index, slices, in, append, pop ..), calls, loops. Paste it whole ahead of your own text; what your proof does not reach may be deleted. -/
namespace L2
open PySem PySem.Spec PyProof.Rows

/-- a key: an int or a str -/
abbrev Key := Sum Int Str
def keyIs : Key → Value → Bool
  | .inl k, v => Value.isInt k v
  | .inr x, v => Value.isStrOf x v
def keyH (w : World) : Key → Int
  | .inl k => hashInt k
  | .inr x => hashStr w x
theorem keyIs_shape : ∀ {k : Key} {v : Value}, keyIs k v = true → (∃ i t, k = Sum.inl i ∧ v = Value.int i t) ∨ (∃ x t, k = Sum.inr x ∧ v = Value.str x t)
  | .inl i, v, h => by
    obtain ⟨t, e⟩ := Value.isInt_shape (k := i) (v := v) h
    exact .inl ⟨i, t, rfl, e⟩
  | .inr x, v, h => by
    obtain ⟨t, e⟩ := Value.isStrOf_shape (x := x) (v := v) h
    exact .inr ⟨x, t, rfl, e⟩
theorem key_ll (a b : Int) : decide ((Sum.inl a : Key) = Sum.inl b) = (a == b) := by
  by_cases e : a = b
  · subst e; simp
  · have h : ¬ (Sum.inl a : Key) = Sum.inl b := fun q => e (Sum.inl.inj q)
    rw [decide_eq_false h]
    exact (beq_eq_false_iff_ne.mpr e).symm
theorem key_rr (a b : Str) : decide ((Sum.inr a : Key) = Sum.inr b) = decide (a = b) := by
  by_cases e : a = b
  · subst e; simp
  · have h : ¬ (Sum.inr a : Key) = Sum.inr b := fun q => e (Sum.inr.inj q)
    rw [decide_eq_false h, decide_eq_false e]
theorem key_lr (a : Int) (b : Str) : decide ((Sum.inl a : Key) = Sum.inr b) = false := decide_eq_false (fun q => nomatch q)
theorem key_rl (a : Str) (b : Int) : decide ((Sum.inr a : Key) = Sum.inl b) = false := decide_eq_false (fun q => nomatch q)

def mixKind (prog : Program) (w : World) : PySem.KeyKind prog w Key where
  is := keyIs
  hash := keyH w
  inj := fun v a b ha hb => by
    rcases keyIs_shape ha with ⟨i, t, rfl, rfl⟩ | ⟨x, t, rfl, rfl⟩
    · rcases keyIs_shape hb with ⟨j, u, rfl, e⟩ | ⟨y, u, rfl, e⟩
      · injection e with e1 _; rw [e1]
      · exact nomatch e
    · rcases keyIs_shape hb with ⟨j, u, rfl, e⟩ | ⟨y, u, rfl, e⟩
      · exact nomatch e
      · injection e with e1 _; rw [e1]
  byValue := fun k v h => by
    rcases keyIs_shape h with ⟨i, t, rfl, rfl⟩ | ⟨x, t, rfl, rfl⟩ <;> rfl
  pyHash := fun hv h => by
    rcases keyIs_shape hv with ⟨i, t, rfl, rfl⟩ | ⟨x, t, rfl, rfl⟩
    · exact wpAny_pyHash_int h
    · exact wpAny_pyHash_str h
  eqBool := fun hu hv h => by
    rcases keyIs_shape hu with ⟨i, t, rfl, rfl⟩ | ⟨x, t, rfl, rfl⟩
    · rcases keyIs_shape hv with ⟨j, u, rfl, rfl⟩ | ⟨y, u, rfl, rfl⟩
      · rw [key_ll] at h; exact wpAny_eqBool_int h
      · rw [key_lr] at h; exact SeqAt.EqAt.int_str i t y u _ _ _ _ h
    · rcases keyIs_shape hv with ⟨j, u, rfl, rfl⟩ | ⟨y, u, rfl, rfl⟩
      · rw [key_rl] at h; exact SeqAt.EqAt.str_int x t j u _ _ _ _ h
      · rw [key_rr] at h; exact wpAny_eqBool_str h
  «strs» := fun k x t v h => by
    rcases keyIs_shape h with ⟨i, u, rfl, e⟩ | ⟨y, u, rfl, e⟩
    · exact nomatch e
    · injection e with e1 _
      subst e1
      cases v <;> rfl

end L2

namespace L2
open PySem PySem.Spec PyProof.Rows

/-- a value, without the heap -/
inductive V where
  | non | bl (b : Bool) | int (i : Int) | str (x : Str) | byt (b : Array UInt8) | flt (b : UInt64) | ref (a : Addr) | ty (n : String)
  deriving DecidableEq

def RelV : V → Value → Prop
  | .non, u => u = Value.none
  | .bl b, u => u = Value.bool b
  | .int i, u => ∃ t, u = Value.int i t
  | .str x, u => ∃ t, u = Value.str x t
  | .byt b, u => ∃ t, u = Value.bytes b t
  | .flt b, u => ∃ t, u = Value.float b t
  | .ref a, u => u = Value.ref a
  | .ty n, u => u = Value.type n

abbrev Vals : List V → List Value → Prop := Paired RelV
theorem Vals.length {xs : List V} {us : List Value} (r : Vals xs us) : xs.length = us.length := Paired.length r
theorem Vals.get : ∀ {xs : List V} {us : List Value} {i : Nat} {x : V}, Vals xs us → xs[i]? = some x → ∃ u, us[i]? = some u ∧ RelV x u
  | _, _, _, _, .nil, e => by simp at e
  | _, _, 0, _, .cons r _, e => by simp at e; subst e; exact ⟨_, rfl, r⟩
  | _, _, i + 1, x, .cons _ t, e => by
    obtain ⟨u, h1, h2⟩ := Vals.get (i := i) (x := x) t (by simpa using e)
    exact ⟨u, by simpa using h1, h2⟩
theorem Vals.set {x : V} {u : Value} (r : RelV x u) : ∀ {xs : List V} {us : List Value} (i : Nat), Vals xs us → Vals (xs.set i x) (us.set i u)
  | _, _, _, .nil => .nil
  | _, _, 0, .cons _ t => .cons r t
  | _, _, i + 1, .cons q t => .cons q (Vals.set r i t)
theorem Vals.append : ∀ {xs ys : List V} {us ws : List Value}, Vals xs us → Vals ys ws → Vals (xs ++ ys) (us ++ ws)
  | _, _, _, _, .nil, s => s
  | _, _, _, _, .cons r t, s => .cons r (Vals.append t s)
theorem Vals.take : ∀ {xs : List V} {us : List Value} (n : Nat), Vals xs us → Vals (xs.take n) (us.take n)
  | _, _, 0, _ => .nil
  | _, _, _ + 1, .nil => .nil
  | _, _, n + 1, .cons r t => .cons r (Vals.take n t)
theorem Vals.drop : ∀ {xs : List V} {us : List Value} (n : Nat), Vals xs us → Vals (xs.drop n) (us.drop n)
  | _, _, 0, r => r
  | _, _, _ + 1, .nil => .nil
  | _, _, n + 1, .cons _ t => Vals.drop n t

def RelO : Option V → Option Value → Prop
  | some v, some u => RelV v u
  | none, none => True
  | _, _ => False
def KV {κ : Type} : List (κ × V) → List (κ × Value) → Prop := Paired fun (p : κ × V) (q : κ × Value) => p.1 = q.1 ∧ RelV p.2 q.2

/-- a key of a dict (00_mix): an int or a text -/
def kV : Key → V
  | .inl i => .int i
  | .inr x => .str x

/-- what stands at a tracked address -/
inductive HO where
  /-- a list -/
  | lst (xs : List V)
  /-- a tuple (never changes) -/
  | tup (xs : List V)
  /-- a dict whose keys are ints and texts; one whose keys are tuples of ints and texts (the empty one is both) -/
  | dK (kvs : List (Key × V)) | dT (kvs : List (List Key × V))
  /-- a set of ints: its members, its size -/
  | set (S : Int → Bool) (n : Nat)
  /-- an instance of the class at C, its dict at dx, its attributes -/
  | ins (C dx : Addr) (fs : List (Str × V))
  /-- the dict of the instance at x -/
  | own (x : Addr)
  /-- the dict of an exception -/
  | xd (fs : List (Str × V))
  /-- a bound method, f of x -/
  | met (f x : Addr)
  /-- a range object lo, lo + 1, .. below hi -/
  | rng (lo hi : Int)
  /-- a thing that is known to the object (the script; a dict while a loop walks it): read, never written while it is so -/
  | frz (o : Obj) (u : HO)
  /-- a code object's table -/
  | tbl (ps : Array Value)
  /-- any other thing, by what is true of its one object (a def of one's own: SetO a S n := HO.ext fun h => ..) -/
  | ext (φ : Heap → Prop)

abbrev Hp := Addr → Option HO
def upd (H : Hp) (a : Addr) (o : HO) : Hp := fun b => if b = a then some o else H b
theorem upd_same {H : Hp} {a : Addr} {o : HO} : upd H a o a = some o := by unfold upd; rw [if_pos rfl]
theorem upd_ne {H : Hp} {a b : Addr} {o : HO} (h : b ≠ a) : upd H a o b = H b := by unfold upd; rw [if_neg h]
theorem upd_upd {H : Hp} {a : Addr} {o u : HO} : upd (upd H a o) a u = upd H a u := by
  funext b; unfold upd; split <;> rfl
/-- two objects of different content stand apart -/
theorem ne_of {H : Hp} {a b : Addr} {o u : HO} (h : H a = some o) (h' : H b = some u) (d : o ≠ u) : a ≠ b := by
  intro e; subst e; rw [h] at h'; exact d (Option.some.inj h')
theorem ne_of_none {H : Hp} {a b : Addr} {o : HO} (h : H a = some o) (h' : H b = none) : a ≠ b := by
  intro e; subst e; rw [h] at h'; cases h'

section
variable (P : Program) (w : World)
def ObjOk (H : Hp) (h : Heap) (a : Addr) : HO → Prop
  | .lst xs => xs.length ≤ sizeLine ∧ ∃ (its : List Value) (n : Nat), Vals xs its ∧ h.get? a = some { cls := .type "list", data := .seq its.toArray n }
  | .tup xs => xs.length ≤ sizeLine ∧ ∃ its : List Value, Vals xs its ∧ IsTup h a its.toArray
  | .dK kvs => kvs.length ≤ sizeLine ∧ (a == sysModules) = false ∧ ∃ vs, KV kvs vs ∧ h.DictOf (mixKind P w) a vs
  | .dT kvs => kvs.length ≤ sizeLine ∧ (a == sysModules) = false ∧ ∃ xs : List (List Key × Addr × Value),
      Paired (fun (p : List Key × V) (q : List Key × Addr × Value) => p.1 = q.1 ∧ H q.2.1 = some (.tup (p.1.map kV)) ∧ RelV p.2 q.2.2) kvs xs ∧
      ∃ o es ep, h.get? a = some o ∧ o.ExactDict ∧ o.data = .dict es ep ∧ es.toList = xs.map (entryOfKey (tupleKind (mixKind P w))) ∧ (xs.map (·.1)).Nodup
  | .set S n => h.SetOf (intKind P w) a S n
  | .ins C dx fs => H dx = some (.own a) ∧ fs.length ≤ 1000 ∧ dx ≠ a ∧ h.get? a = some (PySem.W.instObj C dx) ∧
      ∃ mA, h.Ns1 dx mA ∧ (∀ f, RelO (fs.lookup f) (mA f)) ∧ PySem.Within mA (fs.map (·.1))
  | .own _ => ∃ o, h.get? a = some o
  | .xd fs => ∃ mA, h.Ns1 a mA ∧ ∀ f, RelO (fs.lookup f) (mA f)
  | .rng lo hi => ∃ t u v, h.get? a = some { cls := .type "range", data := .fields #[.int lo t, .int hi u, .int 1 v] }
  | .frz o u => h.get? a = some o ∧ ObjOk H h a u
  | .tbl ps => h.get? a = some { cls := .none, data := .fields ps }
  | .met f x => h.get? a = some (PySem.W.methodObj (.ref f) (.ref x))
  | .ext φ => φ h ∧ (∃ o, h.get? a = some o) ∧ ∀ h1 h2 : Heap, φ h1 → (∀ o, h1.get? a = some o → h2.get? a = some o) → φ h2
/-- the abstract heap is held -/
def HOk (H : Hp) (h : Heap) : Prop := ∀ a o, H a = some o → ObjOk P w H h a o
end

section
variable {P : Program} {w : World} {H H' : Hp} {h h' : Heap} {a : Addr} {o : HO}
theorem ObjOk.lt (x : ObjOk P w H h a o) : a < h.objs.size := by
  cases o with
  | lst xs => obtain ⟨_, _, _, _, e⟩ := x; exact Heap.lt_size e
  | tup xs => obtain ⟨_, _, _, p⟩ := x; exact p.lt
  | dK kvs => obtain ⟨_, _, _, _, o, _, _, e, _⟩ := x; exact Heap.lt_size e
  | dT kvs => obtain ⟨_, _, _, _, o, _, _, e, _⟩ := x; exact Heap.lt_size e
  | set S n => obtain ⟨o, _, _, _, e, _⟩ := x; exact Heap.lt_size e
  | ins C dx fs => obtain ⟨_, _, _, e, _⟩ := x; exact Heap.lt_size e
  | own y => obtain ⟨_, e⟩ := x; exact Heap.lt_size e
  | xd fs => obtain ⟨_, ⟨_, _, _, e, _⟩, _⟩ := x; exact Heap.lt_size e
  | rng lo hi => obtain ⟨_, _, _, e⟩ := x; exact Heap.lt_size e
  | frz ob u => obtain ⟨e, _⟩ := x; exact Heap.lt_size e
  | tbl ps => exact Heap.lt_size (show h.get? a = some _ from x)
  | met f y => exact Heap.lt_size (show h.get? a = some _ from x)
  | ext φ => obtain ⟨_, ⟨_, e⟩, _⟩ := x; exact Heap.lt_size e
theorem Paired.mapP {α β : Type} {F G : α → β → Prop} : ∀ {l₁ : List α} {l₂ : List β}, Paired F l₁ l₂ → (∀ a b, F a b → G a b) → Paired G l₁ l₂
  | _, _, .nil, _ => .nil
  | _, _, .cons r t, f => .cons (f _ _ r) (Paired.mapP t f)
/-- what an object's description leans on: its own object, its own dict, the tuples -/
theorem ObjOk.stay (x : ObjOk P w H h a o) (k : ∀ b u, (b = a ∨ H b = some (.own a)) → h.get? b = some u → h'.get? b = some u)
    (ho : ∀ b, H b = some (.own a) → H' b = some (.own a)) (ht : ∀ b xs, H b = some (.tup xs) → H' b = some (.tup xs)) : ObjOk P w H' h' a o := by
  induction o with
  | lst xs => obtain ⟨z, its, n, r, e⟩ := x; exact ⟨z, its, n, r, k _ _ (.inl rfl) e⟩
  | tup xs => obtain ⟨z, its, r, ob, e, c⟩ := x; exact ⟨z, its, r, ob, k _ _ (.inl rfl) e, c⟩
  | dK kvs => obtain ⟨z, y, vs, r, ob, es, ep, e, c⟩ := x; exact ⟨z, y, vs, r, ob, es, ep, k _ _ (.inl rfl) e, c⟩
  | dT kvs =>
    obtain ⟨z, y, xs, r, ob, es, ep, e, c⟩ := x
    exact ⟨z, y, xs, Paired.mapP r fun p q z => ⟨z.1, ht _ _ z.2.1, z.2.2⟩, ob, es, ep, k _ _ (.inl rfl) e, c⟩
  | set S n => obtain ⟨ob, es, ep, t, e, c⟩ := x; exact ⟨ob, es, ep, t, k _ _ (.inl rfl) e, c⟩
  | ins C dx fs =>
    obtain ⟨d, z, ne, e, mA, ⟨od, es, ep, e2, c⟩, r⟩ := x
    exact ⟨ho _ d, z, ne, k _ _ (.inl rfl) e, mA, ⟨od, es, ep, k _ _ (.inr d) e2, c⟩, r⟩
  | own y => obtain ⟨ob, e⟩ := x; exact ⟨ob, k _ _ (.inl rfl) e⟩
  | xd fs => obtain ⟨mA, ⟨od, es, ep, e, c⟩, r⟩ := x; exact ⟨mA, ⟨od, es, ep, k _ _ (.inl rfl) e, c⟩, r⟩
  | rng lo hi => obtain ⟨t, u, v, e⟩ := x; exact ⟨t, u, v, k _ _ (.inl rfl) e⟩
  | frz ob u ih => obtain ⟨e, q⟩ := x; exact ⟨k _ _ (.inl rfl) e, ih q⟩
  | tbl ps =>
    have e : h.get? a = some { cls := .none, data := .fields ps } := x
    show h'.get? a = some { cls := .none, data := .fields ps }
    exact k a _ (.inl rfl) e
  | met f y =>
    have e : h.get? a = some (PySem.W.methodObj (.ref f) (.ref y)) := x
    show h'.get? a = some (PySem.W.methodObj (.ref f) (.ref y))
    exact k a _ (.inl rfl) e
  | ext φ => obtain ⟨p, ⟨o, e⟩, st⟩ := x; exact ⟨st _ _ p fun o q => k _ _ (.inl rfl) q, ⟨o, k _ _ (.inl rfl) e⟩, st⟩
theorem HOk.lt (x : HOk P w H h) (e : H a = some o) : a < h.objs.size := (x a o e).lt
theorem HOk.fresh (x : HOk P w H h) (e : h.objs.size ≤ a) : H a = none := by
  cases q : H a with
  | none => rfl
  | some u => exact absurd (Nat.lt_of_lt_of_le (x.lt q) e) (Nat.lt_irrefl _)
/-- every object of the heap is kept -/
theorem HOk.kept (x : HOk P w H h) (k : ∀ b u, h.get? b = some u → h'.get? b = some u) : HOk P w H h' := fun a o e =>
  (x a o e).stay (fun b u _ q => k b u q) (fun _ q => q) fun _ _ q => q
/-- a new object is laid and tracked -/
theorem HOk.laid (x : HOk P w H h) (k : ∀ b u, h.get? b = some u → h'.get? b = some u) (hp : h.objs.size ≤ a) (new : ObjOk P w (upd H a o) h' a o) : HOk P w (upd H a o) h' := fun b u e => by
  have hn := x.fresh hp
  by_cases hb : b = a
  · subst hb; rw [upd_same] at e; cases e; exact new
  · rw [upd_ne hb] at e
    exact (x b u e).stay (fun c v _ q => k c v q) (fun c q => by rw [upd_ne (ne_of_none q hn)]; exact q) fun c xs q => by rw [upd_ne (ne_of_none q hn)]; exact q
end

/-- what may be read as u: it is u, or a known u -/
def Rd (H : Hp) (a : Addr) (u : HO) : Prop := H a = some u ∨ ∃ o, H a = some (.frz o u)
theorem Rd.ok {P : Program} {w : World} {H : Hp} {h : Heap} {a : Addr} {u : HO} (r : Rd H a u) (x : HOk P w H h) : ObjOk P w H h a u := by
  rcases r with r | ⟨o, r⟩
  · exact x a u r
  · obtain ⟨_, q⟩ := x a _ r
    exact q
/-- what may be written -/
def Mut : Option HO → Prop
  | some (.lst _) => True
  | some (.dK _) => True
  | some (.dT _) => True
  | some (.set _ _) => True
  | some (.ins _ _ _) => True
  | some (.ext _) => True
  | _ => False
section
variable {P : Program} {w : World} {H : Hp} {h h' : Heap} {x e : Addr} {o' : HO}
/-- the object at e is changed: x itself, or the dict of the instance x -/
theorem HOk.write (ok : HOk P w H h) (mu : Mut (H x)) (he : e = x ∨ H e = some (.own x)) (k : ∀ b u, b ≠ e → h.get? b = some u → h'.get? b = some u) (heo : ∃ u, h'.get? e = some u)
    (new : ObjOk P w (upd H x o') h' x o') : HOk P w (upd H x o') h' := fun b u q => by
  have nown : ∀ c y, H c = some (.own y) → c ≠ x := fun c y r z => by subst z; rw [r] at mu; exact mu
  have ntup : ∀ c xs, H c = some (.tup xs) → c ≠ x := fun c xs r z => by subst z; rw [r] at mu; exact mu
  by_cases hb : b = x
  · subst hb; rw [upd_same] at q; cases q; exact new
  · rw [upd_ne hb] at q
    by_cases hbe : b = e
    · have q' : H b = some (.own x) := by
        rcases he with z | z
        · exact absurd (hbe.trans z) hb
        · rw [hbe]; exact z
      rw [q] at q'; cases q'
      obtain ⟨v, hv⟩ := heo
      exact ⟨v, by rw [hbe]; exact hv⟩
    · refine (ok b u q).stay (fun c v hc r => k c v ?_ r) (fun c r => by rw [upd_ne (nown c b r)]; exact r) fun c xs r => by rw [upd_ne (ntup c xs r)]; exact r
      rcases hc with rfl | hc
      · exact hbe
      · rintro rfl
        rcases he with z | z
        · exact nown c b hc z
        · rw [hc] at z; cases z; exact hb rfl
end

/-! ### kept unless tracked; of the frames at fs (the callers') the slots may change (an exception that passes writes there); of the records at ex (iterators) nothing is said -/
structure Un (fs ex : List Addr) (H H' : Hp) (h h' : Heap) : Prop where
  keep : ∀ b o, h.get? b = some o → H b = none → b ∉ fs → b ∉ ex → h'.get? b = some o
  slot : ∀ b o, h.get? b = some o → H b = none → b ∈ fs → b ∉ ex → ∃ sl, h'.get? b = some { o with slots := sl }
  free : ∀ b o, h.get? b = some o → H b = none → b ∉ ex → H' b = none
  there : ∀ b o, h.get? b = some o → b ∉ ex → ∃ o', h'.get? b = some o'
  tups : ∀ b xs, H b = some (.tup xs) → H' b = some (.tup xs)
  frzs : ∀ b o u, H b = some (.frz o u) → H' b = some (.frz o u)
  tbls : ∀ b ps, H b = some (.tbl ps) → ∃ more, H' b = some (.tbl (ps ++ more))
section
variable {fs fs' ex ex' : List Addr} {H H1 H2 : Hp} {h h1 h2 h' : Heap} {a x e : Addr} {o : HO}
theorem Un.any (u : Un fs ex H H1 h h1) {b : Addr} {ob : Obj} (q : h.get? b = some ob) (n : H b = none) (hx : b ∉ ex) : ∃ sl, h1.get? b = some { ob with slots := sl } := by
  by_cases hb : b ∈ fs
  · exact u.slot b ob q n hb hx
  · exact ⟨ob.slots, u.keep b ob q n hb hx⟩
theorem Un.kept (k : ∀ b u, h.get? b = some u → h'.get? b = some u) : Un fs ex H H h h' :=
  ⟨fun b ob q _ _ _ => k b ob q, fun b ob q _ _ _ => ⟨ob.slots, k b ob q⟩, fun _ _ _ n _ => n, fun b ob q _ => ⟨ob, k b ob q⟩, fun _ _ q => q, fun _ _ _ q => q, fun _ ps q => ⟨#[], by rw [q]; simp⟩⟩
theorem Un.refl : Un fs ex H H h h := Un.kept fun _ _ q => q
theorem Un.laid (k : ∀ b u, h.get? b = some u → h'.get? b = some u) (hp : h.objs.size ≤ a) (hn : H a = none) : Un fs ex H (upd H a o) h h' where
  keep := fun b u q _ _ _ => k b u q
  slot := fun b u q _ _ _ => ⟨u.slots, k b u q⟩
  free := fun b u q n _ => by rw [upd_ne (Nat.ne_of_lt (Nat.lt_of_lt_of_le (Heap.lt_size q) hp))]; exact n
  there := fun b u q _ => ⟨u, k b u q⟩
  tups := fun b xs q => by rw [upd_ne (ne_of_none q hn)]; exact q
  frzs := fun b u xs q => by rw [upd_ne (ne_of_none q hn)]; exact q
  tbls := fun b ps q => ⟨#[], by rw [upd_ne (ne_of_none q hn), q]; simp⟩
theorem Un.write (mu : Mut (H x)) (he : e = x ∨ H e = some (.own x)) (k : ∀ b u, b ≠ e → h.get? b = some u → h'.get? b = some u) (heo : ∃ u, h'.get? e = some u) : Un fs ex H (upd H x o) h h' := by
  have hx : ∀ b, H b = none → b ≠ x := fun b n z => by subst z; rw [n] at mu; exact mu
  have hb : ∀ b, H b = none → b ≠ e := fun b n z => by
    subst z
    rcases he with r | r
    · exact hx b n r
    · rw [n] at r; cases r
  have hm : ∀ b u, H b = some u → ¬ Mut (some u) → b ≠ x := fun b u q nm z => by subst z; rw [q] at mu; exact nm mu
  refine ⟨fun b u q n _ _ => k b u (hb b n) q, fun b u q n _ _ => ⟨u.slots, k b u (hb b n) q⟩, fun b u q n _ => by rw [upd_ne (hx b n)]; exact n, fun b u q _ => ?_,
    fun b xs q => by rw [upd_ne (hm b _ q fun z => z)]; exact q, fun b u xs q => by rw [upd_ne (hm b _ q fun z => z)]; exact q, fun b ps q => ⟨#[], by rw [upd_ne (hm b _ q fun z => z), q]; simp⟩⟩
  by_cases hbe : b = e
  · subst hbe; exact heo
  · exact ⟨u, k b u hbe q⟩
end

/-! ### the heap without what is tracked -/
def trk (h : Heap) (H : Hp) : List Addr := (List.range h.objs.size).filter fun a => (H a).isSome
def hidT (h : Heap) (H : Hp) : Heap := PySem.W.hideAll h (trk h H)
theorem hidT_size (h : Heap) (H : Hp) : (hidT h H).objs.size = h.objs.size := PySem.W.hideAll_size _ _
theorem hidT_get {h : Heap} {H : Hp} {b : Addr} {o : Obj} (e : h.get? b = some o) (n : H b = none) : (hidT h H).get? b = some o :=
  PySem.W.hideAll_get _ e fun hm => by
    have q : (H b).isSome = true := (List.mem_filter.mp hm).2
    rw [n] at q; simp at q
theorem of_hidT {h : Heap} {H : Hp} {b : Addr} {o : Obj} (e : (hidT h H).get? b = some o) : h.get? b = some o ∧ H b = none := by
  have e' : h.get? b = some o := PySem.W.of_hideAll (trk h H) e
  refine ⟨e', ?_⟩
  cases q : H b with
  | none => rfl
  | some x =>
    have hm : b ∈ trk h H := List.mem_filter.mpr ⟨List.mem_range.mpr (Heap.lt_size e'), by simp [q]⟩
    have z : (hidT h H).get? b = none := PySem.W.hideAll_none (trk h H) hm
    rw [z] at e; cases e

/-! ### OpenK's ledger, filled with every new object but one -/
end L2

namespace L2
open PySem PySem.Spec PyProof.Rows

/-- the module's facts, over the base: the heap at the law's entry without what is tracked there -/
structure Mod (K : PySem.W.Frag) (mg : Str → Option Value) (base : Heap) : Prop where
  kin : K.In base
  glob : base.Ns mainGlobals mg
  blt : ∃ mb, base.Ns builtinsNs mb ∧ ∀ x : Str, x ≠ "__name__" → mb x = bootBuiltins x
  nolimit : base.NoLimit

/-- the context: a def's body (or a comprehension's block) running. base: fixed through the whole law; s₀, H₀: the entry; outer: the frames whose slots others may change (a def's callers); stack: all frames that run;
   ex: iterators that were made ahead of the entry and are walked here (a comprehension's); fn: the names whose cells were made at the entry (a def: all; a comprehension's block: its own); calm: not within an except suite; pn: pins that every state bears; xe: what is wanted of an exception that leaves the code -/
structure Cx where
  prog : Program
  w : World
  K : PySem.W.Frag
  mg : Str → Option Value
  base : Heap
  A : Around
  N : List Str
  s₀ : Shared
  H₀ : Hp
  env : Env
  outer : List Env
  stack : List Env
  ex : List Addr
  fn : Str → Bool
  calm : Bool
  pn : List (Addr × Obj)
  xe : Value → Shared → Prop
/-- the callers' frames -/
def frs (l : List Env) : List Addr := l.filterMap (·.frame)
abbrev Cx.fs (X : Cx) : List Addr := frs X.outer

def Vis (sc : Scope) (x : Str) : Prop := sc.names.lookup x = some .local ∨ sc.names.lookup x = some .cell ∨ sc.names.lookup x = some .free
def Loc (sc : Scope) (x : Str) : Prop := sc.names.lookup x = some .local ∨ sc.names.lookup x = some .cell
def Look (env : Env) (h : Heap) (m : Str → Option Value) (x : Str) (u : Value) : Prop :=
  (env.kindOf x = some .local ∧ m x = some u) ∨ ((env.kindOf x = some .cell ∨ env.kindOf x = some .free) ∧ ∃ c, env.cells.lookup x = some c ∧ h.IsCell c (some u))

structure Cx.Ok (X : Cx) : Prop where
  mod : Mod X.K X.mg X.base
  kind : X.env.scope.kind = .function
  glob : X.env.globals = mainGlobals
  blt : X.env.builtins = builtinsNs
  above : X.s₀.heap.objs.size ≤ X.env.locals
  inj : ∀ x y c, X.env.cells.lookup x = some c → X.env.cells.lookup y = some c → x = y
  has : ∀ x, (X.env.kindOf x = some .cell ∨ X.env.kindOf x = some .free) → ∃ c, X.env.cells.lookup x = some c
  cab : ∀ x c, X.fn x = true → X.env.cells.lookup x = some c → X.s₀.heap.objs.size ≤ c
  hd : X.calm = true → X.A.handled = none
  frames : X.A.frames = some X.stack
  stk : X.stack = X.outer ∨ (X.stack = X.env :: X.outer ∧ X.env.frame = some X.env.locals)
  exf : ∀ b ∈ X.ex, b ≠ X.env.locals ∧ ∀ x c, X.env.cells.lookup x = some c → c ≠ b
  bs : ∀ b o, X.base.get? b = some o → X.s₀.heap.get? b = some o ∧ X.H₀ b = none
  bsz : X.base.objs.size ≤ X.s₀.heap.objs.size
  noex : ∀ b o, X.base.get? b = some o → b ∉ X.ex
  exfs : ∀ b ∈ X.ex, b ∉ X.fs
  funs : X.s₀.heap.FunFrames X.base X.outer
  frf : ∀ b ∈ X.fs, X.H₀ b = none

structure Inv (X : Cx) (pins : List (Addr × Obj)) (σ : List (Option V)) (H : Hp) (s : Shared) : Prop where
  ok : X.Ok
  os : s.os = X.s₀.os
  bare : AllBare s.gens
  base : Un X.fs X.ex X.H₀ H X.s₀.heap s.heap
  loc : ∃ m, s.heap.Ns X.env.locals m ∧ ∀ (i : Nat) (x : Str) (v : V), X.N[i]? = some x → σ[i]? = some (some v) → Vis X.env.scope x → ∃ u, RelV v u ∧ Look X.env s.heap m x u
  cell : ∀ x c, X.env.cells.lookup x = some c → ∃ v, s.heap.IsCell c v
  free : H X.env.locals = none
  freeC : ∀ x c, X.env.cells.lookup x = some c → H c = none
  pin : ∀ p ∈ X.pn ++ pins, s.heap.get? p.1 = some p.2 ∧ H p.1 = none ∧ p.1 ≠ X.env.locals ∧ p.1 ∉ X.fs ∧ ∀ v, p.2.data ≠ .cell v
  hok : HOk X.prog X.w H s.heap
  len : σ.length = X.N.length

section
variable {X : Cx} {pins : List (Addr × Obj)} {σ : List (Option V)} {H H' : Hp} {s : Shared} {h' : Heap}

theorem Cx.Ok.nofr (ok : X.Ok) {b : Addr} {o : Obj} (e : X.base.get? b = some o) : b ∉ X.fs := fun hb => by
  have := (ok.funs.mem hb).1
  rw [e] at this; cases this
theorem Inv.bs (I : Inv X pins σ H s) : ∀ b o, X.base.get? b = some o → s.heap.get? b = some o ∧ H b = none := fun b o e =>
  ⟨I.base.keep b o (I.ok.bs b o e).1 (I.ok.bs b o e).2 (I.ok.nofr e) (I.ok.noex b o e), I.base.free b o (I.ok.bs b o e).1 (I.ok.bs b o e).2 (I.ok.noex b o e)⟩
theorem Inv.bk (I : Inv X pins σ H s) : ∀ b o, X.base.get? b = some o → s.heap.get? b = some o := fun b o e => (I.bs b o e).1
theorem Inv.mod (I : Inv X pins σ H s) : Mod X.K X.mg X.base := I.ok.mod
theorem Inv.kIn (I : Inv X pins σ H s) : X.K.In s.heap := I.ok.mod.kin.keeps I.bk
theorem Inv.lt (I : Inv X pins σ H s) : X.env.locals < s.heap.objs.size := let ⟨_, hn, _⟩ := I.loc; hn.lt
theorem Inv.sz (I : Inv X pins σ H s) : X.s₀.heap.objs.size ≤ s.heap.objs.size := Nat.le_trans I.ok.above (Nat.le_of_lt I.lt)
theorem Inv.nofs (I : Inv X pins σ H s) {a : Addr} (h : s.heap.objs.size ≤ a) : a ∉ X.fs := fun hb => by
  obtain ⟨_, o, ho, _⟩ := I.ok.funs.mem hb
  exact absurd (Nat.lt_of_lt_of_le (Heap.lt_size ho) (Nat.le_trans I.sz h)) (Nat.lt_irrefl _)
theorem Inv.cne (I : Inv X pins σ H s) : ∀ x c, X.env.cells.lookup x = some c → c ≠ X.env.locals := fun x c e z => by
  obtain ⟨v, o, ho, hd⟩ := I.cell x c e
  obtain ⟨m, ⟨o', es, ep, ho', hd', _⟩, _⟩ := I.loc
  rw [z, ho'] at ho; cases ho; rw [hd'] at hd; cases hd
theorem Inv.funs (I : Inv X pins σ H s) : s.heap.FunFrames X.base X.outer := by
  have all : ∀ (l : List Env), (∀ b ∈ frs l, b ∈ X.fs) → X.s₀.heap.FunFrames X.base l → s.heap.FunFrames X.base l := by
    intro l
    induction l with
    | nil => intro _ _; trivial
    | cons env r ih =>
      intro hs hl
      obtain ⟨hk, ⟨L, o, hf, hn, ho, hd⟩, hr⟩ := hl
      have hL : L ∈ X.fs := hs L (by unfold frs; rw [List.filterMap_cons, hf]; exact List.mem_cons_self)
      obtain ⟨sl, e⟩ := I.base.slot L o ho (I.ok.frf L hL) hL fun z => I.ok.exfs L z hL
      exact ⟨hk, ⟨L, _, hf, hn, e, hd⟩, ih (fun b hb => hs b (by unfold frs; rw [List.filterMap_cons, hf]; exact List.mem_cons_of_mem _ hb)) hr⟩
  exact all X.outer (fun _ hb => hb) I.ok.funs

/-- the frames that run, for a call -/
theorem Inv.stack (I : Inv X pins σ H s) : s.heap.FunFrames X.base X.stack := by
  rcases I.ok.stk with e | ⟨e, hf⟩
  · rw [e]; exact I.funs
  · rw [e]
    obtain ⟨m, hn, _⟩ := I.loc
    refine .cons (by rw [I.ok.kind]; decide) hf hn ?_ I.funs
    exact Heap.get?_none_of_le (Nat.le_trans I.ok.bsz I.ok.above)
theorem Inv.stkSub (I : Inv X pins σ H s) : ∀ b ∈ frs X.stack, b ∈ X.env.locals :: X.fs := fun b hb => by
  rcases I.ok.stk with e | ⟨e, hf⟩
  · rw [e] at hb; exact List.mem_cons_of_mem _ hb
  · rw [e] at hb
    unfold frs at hb
    rw [List.filterMap_cons, hf] at hb
    exact hb
theorem Inv.stkFree (I : Inv X pins σ H s) : ∀ b ∈ frs X.stack, H b = none := fun b hb => by
  rcases List.mem_cons.mp (I.stkSub b hb) with e | hb
  · rw [e]; exact I.free
  · obtain ⟨_, o, ho, _⟩ := I.ok.funs.mem hb
    exact I.base.free b o ho (I.ok.frf b hb) fun z => I.ok.exfs b z hb

/-- THE STEP: the untracked objects but the frame and the records at ch are kept (the callers' frames up to slots), the frame's map is kept, the new abstract heap is held -/
theorem Inv.step {g' : Array GenState} {t' : Nat} {d' : Drawn} {ch : List Addr} (I : Inv X pins σ H s)
    (hch : ∀ b ∈ ch, (b ∈ X.ex ∨ X.s₀.heap.objs.size ≤ b) ∧ b ≠ X.env.locals ∧ (∀ x c, X.env.cells.lookup x = some c → c ≠ b) ∧ ∀ p ∈ X.pn ++ pins, p.1 ≠ b)
    (keep : ∀ b o, b ≠ X.env.locals → b ∉ X.fs → b ∉ ch → s.heap.get? b = some o → H b = none → h'.get? b = some o)
    (slot : ∀ b o, b ≠ X.env.locals → b ∈ X.fs → b ∉ ch → s.heap.get? b = some o → H b = none → ∃ sl, h'.get? b = some { o with slots := sl }) (free : ∀ b o, b ∉ ch → s.heap.get? b = some o → H b = none → H' b = none)
    (there : ∀ b o, b ∉ ch → s.heap.get? b = some o → ∃ o', h'.get? b = some o')
    (tups : ∀ b xs, H b = some (.tup xs) → H' b = some (.tup xs)) (frzs : ∀ b o u, H b = some (.frz o u) → H' b = some (.frz o u)) (tbls : ∀ b ps, H b = some (.tbl ps) → ∃ more, H' b = some (.tbl (ps ++ more)))
    (ns : ∀ m, s.heap.Ns X.env.locals m → h'.Ns X.env.locals m) (hok : HOk X.prog X.w H' h') (hg : AllBare g') :
    Inv X pins σ H' { s with heap := h', gens := g', drawn := d', toks := t' } := by
  have neL : ∀ b o, X.s₀.heap.get? b = some o → b ≠ X.env.locals := fun b o e => Nat.ne_of_lt (Nat.lt_of_lt_of_le (Heap.lt_size e) I.ok.above)
  have neC : ∀ b o, X.s₀.heap.get? b = some o → b ∉ X.ex → b ∉ ch := fun b o e hx hb => by
    rcases (hch b hb).1 with z | z
    · exact hx z
    · exact absurd (Nat.lt_of_lt_of_le (Heap.lt_size e) z) (Nat.lt_irrefl _)
  have cellK : ∀ x c, X.env.cells.lookup x = some c → ∀ v, s.heap.IsCell c v → h'.IsCell c v := fun x c e v ⟨o, ho, hd⟩ => by
    have nch : c ∉ ch := fun z => (hch c z).2.2.1 x c e rfl
    by_cases hc : c ∈ X.fs
    · obtain ⟨sl, q⟩ := slot c o (I.cne x c e) hc nch ho (I.freeC x c e)
      exact ⟨_, q, hd⟩
    · exact ⟨o, keep c o (I.cne x c e) hc nch ho (I.freeC x c e), hd⟩
  refine ⟨I.ok, I.os, hg, ⟨fun b o e n hb hx => ?_, fun b o e n hb hx => ?_, fun b o e n hx => ?_, fun b o e hx => ?_, fun b xs e => tups b xs (I.base.tups b xs e), fun b o xs e => frzs b o xs (I.base.frzs b o xs e), fun b ps e => ?_⟩, ?_, fun x c e => ?_, ?_, fun x c e => ?_, fun p hp => ?_, hok, I.len⟩
  · exact keep b o (neL b o e) hb (neC b o e hx) (I.base.keep b o e n hb hx) (I.base.free b o e n hx)
  · obtain ⟨sl, e1⟩ := I.base.slot b o e n hb hx
    obtain ⟨sl', e2⟩ := slot b _ (neL b o e) hb (neC b o e hx) e1 (I.base.free b o e n hx)
    exact ⟨sl', e2⟩
  · obtain ⟨o', e1⟩ := I.base.there b o e hx
    exact free b o' (neC b o e hx) e1 (I.base.free b o e n hx)
  · obtain ⟨o', e1⟩ := I.base.there b o e hx
    exact there b o' (neC b o e hx) e1
  · obtain ⟨m1, e1⟩ := I.base.tbls b ps e
    obtain ⟨m2, e2⟩ := tbls b _ e1
    exact ⟨m1 ++ m2, by rw [e2, Array.append_assoc]⟩
  · obtain ⟨m, hn, hl⟩ := I.loc
    refine ⟨m, ns m hn, fun i x v e1 e2 e3 => ?_⟩
    obtain ⟨u, r, l⟩ := hl i x v e1 e2 e3
    refine ⟨u, r, ?_⟩
    rcases l with l | ⟨k, c, e, z⟩
    · exact .inl l
    · exact .inr ⟨k, c, e, cellK x c e _ z⟩
  · obtain ⟨v, z⟩ := I.cell x c e
    exact ⟨v, cellK x c e v z⟩
  · obtain ⟨m, ⟨o, _, _, ho, _⟩, _⟩ := I.loc
    exact free _ o (fun z => (hch _ z).2.1 rfl) ho I.free
  · obtain ⟨v, o, ho, hd⟩ := I.cell x c e
    exact free c o (fun z => (hch c z).2.2.1 x c e rfl) ho (I.freeC x c e)
  · obtain ⟨e, n, ne, nf, d⟩ := I.pin p hp
    have nch : p.1 ∉ ch := fun z => (hch p.1 z).2.2.2 p hp rfl
    exact ⟨keep p.1 p.2 ne nf nch e n, free p.1 p.2 nch e n, ne, nf, d⟩
/-- .. where the frame's own object is kept too -/
theorem Inv.un {t' : Nat} (I : Inv X pins σ H s) (u : Un X.fs [] H H' s.heap h') (hok : HOk X.prog X.w H' h') : Inv X pins σ H' { s with heap := h', toks := t' } := by
  obtain ⟨m, ⟨o, es, ep, ho, r⟩, _⟩ := id I.loc
  obtain ⟨sl, hL⟩ := u.any ho I.free (by simp)
  exact I.step (g' := s.gens) (d' := s.drawn) (ch := []) (fun _ z => nomatch z) (fun b o _ hb _ e n => u.keep b o e n hb (by simp)) (fun b o _ hb _ e n => u.slot b o e n hb (by simp)) (fun b o _ e n => u.free b o e n (by simp)) (fun b o _ e => u.there b o e (by simp)) u.tups u.frzs u.tbls (fun m' hm => by
    obtain ⟨o', es', ep', ho', r'⟩ := hm
    rw [ho] at ho'; cases ho'
    exact ⟨_, es', ep', hL, r'⟩) hok I.bare
/-- behind a call (or a comprehension's block): the slots of this frame may have changed too, the records at ch may have turned -/
theorem Inv.call {g' : Array GenState} {t' : Nat} {d' : Drawn} {ch : List Addr} (I : Inv X pins σ H s) (u : Un (frs X.stack) ch H H' s.heap h') (hok : HOk X.prog X.w H' h') (hg : AllBare g')
    (hch : ∀ b ∈ ch, (b ∈ X.ex ∨ X.s₀.heap.objs.size ≤ b) ∧ b ≠ X.env.locals ∧ (∀ x c, X.env.cells.lookup x = some c → c ≠ b) ∧ ∀ p ∈ X.pn ++ pins, p.1 ≠ b) :
    Inv X pins σ H' { s with heap := h', gens := g', drawn := d', toks := t' } := by
  obtain ⟨m, ⟨o, es, ep, ho, r⟩, _⟩ := id I.loc
  obtain ⟨sl, hL⟩ := u.any ho I.free fun z => (hch _ z).2.1 rfl
  exact I.step (ch := ch) hch (fun b o hL hb hc e n => u.keep b o e n (fun z => (List.mem_cons.mp (I.stkSub b z)).elim hL hb) hc) (fun b o _ _ hc e n => u.any e n hc) (fun b o hc e n => u.free b o e n hc) (fun b o hc e => u.there b o e hc) u.tups u.frzs u.tbls (fun m' hm => by
    obtain ⟨o', es', ep', ho', r'⟩ := hm
    rw [ho] at ho'; cases ho'
    exact ⟨_, es', ep', hL, r'⟩) hok hg
/-- an untracked record of ours (an iterator) has turned -/
theorem Inv.turned {t' : Nat} {it : Addr} (I : Inv X pins σ H s) (k : ∀ b o, b ≠ it → s.heap.get? b = some o → h'.get? b = some o) (hn : H it = none) (hL : it ≠ X.env.locals)
    (h1 : it ∈ X.ex ∨ X.s₀.heap.objs.size ≤ it) (h2 : ∀ x c, X.env.cells.lookup x = some c → c ≠ it) (h3 : ∀ p ∈ X.pn ++ pins, p.1 ≠ it) : Inv X pins σ H { s with heap := h', toks := t' } := by
  have nit : ∀ b u, H b = some u → b ≠ it := fun b u e z => by rw [z, hn] at e; cases e
  refine I.step (g' := s.gens) (d' := s.drawn) (ch := [it]) (fun b hb => ?_) (fun b o _ _ hc e _ => k b o (fun z => hc (by simp [z])) e) (fun b o _ _ hc e _ => ⟨o.slots, k b o (fun z => hc (by simp [z])) e⟩) (fun _ _ _ _ n => n)
    (fun b o hc e => ⟨o, k b o (fun z => hc (by simp [z])) e⟩) (fun _ _ e => e) (fun _ _ _ e => e) (fun b ps e => ⟨#[], by rw [e]; simp⟩) (fun m hm => ?_) (fun b u e => ?_) I.bare
  · have e : b = it := by simpa using hb
    subst e
    exact ⟨h1, hL, h2, h3⟩
  · obtain ⟨o, es, ep, ho, r⟩ := hm
    exact ⟨o, es, ep, k _ o (Ne.symm hL) ho, r⟩
  · refine (I.hok b u e).stay (fun c v hc q => k c v ?_ q) (fun _ q => q) fun _ _ q => q
    rcases hc with z | z
    · rw [z]; exact nit b u e
    · exact nit c _ z
theorem Inv.tok (I : Inv X pins σ H s) (t : Nat) : Inv X pins σ H { s with toks := t } := I.un (h' := s.heap) (t' := t) Un.refl I.hok
/-- all objects kept -/
theorem Inv.kept {t' : Nat} (I : Inv X pins σ H s) (k : ∀ b u, s.heap.get? b = some u → h'.get? b = some u) : Inv X pins σ H { s with heap := h', toks := t' } := I.un (Un.kept k) (I.hok.kept k)
/-- a new object laid and tracked -/
theorem Inv.laid {a : Addr} {o : HO} {t' : Nat} (I : Inv X pins σ H s) (k : ∀ b u, s.heap.get? b = some u → h'.get? b = some u) (hp : s.heap.objs.size ≤ a) (new : ObjOk X.prog X.w (upd H a o) h' a o) :
    Inv X pins σ (upd H a o) { s with heap := h', toks := t' } := I.un (Un.laid k hp (I.hok.fresh hp)) (I.hok.laid k hp new)
/-- an object written -/
theorem Inv.write {x e : Addr} {o : HO} {t' : Nat} (I : Inv X pins σ H s) (mu : Mut (H x)) (he : e = x ∨ H e = some (.own x)) (k : ∀ b u, b ≠ e → s.heap.get? b = some u → h'.get? b = some u) (heo : ∃ u, h'.get? e = some u)
    (new : ObjOk X.prog X.w (upd H x o) h' x o) : Inv X pins σ (upd H x o) { s with heap := h', toks := t' } := I.un (Un.write mu he k heo) (I.hok.write mu he k heo new)
/-- forgetting slots, pins -/
theorem Inv.weak {σ' : List (Option V)} (I : Inv X pins σ H s) (hl : σ'.length = σ.length) (w : ∀ (i : Nat) v, σ'[i]? = some (some v) → σ[i]? = some (some v)) : Inv X pins σ' H s :=
  ⟨I.ok, I.os, I.bare, I.base, let ⟨m, hn, hl'⟩ := I.loc; ⟨m, hn, fun i x v e1 e2 e3 => hl' i x v e1 (w i v e2) e3⟩, I.cell, I.free, I.freeC, I.pin, I.hok, hl.trans I.len⟩
theorem Inv.pins_of {pins' : List (Addr × Obj)} (I : Inv X pins σ H s) (h : ∀ p ∈ pins', s.heap.get? p.1 = some p.2 ∧ H p.1 = none ∧ p.1 ≠ X.env.locals ∧ p.1 ∉ X.fs ∧ ∀ v, p.2.data ≠ .cell v) : Inv X pins' σ H s :=
  ⟨I.ok, I.os, I.bare, I.base, I.loc, I.cell, I.free, I.freeC, fun p hp => (List.mem_append.mp hp).elim (fun z => I.pin p (List.mem_append_left _ z)) (h p), I.hok, I.len⟩

theorem nodup_ix {N : List Str} (hN : N.Nodup) {i j : Nat} {x : Str} (a : N[i]? = some x) (b : N[j]? = some x) : i = j := by
  obtain ⟨h1, e1⟩ := List.getElem?_eq_some_iff.mp a
  obtain ⟨h2, e2⟩ := List.getElem?_eq_some_iff.mp b
  exact (List.getElem_inj hN).mp (e1.trans e2.symm)

/-- a name is stored; what changed -/
theorem store_ok2 {M : Model} {A : Around} {E : Value → Shared → Prop} {i : Nat} {x : Str} {v : V} {u : Value} {Q : Unit → Shared → Prop} (I : Inv X pins σ H s) (hN : X.N.Nodup) (hi : X.N[i]? = some x) (hx : Loc X.env.scope x) (r : RelV v u)
    (h : ∀ s', Inv X pins (σ.set i (some v)) H s' → (∃ a, Heap.SameBut a s.heap s'.heap ∧ (a = X.env.locals ∨ X.env.cells.lookup x = some a)) → Q () s') (hf : X.fn x = true ∨ X.env.scope.names.lookup x = some .local := by first | exact .inl rfl | exact .inr rfl | assumption) : wpAny M A (storeName X.env x u) Q E s := by
  obtain ⟨m, hn, hl⟩ := id I.loc
  have hcls : (X.env.scope.kind == .class || (X.env.scope.kind == .module && X.env.locals != X.env.globals)) = false := by rw [I.ok.kind]; rfl
  have hiσ : i < σ.length := by rw [I.len]; exact (List.getElem?_eq_some_iff.mp hi).1
  have cne := I.cne
  have tracked : ∀ {a : Addr} {h' : Heap}, (∃ o, s.heap.get? a = some o ∧ H a = none) → Heap.SameBut a s.heap h' → HOk X.prog X.w H h' := fun {a h'} ha hs b ob e => by
    obtain ⟨_, _, hfree⟩ := ha
    refine (I.hok b ob e).stay (fun c w' hc q => (hs.2 c ?_).trans q) (fun _ q => q) fun _ _ q => q
    rintro rfl
    rcases hc with rfl | hc
    · rw [hfree] at e; cases e
    · rw [hfree] at hc; cases hc
  rcases hx with hk | hk
  · refine wpAny_storeName_local hk hn (fun h' hn' hs => ?_) hcls
    obtain ⟨oL, _, _, hoL, _⟩ := id hn
    refine h _ ⟨I.ok, I.os, I.bare, ⟨fun b o e n hb hx => ?_, fun b o e n hb hx => ?_, I.base.free, fun b o e hx => ?_, I.base.tups, I.base.frzs, I.base.tbls⟩, ⟨_, hn', fun j y v' e1 e2 e3 => ?_⟩, fun y c e => ?_, I.free, I.freeC, fun p hp => ?_, tracked ⟨oL, hoL, I.free⟩ hs, by simpa using I.len⟩ ⟨_, hs, .inl rfl⟩
    · exact (hs.2 b (Nat.ne_of_lt (Nat.lt_of_lt_of_le (Heap.lt_size e) I.ok.above))).trans (I.base.keep b o e n hb hx)
    · obtain ⟨sl, e1⟩ := I.base.slot b o e n hb hx
      exact ⟨sl, (hs.2 b (Nat.ne_of_lt (Nat.lt_of_lt_of_le (Heap.lt_size e) I.ok.above))).trans e1⟩
    · obtain ⟨o', e1⟩ := I.base.there b o e hx
      exact ⟨o', (hs.2 b (Nat.ne_of_lt (Nat.lt_of_lt_of_le (Heap.lt_size e) I.ok.above))).trans e1⟩
    · by_cases hj : j = i
      · subst hj
        rw [hi] at e1; cases e1
        rw [List.getElem?_set_self hiσ] at e2
        cases e2
        exact ⟨u, r, .inl ⟨hk, by simp⟩⟩
      · rw [List.getElem?_set_ne (Ne.symm hj)] at e2
        obtain ⟨u', r', q⟩ := hl j y v' e1 e2 e3
        refine ⟨u', r', ?_⟩
        rcases q with ⟨k, e⟩ | ⟨k, c, e, z⟩
        · refine .inl ⟨k, ?_⟩
          have : y ≠ x := fun e => hj (nodup_ix hN e1 (e ▸ hi))
          simp [this, e]
        · exact .inr ⟨k, c, e, z.sameBut hs (cne y c e)⟩
    · obtain ⟨w', z⟩ := I.cell y c e
      exact ⟨w', z.sameBut hs (cne y c e)⟩
    · obtain ⟨e, n, ne, nf, d⟩ := I.pin p hp
      exact ⟨(hs.2 p.1 ne).trans e, n, ne, nf, d⟩
  · have hfn : X.fn x = true := by
      rcases hf with z | z
      · exact z
      · rw [z] at hk; cases hk
    obtain ⟨c, hc⟩ := I.ok.has x (.inl hk)
    obtain ⟨w', z⟩ := I.cell x c hc
    refine wpAny_storeName_cell I.ok.kind hk hc z (fun h' hc' hs => ?_)
    obtain ⟨oc, hoc, hocd⟩ := id z
    refine h { s with heap := h' } ⟨I.ok, I.os, I.bare, ⟨fun b o e n hb hx => ?_, fun b o e n hb hx => ?_, I.base.free, fun b o e hx => ?_, I.base.tups, I.base.frzs, I.base.tbls⟩, ⟨m, hn.sameBut hs (Ne.symm (cne x c hc)), fun j y v' e1 e2 e3 => ?_⟩, fun y c' e => ?_, I.free, I.freeC, fun p hp => ?_, tracked ⟨oc, hoc, I.freeC x c hc⟩ hs, by simpa using I.len⟩ ⟨c, hs, .inr hc⟩
    · exact (hs.2 b (Nat.ne_of_lt (Nat.lt_of_lt_of_le (Heap.lt_size e) (I.ok.cab x c hfn hc)))).trans (I.base.keep b o e n hb hx)
    · obtain ⟨sl, e1⟩ := I.base.slot b o e n hb hx
      exact ⟨sl, (hs.2 b (Nat.ne_of_lt (Nat.lt_of_lt_of_le (Heap.lt_size e) (I.ok.cab x c hfn hc)))).trans e1⟩
    · obtain ⟨o', e1⟩ := I.base.there b o e hx
      exact ⟨o', (hs.2 b (Nat.ne_of_lt (Nat.lt_of_lt_of_le (Heap.lt_size e) (I.ok.cab x c hfn hc)))).trans e1⟩
    · by_cases hj : j = i
      · subst hj
        rw [hi] at e1; cases e1
        rw [List.getElem?_set_self hiσ] at e2
        cases e2
        exact ⟨u, r, .inr ⟨.inl hk, c, hc, hc'⟩⟩
      · rw [List.getElem?_set_ne (Ne.symm hj)] at e2
        obtain ⟨u', r', q⟩ := hl j y v' e1 e2 e3
        refine ⟨u', r', ?_⟩
        rcases q with q | ⟨k, c', e, z'⟩
        · exact .inl q
        · refine .inr ⟨k, c', e, z'.sameBut hs ?_⟩
          rintro rfl
          exact hj (nodup_ix hN e1 (I.ok.inj _ _ _ e hc ▸ hi))
    · by_cases hcc : c' = c
      · subst hcc; exact ⟨_, hc'⟩
      · obtain ⟨w2, z2⟩ := I.cell y c' e
        exact ⟨w2, z2.sameBut hs hcc⟩
    · obtain ⟨e, n, ne, nf, d⟩ := I.pin p hp
      refine ⟨(hs.2 p.1 ?_).trans e, n, ne, nf, d⟩
      intro q
      rw [q, hoc] at e
      have q' : oc = p.2 := Option.some.inj e
      exact d w' (by rw [← q']; exact hocd)
theorem store_ok {M : Model} {A : Around} {E : Value → Shared → Prop} {i : Nat} {x : Str} {v : V} {u : Value} {Q : Unit → Shared → Prop} (I : Inv X pins σ H s) (hN : X.N.Nodup) (hi : X.N[i]? = some x) (hx : Loc X.env.scope x) (r : RelV v u)
    (h : ∀ s', Inv X pins (σ.set i (some v)) H s' → Q () s') (hf : X.fn x = true ∨ X.env.scope.names.lookup x = some .local := by first | exact .inl rfl | exact .inr rfl | assumption) : wpAny M A (storeName X.env x u) Q E s :=
  store_ok2 I hN hi hx r (fun s' I' _ => h s' I') hf
/-- behind a call or a block, the state as it is -/
theorem Inv.call' {s' : Shared} {ch : List Addr} (I : Inv X pins σ H s) (ho : s'.os = s.os) (u : Un (frs X.stack) ch H H' s.heap s'.heap) (hok : HOk X.prog X.w H' s'.heap) (hg : AllBare s'.gens)
    (hch : ∀ b ∈ ch, (b ∈ X.ex ∨ X.s₀.heap.objs.size ≤ b) ∧ b ≠ X.env.locals ∧ (∀ x c, X.env.cells.lookup x = some c → c ≠ b) ∧ ∀ p ∈ X.pn ++ pins, p.1 ≠ b) : Inv X pins σ H' s' := by
  obtain ⟨h', g', d', t', o'⟩ := s'
  have e : o' = s.os := ho
  subst e
  exact I.call (g' := g') (t' := t') (d' := d') u hok hg hch
end

/-! ### the judgements -/
/-- an exception: its class, its own dict's address (where it has one), the abstract heap behind it -/
abbrev XK := Value → Option Addr → Hp → Prop
abbrev St := List (Option V)
abbrev VK := V → Hp → Prop
/-- an expression's reading; a test's; an argument list's -/
abbrev TE := St → Hp → VK → Prop
abbrev TT := St → Hp → (Bool → Hp → Prop) → Prop
abbrev TA := St → Hp → (List V → Hp → Prop) → Prop
/-- what is wanted behind a statement -/
structure Ends where
  nx : St → Hp → Prop
  rt : VK
  bk : St → Hp → Prop := fun _ _ => False
  ct : St → Hp → Prop := fun _ _ => False
abbrev TS := Ends → St → Hp → Prop

def EP (X : Cx) (pins : List (Addr × Obj)) (σ : St) (Q : VK) (u : Value) (s' : Shared) : Prop := ∃ v H', Inv X pins σ H' s' ∧ RelV v u ∧ Q v H'
def TP (X : Cx) (pins : List (Addr × Obj)) (σ : St) (Q : Bool → Hp → Prop) (b : Bool) (s' : Shared) : Prop := ∃ H', Inv X pins σ H' s' ∧ Q b H'
def AP (X : Cx) (pins : List (Addr × Obj)) (σ : St) (Q : List V → Hp → Prop) (us : List Value) (s' : Shared) : Prop := ∃ vs H', Inv X pins σ H' s' ∧ Vals vs us ∧ Q vs H'
def SP (X : Cx) (pins : List (Addr × Obj)) (D : Ends) (f : Flow) (s' : Shared) : Prop :=
  match f with
  | .next => ∃ σ' H', Inv X pins σ' H' s' ∧ D.nx σ' H'
  | .brk => ∃ σ' H', Inv X pins σ' H' s' ∧ D.bk σ' H'
  | .cont => ∃ σ' H', Inv X pins σ' H' s' ∧ D.ct σ' H'
  | .ret u => ∃ v σ' H', Inv X pins σ' H' s' ∧ RelV v u ∧ D.rt v H'

def PE (X : Cx) (e : Expr) (t : TE) : Prop :=
  ∀ (pins : List (Addr × Obj)) (s : Shared) (σ : St) (H : Hp) (Q : VK), Inv X pins σ H s → t σ H Q → wpAny (model X.prog X.w) X.A (eval e X.env) (EP X pins σ Q) X.xe s
def PT (X : Cx) (e : Expr) (t : TT) : Prop :=
  ∀ (pins : List (Addr × Obj)) (s : Shared) (σ : St) (H : Hp) (Q : Bool → Hp → Prop), Inv X pins σ H s → t σ H Q → wpAny (model X.prog X.w) X.A (isTrue e X.env (eval e X.env)) (TP X pins σ Q) X.xe s
/-- a test whatever its 'whole' is (and, or) -/
def PW (X : Cx) (e : Expr) (t : TT) : Prop :=
  ∀ (whole : Sem Value) (pins : List (Addr × Obj)) (s : Shared) (σ : St) (H : Hp) (Q : Bool → Hp → Prop), Inv X pins σ H s → t σ H Q → wpAny (model X.prog X.w) X.A (isTrue e X.env whole) (TP X pins σ Q) X.xe s
theorem PW.pt {X : Cx} {e : Expr} {t : TT} (h : PW X e t) : PT X e t := h _
/-- an argument list (no star), from the left -/
def PA (X : Cx) (es : List Expr) (t : TA) : Prop :=
  ∀ (pos : Pos) (pins : List (Addr × Obj)) (s : Shared) (σ : St) (H : Hp) (Q : List V → Hp → Prop), Inv X pins σ H s → t σ H Q → wpAny (model X.prog X.w) X.A (spliced (backTo pos (starEach es X.env))) (AP X pins σ Q) X.xe s
def PS (X : Cx) (st : Stmt) (t : TS) : Prop :=
  ∀ (pins : List (Addr × Obj)) (s : Shared) (σ : St) (H : Hp) (D : Ends), Inv X pins σ H s → t D σ H → wpAny (model X.prog X.w) X.A (exec st X.env) (SP X pins D) X.xe s
def PSs (X : Cx) (st : List Stmt) (t : TS) : Prop :=
  ∀ (pins : List (Addr × Obj)) (s : Shared) (σ : St) (H : Hp) (D : Ends), Inv X pins σ H s → t D σ H → wpAny (model X.prog X.w) X.A (execs st X.env) (SP X pins D) X.xe s
/-- weaken the end -/
theorem thn {α : Type} {t : Sem α} {Q Q' : α → Shared → Prop} {M : Model} {A : Around} {E : Value → Shared → Prop} {s : Shared} (h : wpAny M A t Q E s) (hQ : ∀ a s, Q a s → Q' a s) : wpAny M A t Q' E s := wpAny_mono h hQ fun _ _ x => x
end L2

namespace L2
open PySem PySem.Spec PyProof.Rows
section
variable {X : Cx}


/-! ### names and constants -/
def tVar (i : Nat) : TE := fun σ H Q => ∃ v, σ[i]? = some (some v) ∧ Q v H
def tC (v : V) : TE := fun _ H Q => Q v H
theorem pe_var {i : Nat} {x : Str} {pos : Pos} (hN : X.N[i]? = some x) (hv : Vis X.env.scope x) (hd : (x == ("__debug__" : Str)) = false := by decide) (hcd : (x == ("__classdict__" : Str)) = false := by decide) : PE X (.Name x pos) (tVar i) := by
  intro pins s σ H Q I h
  obtain ⟨v, e, h⟩ := h
  obtain ⟨m, hn, hl⟩ := I.loc
  obtain ⟨u, r, l⟩ := hl i x v hN e hv
  have fin : EP X pins σ Q u s := ⟨v, H, I, r, h⟩
  rcases l with ⟨hk, hm⟩ | ⟨hk, c, hc, hcell⟩
  · exact wpAny_Name (wpAny_loadName_local I.ok.kind hk hn hm fin) hd
  · rcases hk with hk | hk
    · exact wpAny_Name (wpAny_loadName_cell I.ok.kind hk hc hcell fin) hd
    · exact wpAny_Name (wpAny_loadName_free I.ok.kind hk hc hcell fin hcd) hd
theorem pe_int {i j pos} : PE X (.Constant (.int i) j pos) (tC (.int i)) := fun _ _ _ H _ I h => wpAny_Constant_int ⟨.int i, H, I.tok _, ⟨_, rfl⟩, h⟩
theorem pe_bl {b j pos} : PE X (.Constant (.bool b) j pos) (tC (.bl b)) := fun _ _ _ H _ I h => Constant_bool ⟨.bl b, H, I, rfl, h⟩
theorem pe_str {x j pos} : PE X (.Constant (.str x) j pos) (tC (.str x)) := fun _ _ _ H _ I h => Calls.Constant_str ⟨.str x, H, I.tok _, ⟨_, rfl⟩, h⟩

/-- a global name of the def -/
def Gl (X : Cx) (x : Str) : Prop := X.env.kindOf x = some .globalImplicit
theorem ld_glob {E : Value → Shared → Prop} {pins : List (Addr × Obj)} {s : Shared} {σ : St} {H : Hp} {x : Str} {u : Value} {pos : Pos} {Q : Value → Shared → Prop} (I : Inv X pins σ H s) (hg : Gl X x) (hm : X.mg x = some u) (h : Q u s)
    (hd : (x == ("__debug__" : Str)) = false := by decide) : wpAny (model X.prog X.w) X.A (eval (.Name x pos) X.env) Q E s :=
  Calls.Name_function_global I.ok.kind hg (Calls.loadGlobal_global (by rw [I.ok.glob]; exact I.mod.glob.keeps I.bk) hm h) hd
theorem ld_blt {E : Value → Shared → Prop} {pins : List (Addr × Obj)} {s : Shared} {σ : St} {H : Hp} {x : Str} {u : Value} {pos : Pos} {Q : Value → Shared → Prop} (I : Inv X pins σ H s) (hg : Gl X x) (hm : X.mg x = none) (hv : bootBuiltins x = some u) (h : Q u s)
    (hn : x ≠ "__name__" := by decide) (hd : (x == ("__debug__" : Str)) = false := by decide) : wpAny (model X.prog X.w) X.A (eval (.Name x pos) X.env) Q E s := by
  obtain ⟨mb, h1, h2⟩ := I.mod.blt
  exact Calls.Name_function_global I.ok.kind hg (Calls.loadGlobal_builtin (by rw [I.ok.glob]; exact I.mod.glob.keeps I.bk) hm (by rw [I.ok.blt]; exact h1.keeps I.bk) ((h2 x hn).trans hv) h) hd
/-- a module's constant, a class, a function, as a value -/
theorem pe_glob {x : Str} {v : V} {u : Value} {pos : Pos} (hg : Gl X x) (hm : X.mg x = some u) (r : RelV v u) (hd : (x == ("__debug__" : Str)) = false := by decide) : PE X (.Name x pos) (tC v) :=
  fun _ _ _ H _ I h => ld_glob I hg hm ⟨v, H, I, r, h⟩ hd
theorem pe_bltn {x : Str} {v : V} {u : Value} {pos : Pos} (hg : Gl X x) (hm : X.mg x = none) (hv : bootBuiltins x = some u) (r : RelV v u) (hn : x ≠ "__name__" := by decide) (hd : (x == ("__debug__" : Str)) = false := by decide) : PE X (.Name x pos) (tC v) :=
  fun _ _ _ H _ I h => ld_blt I hg hm hv ⟨v, H, I, r, h⟩ hn hd

/-! ### arithmetic -/
variable {a b : Expr} {ta tb : TE} {pos : Pos}

/-! ### comparisons -/
/-- a comparison as a value, as a test -/
def tB (t : TE) : TT := fun σ H Q => t σ H fun x H1 => ∃ c, x = .bl c ∧ Q c H1
/-- an expression whose value is a bool, as a test -/
theorem pt_val {e : Expr} {t : TE} (h : PE X e t) (he : ∀ whole, isTrue e X.env whole = (do let v ← whole; standAt e.pos; holding [v] (truthy v)) := by intro _; rfl) : PT X e (tB t) := by
  intro pins s σ H Q I hw
  refine isTrue_plain (thn (h pins s σ H _ I hw) fun v s1 ⟨x, H1, I1, r1, q1⟩ => ?_) (he _)
  obtain ⟨d, rfl, q⟩ := q1
  cases r1
  exact wpAny_truthy_bool ⟨H1, I1, q⟩

/-! ### and, or, not -/
variable {tA tB' : TT} {rest : List Expr}
def tAnd (t u : TT) : TT := fun σ H Q => t σ H fun c H1 => if c = true then u σ H1 Q else Q false H1
def tOr (t u : TT) : TT := fun σ H Q => t σ H fun c H1 => if c = true then Q true H1 else u σ H1 Q
def tNot (t : TT) : TT := fun σ H Q => t σ H fun c H1 => Q (!c) H1
theorem pw_and1 (ha : PT X a tA) : PW X (.BoolOp .And [a] pos) tA := by
  intro wh pins s σ H Q I h
  refine isTrue_and (thn (ha pins s σ H Q I h) fun c s1 e => ?_)
  cases c with
  | true => exact isTrue_and_nil e
  | false => exact e
theorem pw_or1 (ha : PT X a tA) : PW X (.BoolOp .Or [a] pos) tA := by
  intro wh pins s σ H Q I h
  refine isTrue_or (thn (ha pins s σ H Q I h) fun c s1 e => ?_)
  cases c with
  | false => exact isTrue_or_nil e
  | true => exact e
theorem pw_and (ha : PT X a tA) (hb : PW X (.BoolOp .And (b :: rest) pos) tB') : PW X (.BoolOp .And (a :: b :: rest) pos) (tAnd tA tB') := by
  intro wh pins s σ H Q I h
  refine isTrue_and (thn (ha pins s σ H _ I h) fun c s1 ⟨H1, I1, q1⟩ => ?_)
  cases c with
  | true => exact hb wh pins s1 σ H1 Q I1 q1
  | false => exact ⟨H1, I1, q1⟩
theorem pw_or (ha : PT X a tA) (hb : PW X (.BoolOp .Or (b :: rest) pos) tB') : PW X (.BoolOp .Or (a :: b :: rest) pos) (tOr tA tB') := by
  intro wh pins s σ H Q I h
  refine isTrue_or (thn (ha pins s σ H _ I h) fun c s1 ⟨H1, I1, q1⟩ => ?_)
  cases c with
  | true => exact ⟨H1, I1, q1⟩
  | false => exact hb wh pins s1 σ H1 Q I1 q1
theorem pt_not (ha : PT X a tA) : PT X (.UnaryOp .Not a pos) (tNot tA) := by
  intro pins s σ H Q I h
  exact isTrue_not (ha pins s σ H (fun c H1 => Q (!c) H1) I h)
/-- .. as values (bools) -/
def tAndV (ta tb : TE) : TE := fun σ H Q => ta σ H fun x H1 => ∃ c, x = .bl c ∧ if c = true then tb σ H1 Q else Q (.bl false) H1
def tNotV (ta : TE) : TE := fun σ H Q => ta σ H fun x H1 => ∃ c, x = .bl c ∧ Q (.bl (!c)) H1
theorem pe_one {op} {t : TE} (h : PE X a t) : PE X (.BoolOp op [a] pos) t := fun pins s σ H Q I hw => BoolOp_one (h pins s σ H Q I hw)
theorem pe_and (ha : PE X a ta) (hb : PE X (.BoolOp .And (b :: rest) pos) tb) : PE X (.BoolOp .And (a :: b :: rest) pos) (tAndV ta tb) := by
  intro pins s σ H Q I h
  refine BoolOp_and (thn (ha pins s σ H _ I h) fun v s1 ⟨x, H1, I1, r1, q1⟩ => ?_)
  obtain ⟨c, rfl, q1⟩ := q1
  cases r1
  refine wpAny_truthy_bool ?_
  cases c with
  | true => exact hb pins s1 σ H1 Q I1 q1
  | false => exact ⟨.bl false, H1, I1, rfl, q1⟩
theorem pe_not (ha : PE X a ta) : PE X (.UnaryOp .Not a pos) (tNotV ta) := by
  intro pins s σ H Q I h
  refine UnaryOp_ (thn (ha pins s σ H _ I h) fun v s1 ⟨x, H1, I1, r1, q1⟩ => ?_)
  obtain ⟨c, rfl, q1⟩ := q1
  cases r1
  exact not_of (wpAny_truthy_bool ⟨.bl (!c), H1, I1, rfl, q1⟩)
/-- a if t else b -/
def tIf (t : TT) (ta tb : TE) : TE := fun σ H Q => t σ H fun c H1 => if c = true then ta σ H1 Q else tb σ H1 Q
theorem pe_ifExp {c : Expr} (hc : PT X c tA) (ha : PE X a ta) (hb : PE X b tb) : PE X (.IfExp c a b pos) (tIf tA ta tb) := by
  intro pins s σ H Q I h
  refine wpAny_IfExp (thn (hc pins s σ H _ I h) fun d s1 ⟨H1, I1, q1⟩ => ?_)
  cases d with
  | true => exact ha pins s1 σ H1 Q I1 q1
  | false => exact hb pins s1 σ H1 Q I1 q1
end
end L2

namespace L2
open PySem PySem.Spec PyProof.Rows

/-! ### a list, a tuple that is read: tracked, frozen, or an object of the module -/
def SqL (K : PySem.W.Frag) (H : Hp) (a : Addr) (xs : List V) : Prop :=
  Rd H a (.lst xs) ∨
    ∃ (o : Obj) (its : Array Value) (n : Nat), K.lookup a = some o ∧ o.cls = .type "list" ∧ o.dict = none ∧ o.data = .seq its n ∧ its.size ≤ sizeLine ∧ Vals xs its.toList
def SqT (K : PySem.W.Frag) (H : Hp) (a : Addr) (xs : List V) : Prop :=
  Rd H a (.tup xs) ∨
    ∃ (o : Obj) (its : Array Value) (n : Nat), K.lookup a = some o ∧ o.cls = .type "tuple" ∧ o.data = .seq its n ∧ its.size ≤ sizeLine ∧ Vals xs its.toList
def absV : Value → Option V
  | .none => some .non
  | .bool b => some (.bl b)
  | .int i _ => some (.int i)
  | .str x _ => some (.str x)
  | .bytes b _ => some (.byt b)
  | .float b _ => some (.flt b)
  | .ref a => some (.ref a)
  | .type n => some (.ty n)
  | _ => none
theorem RelV.abs {x : V} {u : Value} (r : RelV x u) : absV u = some x := by
  cases x with
  | non => cases r; rfl
  | bl _ => cases r; rfl
  | int _ => obtain ⟨t, rfl⟩ := r; rfl
  | str _ => obtain ⟨t, rfl⟩ := r; rfl
  | byt _ => obtain ⟨t, rfl⟩ := r; rfl
  | flt _ => obtain ⟨t, rfl⟩ := r; rfl
  | ref _ => cases r; rfl
  | ty _ => cases r; rfl
theorem RelV.inj {x y : V} {u : Value} (r : RelV x u) (q : RelV y u) : x = y := Option.some.inj (r.abs.symm.trans q.abs)
theorem Vals.inj : ∀ {xs ys : List V} {us : List Value}, Vals xs us → Vals ys us → xs = ys
  | _, _, _, .nil, .nil => rfl
  | _, _, _, .cons r t, .cons r' t' => by rw [r.inj r', Vals.inj t t']
section
variable {X : Cx} {pins : List (Addr × Obj)} {σ : St} {H : Hp} {s : Shared} {a : Addr} {xs ys : List V}
theorem SqL.of {K : PySem.W.Frag} (h : H a = some (.lst xs)) : SqL K H a xs := .inl (.inl h)
theorem SqT.of {K : PySem.W.Frag} (h : H a = some (.tup xs)) : SqT K H a xs := .inl (.inl h)
theorem Inv.list (I : Inv X pins σ H s) (h : SqL X.K H a xs) : ∃ its : List Value, Vals xs its ∧ PlainL s.heap a its.toArray ∧ xs.length ≤ sizeLine := by
  rcases h with h | ⟨o, its, n, hk, hc, hd, hs, hz, r⟩
  · obtain ⟨z, its, n, r, e⟩ := h.ok I.hok
    exact ⟨its, r, ⟨_, n, e, rfl, rfl, rfl⟩, z⟩
  · refine ⟨its.toList, r, ⟨o, n, I.kIn a o hk, hc, hd, by simpa using hs⟩, ?_⟩
    have e := r.length
    simp only [Array.length_toList] at e
    omega
theorem Inv.tuple (I : Inv X pins σ H s) (h : SqT X.K H a xs) : ∃ its : List Value, Vals xs its ∧ IsTup s.heap a its.toArray ∧ xs.length ≤ sizeLine := by
  rcases h with h | ⟨o, its, n, hk, hc, hs, hz, r⟩
  · obtain ⟨z, its, r, p⟩ := h.ok I.hok
    exact ⟨its, r, p, z⟩
  · refine ⟨its.toList, r, ⟨o, I.kIn a o hk, hc, n, by simpa using hs⟩, ?_⟩
    have e := r.length
    simp only [Array.length_toList] at e
    omega
theorem Inv.list_inj (I : Inv X pins σ H s) (h : SqL X.K H a xs) (h' : SqL X.K H a ys) : xs = ys := by
  obtain ⟨its, r, ⟨o, n, e, _, _, d⟩, _⟩ := I.list h
  obtain ⟨its', r', ⟨o', n', e', _, _, d'⟩, _⟩ := I.list h'
  rw [e] at e'; cases e'
  rw [d] at d'
  injection d' with d1 _
  have : its = its' := by simpa using congrArg Array.toList d1
  subst this
  exact r.inj r'
theorem Inv.tuple_inj (I : Inv X pins σ H s) (h : SqT X.K H a xs) (h' : SqT X.K H a ys) : xs = ys := by
  obtain ⟨its, r, ⟨o, e, _, n, d⟩, _⟩ := I.tuple h
  obtain ⟨its', r', ⟨o', e', _, n', d'⟩, _⟩ := I.tuple h'
  rw [e] at e'; cases e'
  rw [d] at d'
  injection d' with d1 _
  have : its = its' := by simpa using congrArg Array.toList d1
  subst this
  exact r.inj r'
end

/-! ### another wish about exceptions -/
abbrev Cx.wish (X : Cx) (E : Value → Shared → Prop) : Cx := { X with xe := E }
/-- no exception leaves -/
abbrev Cx.nox (X : Cx) : Cx := X.wish fun _ _ => False
theorem Cx.Ok.wish {X : Cx} (ok : X.Ok) (E : Value → Shared → Prop) : (X.wish E).Ok :=
  ⟨ok.mod, ok.kind, ok.glob, ok.blt, ok.above, ok.inj, ok.has, ok.cab, ok.hd, ok.frames, ok.stk, ok.exf, ok.bs, ok.bsz, ok.noex, ok.exfs, ok.funs, ok.frf⟩
theorem Cx.Ok.unwish {X : Cx} {E : Value → Shared → Prop} (ok : (X.wish E).Ok) : X.Ok :=
  ⟨ok.mod, ok.kind, ok.glob, ok.blt, ok.above, ok.inj, ok.has, ok.cab, ok.hd, ok.frames, ok.stk, ok.exf, ok.bs, ok.bsz, ok.noex, ok.exfs, ok.funs, ok.frf⟩
section
variable {X : Cx} {pins : List (Addr × Obj)} {σ : St} {H : Hp} {s : Shared} {E : Value → Shared → Prop}
theorem Inv.wish (I : Inv X pins σ H s) (E : Value → Shared → Prop) : Inv (X.wish E) pins σ H s := ⟨I.ok.wish E, I.os, I.bare, I.base, I.loc, I.cell, I.free, I.freeC, I.pin, I.hok, I.len⟩
theorem Inv.unwish (I : Inv (X.wish E) pins σ H s) : Inv X pins σ H s := ⟨I.ok.unwish, I.os, I.bare, I.base, I.loc, I.cell, I.free, I.freeC, I.pin, I.hok, I.len⟩
theorem SP.unwish {D : Ends} {f : Flow} {s' : Shared} (h : SP (X.wish E) pins D f s') : SP X pins D f s' := by
  cases f with
  | next => obtain ⟨σ', H', I, q⟩ := h; exact ⟨σ', H', I.unwish, q⟩
  | brk => obtain ⟨σ', H', I, q⟩ := h; exact ⟨σ', H', I.unwish, q⟩
  | cont => obtain ⟨σ', H', I, q⟩ := h; exact ⟨σ', H', I.unwish, q⟩
  | ret u => obtain ⟨v, σ', H', I, r, q⟩ := h; exact ⟨v, σ', H', I.unwish, r, q⟩
theorem PSs.nox {st : List Stmt} {t : TS} (h : PSs X.nox st t) : PSs X st t := fun pins s σ H D I hw =>
  wpAny_mono (h pins s σ H D (I.wish _) hw) (fun _ _ q => q.unwish) fun _ _ z => False.elim z
end

/-! ### blocks and small statements -/
section
variable {X : Cx} {st : Stmt} {rest : List Stmt} {t u : TS} {e : Expr} {te : TE} {pos : Pos}
def tNext : TS := fun D σ H => D.nx σ H
def tSeq (t u : TS) : TS := fun D σ H => t { D with nx := u D } σ H
theorem pss_nil : PSs X [] tNext := fun _ _ σ H _ I h => wpAny_execs_nil ⟨σ, H, I, h⟩
theorem pss_cons (h1 : PS X st t) (h2 : PSs X rest u) : PSs X (st :: rest) (tSeq t u) := by
  intro pins s σ H D I h
  refine wpAny_execs_cons (thn (h1 pins s σ H { D with nx := u D } I h) fun f s1 q => ?_)
  cases f with
  | next =>
    obtain ⟨σ', H', I', q⟩ := q
    exact h2 pins s1 σ' H' D I' q
  | ret v => exact q
  | brk => exact q
  | cont => exact q
theorem pss_one (h1 : PS X st t) : PSs X [st] t := by
  intro pins s σ H D I h
  refine wpAny_execs_cons (thn (h1 pins s σ H D I h) fun f s1 q => ?_)
  cases f with
  | next => exact wpAny_execs_nil q
  | ret v => exact q
  | brk => exact q
  | cont => exact q
/-- in a def's body nothing is shown -/
theorem Inv.quiet {pins : List (Addr × Obj)} {σ : St} {H : Hp} {s : Shared} (I : Inv X pins σ H s) : interactive X.env = false := by simp [interactive, I.ok.kind]
/-- an expression whose value is dropped -/
def tDrop (te : TE) : TS := fun D σ H => te σ H fun _ H1 => D.nx σ H1
theorem ps_expr (he : PE X e te) (hs : swapsWith e none pos.line X.env = pure false := by rfl) : PS X (.Expr e pos) (tDrop te) := by
  intro pins s σ H D I h
  exact wpAny_Expr_any (thn (he pins s σ H _ I h) fun v s1 ⟨x, H1, I1, r1, q1⟩ => ⟨σ, H1, I1, q1⟩) I.quiet hs
def tRet (te : TE) : TS := fun D σ H => te σ H D.rt
theorem ps_ret (he : PE X e te) : PS X (.Return (some e) pos) (tRet te) := by
  intro pins s σ H D I h
  exact wpAny_Return_some (thn (he pins s σ H _ I h) fun v s1 ⟨x, H1, I1, r1, q1⟩ => ⟨x, σ, H1, I1, r1, q1⟩)
def tIfS (c : TT) (t u : TS) : TS := fun D σ H => c σ H fun b H1 => if b = true then t D σ H1 else u D σ H1
theorem ps_if {c : Expr} {a b : List Stmt} {tc : TT} (hc : PT X c tc) (ha : PSs X a t) (hb : PSs X b u) : PS X (.If c a b pos) (tIfS tc t u) := by
  intro pins s σ H D I h
  refine wpAny_If (thn (hc pins s σ H _ I h) fun d s1 ⟨H1, I1, q1⟩ => ?_)
  cases d with
  | true => exact ha pins s1 σ H1 D I1 q1
  | false => exact hb pins s1 σ H1 D I1 q1
/-- code that the proof never comes to -/
def tNever : TS := fun _ _ _ => False
theorem ps_never : PS X st tNever := fun _ _ _ _ _ _ h => h.elim
end

/-! ### targets -/
abbrev TG := V → St → Hp → (St → Hp → Prop) → Prop
abbrev TGs := List V → St → Hp → (St → Hp → Prop) → Prop
def PG (X : Cx) (target : Expr) (t : TG) : Prop :=
  ∀ (pins : List (Addr × Obj)) (s : Shared) (σ : St) (H : Hp) (v : V) (u : Value) (Q : St → Hp → Prop), Inv X pins σ H s → RelV v u → t v σ H Q →
    wpAny (model X.prog X.w) X.A (assign target X.env u) (fun _ s' => ∃ σ' H', Inv X pins σ' H' s' ∧ Q σ' H') X.xe s
/-- several targets, one after another -/
def PGs (X : Cx) (ts : List Expr) (t : TGs) : Prop :=
  ∀ (pins : List (Addr × Obj)) (s : Shared) (σ : St) (H : Hp) (vs : List V) (us : List Value) (Q : St → Hp → Prop), Inv X pins σ H s → Vals vs us → t vs σ H Q →
    wpAny (model X.prog X.w) X.A (assignInOrder ((assignEach ts X.env).map (·.2)) us) (fun _ s' => ∃ σ' H', Inv X pins σ' H' s' ∧ Q σ' H') X.xe s
/-- o[i] = v, by values -/
abbrev TSet := V → V → V → Hp → (Hp → Prop) → Prop
def PSet (X : Cx) (t : TSet) : Prop :=
  ∀ (pins : List (Addr × Obj)) (s : Shared) (σ : St) (H : Hp) (o i v : V) (ov iv u : Value) (Q : Hp → Prop), Inv X pins σ H s → RelV o ov → RelV i iv → RelV v u → t o i v H Q →
    wpAny (model X.prog X.w) X.A (setItem ov iv u) (fun _ s' => ∃ H', Inv X pins σ H' s' ∧ Q H') X.xe s
/-- a op= b, by values -/
abbrev TIp := V → V → Hp → VK → Prop
def PIp (X : Cx) (op : Operator) (t : TIp) : Prop :=
  ∀ (pins : List (Addr × Obj)) (s : Shared) (σ : St) (H : Hp) (x y : V) (v u : Value) (Q : VK), Inv X pins σ H s → RelV x v → RelV y u → t x y H Q →
    wpAny (model X.prog X.w) X.A (inplaceOp op v u) (EP X pins σ Q) X.xe s
section
variable {X : Cx} {pos : Pos}
def gName (i : Nat) : TG := fun v σ H Q => Q (σ.set i (some v)) H
theorem pg_name {i : Nat} {x : Str} (hN : X.N.Nodup) (hi : X.N[i]? = some x) (hx : Loc X.env.scope x) (hf : X.fn x = true ∨ X.env.scope.names.lookup x = some .local := by first | exact .inl rfl | exact .inr rfl | assumption) : PG X (.Name x pos) (gName i) := by
  intro pins s σ H v u Q I r h
  exact wpAny_assign_Name (store_ok I hN hi hx r (fun s' I' => ⟨_, H, I', h⟩) hf)
def gNil : TGs := fun vs σ H Q => vs = [] ∧ Q σ H
def gCons (t : TG) (u : TGs) : TGs := fun vs σ H Q => ∃ v r, vs = v :: r ∧ t v σ H fun σ' H' => u r σ' H' Q
theorem pgs_nil : PGs X [] gNil := by
  intro pins s σ H vs us Q I r h
  obtain ⟨e, h⟩ := h
  subst e
  cases r
  exact assignInOrder_nil ⟨σ, H, I, h⟩
theorem pgs_cons {e : Expr} {es : List Expr} {t : TG} {u : TGs} (h1 : PG X e t) (h2 : PGs X es u)
    (hs : (assignEach (e :: es) X.env).map (·.2) = assign e X.env :: (assignEach es X.env).map (·.2) := by rfl) : PGs X (e :: es) (gCons t u) := by
  intro pins s σ H vs us Q I r h
  obtain ⟨v, vr, e1, h⟩ := h
  subst e1
  cases r with
  | cons r rr =>
    rw [hs]
    refine assignInOrder_cons (thn (h1 pins s σ H _ _ _ I r h) fun _ s1 ⟨σ1, H1, I1, q1⟩ => ?_)
    exact h2 pins s1 σ1 H1 _ _ Q I1 rr q1
/-- (a, b, ..) = a tuple of that length -/
def gTup (K : PySem.W.Frag) (n : Nat) (t : TGs) : TG := fun v σ H Q => ∃ a xs, v = .ref a ∧ SqT K H a xs ∧ xs.length = n ∧ t xs σ H Q
theorem pg_tup {es : List Expr} {k : Nat} {t : TGs} {n : Nat} (hc : X.calm = true) (h : PGs X es t)
    (hn : (assignEach es X.env).length = n := by rfl) (hst : (assignEach es X.env).findIdx? (·.1) = none := by rfl) : PG X (.Tuple es k pos) (gTup X.K n t) := by
  intro pins s σ H v u Q I r hw
  obtain ⟨a, xs, e1, hq, hl, hw⟩ := hw
  subst e1
  cases r
  obtain ⟨its, rv, ht, hz⟩ := I.tuple hq
  refine assign_Tuple_tuple (I.ok.hd hc) ht (by simp [hn, ← hl, rv.length]) hst fun h' hx => ?_
  have I1 : Inv X pins σ H { s with heap := h' } := I.kept (t' := s.toks) fun b o e => hx b o (Nat.ne_of_lt (Heap.lt_size e)) e
  exact h pins _ σ H xs _ Q I1 (by simpa using rv) hw
/-- o[i] = .. -/
def gSub (to ti : TE) (t : TSet) : TG := fun v σ H Q => to σ H fun o H1 => ti σ H1 fun i H2 => t o i v H2 fun H3 => Q σ H3
theorem pg_sub {o i : Expr} {to ti : TE} {t : TSet} (ho : PE X o to) (hi : PE X i ti) (hs : PSet X t)
    (ha : ∀ v, assign (.Subscript o i pos) X.env v = (do
      let ov ← holding [v] (eval o X.env)
      let iv ← holding [v, ov] (eval i X.env)
      standAt pos
      holding [v, ov, iv] (setItem ov iv v)
      release [v, ov, iv] []) := by intro _; rfl) : PG X (.Subscript o i pos) (gSub to ti t) := by
  intro pins s σ H v u Q I r h
  rw [ha]
  refine wpAny_bind (wpAny_holding (thn (ho pins s σ H _ I h) fun ov s1 ⟨x, H1, I1, r1, q1⟩ => ?_))
  refine wpAny_bind (wpAny_holding (thn (hi pins s1 σ H1 _ I1 q1) fun iv s2 ⟨y, H2, I2, r2, q2⟩ => ?_))
  refine wpAny_bind (wpAny_standAt (wpAny_bind (wpAny_holding (thn (hs pins s2 σ H2 x y v ov iv u _ I2 r1 r2 r q2) fun _ s3 ⟨H3, I3, q3⟩ => ?_))))
  exact wpAny_release ⟨σ, H3, I3, q3⟩
/-- target = value -/
def tAsg (te : TE) (g : TG) : TS := fun D σ H => te σ H fun x H1 => g x σ H1 D.nx
theorem ps_asg {tg e : Expr} {te : TE} {g : TG} (he : PE X e te) (hg : PG X tg g) (hs : swapsWithSole [tg] e pos.line X.env = pure false := by rfl) (hw : swappedStores [tg] e X.env = pure none := by rfl)
    (h1 : (assignEach [tg] X.env).map (·.2) = [assign tg X.env] := by rfl) : PS X (.Assign [tg] e pos) (tAsg te g) := by
  intro pins s σ H D I h
  refine wpAny_Assign_stores (thn (he pins s σ H _ I h) fun v s1 ⟨x, H1, I1, r1, q1⟩ => ?_) hs hw
  rw [h1]
  exact thn (hg pins s1 σ H1 x v _ I1 r1 q1) fun _ s2 q => q
/-- name = value -/
theorem ps_set {i : Nat} {x : Str} {e : Expr} {te : TE} {pos' : Pos} (hN : X.N.Nodup) (hi : X.N[i]? = some x) (hx : Loc X.env.scope x) (he : PE X e te) (hs : swapsWith e (some (.Name x pos')) pos.line X.env = pure false := by rfl) (hf : X.fn x = true ∨ X.env.scope.names.lookup x = some .local := by first | exact .inl rfl | exact .inr rfl | assumption) :
    PS X (.Assign [.Name x pos'] e pos) (tAsg te (gName i)) := by
  intro pins s σ H D I h
  refine wpAny_Assign_Name (thn (he pins s σ H _ I h) fun v s1 ⟨y, H1, I1, r1, q1⟩ => ?_) hs
  exact store_ok I1 hN hi hx r1 (fun s2 I2 => ⟨_, H1, I2, q1⟩) hf
/-- a, b = x, y with plain local names: stored from the right; the pair itself is not tracked (the opening rows as in PyProof/Rows/TupAssign.lean:23) -/
def tPar (i j : Nat) (ta : TA) : TS := fun D σ H => ta σ H fun vs H1 => ∃ v w, vs = [v, w] ∧ D.nx ((σ.set i (some v)).set j (some w)) H1
theorem ps_par {i j : Nat} {x y : Str} {a b : Expr} {ta : TA} {px py pt : Pos} {kt k2 pt2} (hc : X.calm = true) (hN : X.N.Nodup) (hi : X.N[i]? = some x) (hj : X.N[j]? = some y) (hij : i ≠ j)
    (hx : X.env.scope.names.lookup x = some .local) (hy : X.env.scope.names.lookup y = some .local) (ha : PA X [a, b] ta)
    (hw : swappedStores [.Tuple [.Name x px, .Name y py] kt pt] (.Tuple [a, b] k2 pt2) X.env = pure (some [x, y]))
    (hs : swapsWithSole [.Tuple [.Name x px, .Name y py] kt pt] (.Tuple [a, b] k2 pt2) pos.line X.env = pure false := by rfl) :
    PS X (.Assign [.Tuple [.Name x px, .Name y py] kt pt] (.Tuple [a, b] k2 pt2) pos) (tPar i j ta) := by
  intro pins s σ H D I h
  rw [exec_Assign_arm]
  refine wpAny_bind (wpAny_standAt ?_)
  rw [hs]
  refine wpAny_bind (wpAny_pure ?_)
  rw [if_neg (by decide)]
  refine wpAny_bind (Tuple_ (thn (ha _ pins s σ H _ I h) fun us s1 ⟨vs, H1, I1, r1, q1⟩ => ?_))
  obtain ⟨v, w, e1, q1⟩ := q1
  subst e1
  obtain ⟨u1, u2, rfl, rv, rw'⟩ : ∃ u1 u2, us = [u1, u2] ∧ RelV v u1 ∧ RelV w u2 := by
    cases r1 with
    | cons p q =>
      cases q with
      | cons p' q' =>
        cases q'
        exact ⟨_, _, rfl, p, p'⟩
  refine wpAny_newObj_type ?_ (by show 2 ≤ sizeLine; decide)
  have I2 : Inv X pins σ H1 { s1 with heap := s1.heap.push { cls := .type "tuple", data := .seq [u1, u2].toArray } } := I1.kept (t' := s1.toks) fun b o e => Heap.get?_push_of_some _ e
  rw [hw]
  refine wpAny_bind (wpAny_pure ?_)
  show wpAny (model X.prog X.w) X.A (do rule "assign.swapped-stores"; let items ← unpackItems (.ref s1.heap.objs.size) 2 none; assignInOrder [fun v => bindName X.env y v, fun v => bindName X.env x v] items.reverse; pure Flow.next) _ _ _
  refine wpAny_bind (wpAny_rule (wpAny_bind (unpackItems_tuple (items := #[u1, u2]) (I.ok.hd hc) (IsTup.new s1.heap _) fun h' hx' => ?_)))
  have I3 := I2.kept (h' := h') (t' := s1.toks) fun b o e => hx' b o (Nat.ne_of_lt (Heap.lt_size e)) e
  show wpAny _ _ (assignInOrder [fun v => bindName X.env y v, fun v => bindName X.env x v] [u2, u1] >>= fun _ => pure Flow.next) _ _ _
  refine wpAny_bind (assignInOrder_cons (wpAny_bindName (store_ok I3 hN hj (.inl hy) rw' (fun s2 I4 => ?_) (.inr hy))))
  refine assignInOrder_cons (wpAny_bindName (store_ok I4 hN hi (.inl hx) rv (fun s3 I5 => assignInOrder_nil (wpAny_pure ?_)) (.inr hx)))
  rw [List.set_comm _ _ (Ne.symm hij)] at I5
  exact ⟨_, H1, I5, q1⟩
/-- o[i] op= e -/
def tAugS (to ti te : TE) (tget : V → V → Hp → VK → Prop) (tip : TIp) (tset : TSet) : TS := fun D σ H => to σ H fun o H1 => ti σ H1 fun i H2 => tget o i H2 fun x H3 => te σ H3 fun y H4 => tip x y H4 fun z H5 => tset o i z H5 fun H6 => D.nx σ H6
/-- o[i], by values -/
def PGet (X : Cx) (t : V → V → Hp → VK → Prop) : Prop :=
  ∀ (pins : List (Addr × Obj)) (s : Shared) (σ : St) (H : Hp) (o i : V) (ov iv : Value) (Q : VK), Inv X pins σ H s → RelV o ov → RelV i iv → t o i H Q →
    wpAny (model X.prog X.w) X.A (getItem ov iv) (EP X pins σ Q) X.xe s
theorem ps_augS {o i e : Expr} {to ti te : TE} {tget : V → V → Hp → VK → Prop} {tip : TIp} {tset : TSet} {op : Operator} {tpos : Pos} (ho : PE X o to) (hi : PE X i ti) (hg : PGet X tget) (he : PE X e te) (hp : PIp X op tip) (hs : PSet X tset)
    (ha : ∀ ov iv new, augStore i ov iv new = (do holding [new, ov, iv] (setItem ov iv new); release [new, ov, iv] []; pure .next) := by intros; rfl) : PS X (.AugAssign (.Subscript o i tpos) op e pos) (tAugS to ti te tget tip tset) := by
  intro pins s σ H D I h
  refine wpAny_AugAssign_SubscriptAny (thn (ho pins s σ H _ I h) fun ov s1 ⟨x1, H1, I1, r1, q1⟩ => ?_) ha
  refine thn (hi pins s1 σ H1 _ I1 q1) fun iv s2 ⟨x2, H2, I2, r2, q2⟩ => ?_
  refine thn (hg pins s2 σ H2 x1 x2 ov iv _ I2 r1 r2 q2) fun old s3 ⟨x3, H3, I3, r3, q3⟩ => ?_
  refine thn (he pins s3 σ H3 _ I3 q3) fun v s4 ⟨x4, H4, I4, r4, q4⟩ => ?_
  refine thn (hp pins s4 σ H4 x3 x4 old v _ I4 r3 r4 q4) fun new s5 ⟨x5, H5, I5, r5, q5⟩ => ?_
  exact thn (hs pins s5 σ H5 x1 x2 x5 ov iv new _ I5 r1 r2 r5 q5) fun _ s6 ⟨H6, I6, q6⟩ => ⟨σ, H6, I6, q6⟩
/-- ints -/
def ipI (f : Int → Int → Int) : TIp := fun x y H Q => ∃ i j, x = .int i ∧ y = .int j ∧ Q (.int (f i j)) H
theorem ip_add : PIp X .Add (ipI fun i j => i + j) := by
  intro pins s σ H x y v u Q I r1 r2 h
  obtain ⟨i, j, e1, e2, q⟩ := h
  subst e1; subst e2
  obtain ⟨t, rfl⟩ := r1
  obtain ⟨t', rfl⟩ := r2
  exact iadd_int ⟨.int _, H, I.tok _, ⟨_, rfl⟩, q⟩
theorem ip_sub : PIp X .Sub (ipI fun i j => i - j) := by
  intro pins s σ H x y v u Q I r1 r2 h
  obtain ⟨i, j, e1, e2, q⟩ := h
  subst e1; subst e2
  obtain ⟨t, rfl⟩ := r1
  obtain ⟨t', rfl⟩ := r2
  exact isub_int ⟨.int _, H, I.tok _, ⟨_, rfl⟩, q⟩
end

/-! ### while -/
section
variable {X : Cx} {pos : Pos}
/-- the invariant W with its measure -/
def tWhile (c : TT) (tb : TS) : TS := fun D σ H => ∃ W : Nat → St → Hp → Prop, (∃ m, W m σ H) ∧ ∀ m σ H, W m σ H →
  c σ H fun b H1 => if b = true then ∃ N : St → Hp → Prop, (∀ σ' H', N σ' H' → ∃ m', m' < m ∧ W m' σ' H') ∧ tb { D with nx := N, ct := N, bk := D.nx } σ H1 else D.nx σ H1
theorem ps_while {c : Expr} {body : List Stmt} {tc : TT} {tb : TS} (hp : PassesOwn (model X.prog X.w) X.A X.env X.xe) (hc : PT X c tc) (hb : PSs X body tb) : PS X (.While c body [] pos) (tWhile tc tb) := by
  intro pins s σ H D I h
  obtain ⟨W, ⟨m0, w0⟩, turn⟩ := h
  refine wpAny_While (codeAny_whileLoop (fun n s' => ∃ σ' H', Inv X pins σ' H' s' ∧ W n σ' H') ?_ m0 ⟨σ, H, I, w0⟩)
  rintro n s1 ⟨σ1, H1, I1, w1⟩
  refine wpAny_passesOwn hp (thn (hc pins s1 σ1 H1 _ I1 (turn n σ1 H1 w1)) fun b s2 ⟨H2, I2, q2⟩ => ?_)
  cases b with
  | true =>
    obtain ⟨N, hN, q2⟩ := q2
    rw [if_pos rfl]
    refine wpAny_passesOwn hp (thn (hb pins s2 σ1 H2 _ I2 q2) fun f s3 q3 => ?_)
    cases f with
    | next =>
      obtain ⟨σ3, H3, I3, n3⟩ := q3
      obtain ⟨m', hm, w3⟩ := hN σ3 H3 n3
      exact ⟨m', hm, σ3, H3, I3, w3⟩
    | cont =>
      obtain ⟨σ3, H3, I3, n3⟩ := q3
      obtain ⟨m', hm, w3⟩ := hN σ3 H3 n3
      exact ⟨m', hm, σ3, H3, I3, w3⟩
    | brk => exact q3
    | ret v => exact q3
  | false =>
    rw [if_neg Bool.false_ne_true]
    exact wpAny_execs_nil ⟨σ1, H2, I2, q2⟩
end

/-! ### what a loop or a comprehension walks -/
/-- at turn i: it yields x (the heap may grow), or it stops -/
structure It where
  go : Nat → Hp → Prop
  yld : Nat → Hp → V → Hp → Prop
  stop : Nat → Hp → Prop
/-- the iterator's own objects may turn: they are not the frame's, not pinned, younger than the entry (or a comprehension's own) -/
def FpOk (X : Cx) (pins : List (Addr × Obj)) (H : Hp) (b : Addr) : Prop :=
  H b = none ∧ b ≠ X.env.locals ∧ b ∉ X.fs ∧ (b ∈ X.ex ∨ X.s₀.heap.objs.size ≤ b) ∧ (∀ x c, X.env.cells.lookup x = some c → c ≠ b) ∧ ∀ p ∈ X.pn ++ pins, p.1 ≠ b
theorem Inv.fpOk {X : Cx} {pins : List (Addr × Obj)} {σ : St} {H H' : Hp} {s : Shared} {b : Addr} (I : Inv X pins σ H s) (hb : s.heap.objs.size ≤ b) (hn : H' b = none) : FpOk X pins H' b := by
  refine ⟨hn, Nat.ne_of_gt (Nat.lt_of_lt_of_le I.lt hb), I.nofs hb, .inr (Nat.le_trans I.sz hb), fun x c e z => ?_, fun p hp z => ?_⟩
  · obtain ⟨v, q⟩ := I.cell x c e
    exact absurd (Nat.lt_of_lt_of_le q.lt (by rw [z]; exact hb)) (Nat.lt_irrefl _)
  · exact absurd (Nat.lt_of_lt_of_le (Heap.lt_size (I.pin p hp).1) (by rw [z]; exact hb)) (Nat.lt_irrefl _)
structure Turn (P : Program) (w : World) (K : PySem.W.Frag) (tg : Expr) (J : It) (fp : List Addr) (it : Addr) (tn : Nat → Heap → Prop) : Prop where
  mem : it ∈ fp
  obj : ∀ i h, tn i h → ∀ b ∈ fp, ∃ o, h.get? b = some o ∧ ∀ v, o.data ≠ .cell v
  keep : ∀ i h h', tn i h → (∀ b ∈ fp, ∀ o, h.get? b = some o → h'.get? b = some o) → tn i h'
  item : ∀ (X : Cx), X.prog = P → X.w = w → X.K = K → X.calm = true → ∀ (i : Nat) (pins : List (Addr × Obj)) (s : Shared) (σ : St) (H : Hp) (E : Value → Shared → Prop), Inv X pins σ H s → (∀ b ∈ fp, FpOk X pins H b) → tn i s.heap → J.go i H →
    wpAny (model P w) X.A (pyNext (.ref it)) (fun r s1 => ∃ u, r = some u ∧
      wpAny (model P w) X.A (letOwnedTupleGo tg (.ref it) u) (fun _ s2 => ∃ x H', Inv X pins σ H' s2 ∧ RelV x u ∧ J.yld i H x H' ∧ tn (i + 1) s2.heap ∧ ∀ b ∈ fp, H' b = none) E s1) E s
  done : ∀ (X : Cx), X.prog = P → X.w = w → X.K = K → X.calm = true → ∀ (i : Nat) (pins : List (Addr × Obj)) (s : Shared) (σ : St) (H : Hp) (E : Value → Shared → Prop), Inv X pins σ H s → (∀ b ∈ fp, FpOk X pins H b) → tn i s.heap → J.stop i H →
    wpAny (model P w) X.A (pyNext (.ref it)) (fun r s1 => r = none ∧ Inv X pins σ H s1) E s
  self : ∀ (A : Around) (i : Nat) (s : Shared) (Q : Value → Shared → Prop) (E : Value → Shared → Prop), tn i s.heap → Q (.ref it) s → wpAny (model P w) A (pyIter (.ref it)) Q E s
abbrev TI := St → Hp → (It → Hp → Prop) → Prop
/-- an iterator has come -/
def PIE (X : Cx) (pins : List (Addr × Obj)) (σ : St) (tg : Expr) (R : It → Hp → Prop) (itv : Value) (s2 : Shared) : Prop :=
  ∃ (it : Addr) (fp : List Addr) (tn : Nat → Heap → Prop) (J : It) (H' : Hp), itv = .ref it ∧ Inv X pins σ H' s2 ∧ Turn X.prog X.w X.K tg J fp it tn ∧ tn 0 s2.heap ∧ (∀ b ∈ fp, FpOk X pins H' b) ∧ R J H'
def PI (X : Cx) (tg iter : Expr) (wi : TI) : Prop :=
  ∀ (pins : List (Addr × Obj)) (s : Shared) (σ : St) (H : Hp) (R : It → Hp → Prop), Inv X pins σ H s → wi σ H R →
    wpAny (model X.prog X.w) X.A (eval iter X.env) (fun v s1 => wpAny (model X.prog X.w) X.A (pyIter v) (PIE X pins σ tg R) X.xe s1) X.xe s

/-- the step ahead of the store is nothing for an iterator that keeps no tuple -/
theorem go_of {M : Model} {A : Around} {E : Value → Shared → Prop} {s : Shared} {tg : Expr} {it : Addr} {u : Value} {o : Obj} {n : String} {vs : Array Value} {Q : Unit → Shared → Prop} (ho : s.heap.get? it = some o) (hc : o.cls = .type n) (hd : o.data = .fields vs)
    (hn : ["enumerate", "zip", "dict_itemiterator", "dict_reverseitemiterator", "odict_iterator", "itertools.zip_longest", "itertools.pairwise"].contains n = false) (hQ : Q () s) : wpAny M A (letOwnedTupleGo tg (.ref it) u) Q E s := by
  unfold letOwnedTupleGo
  cases tg <;> first
    | exact wpAny_pure hQ
    | (cases u <;> first
        | exact wpAny_pure hQ
        | (refine wpAny_bind (wpAny_load ho ?_)
           rw [hc, hd]
           show wpAny M A (if (["enumerate", "zip", "dict_itemiterator", "dict_reverseitemiterator", "odict_iterator", "itertools.zip_longest", "itertools.pairwise"].contains n && vs[0]? == some (rawInt _)) = true then _ else _) Q E s
           rw [if_neg (by intro h; rw [hn, Bool.false_and] at h; cases h)]
           exact wpAny_pure hQ))

/-- the list at a, as it stands at each turn (a loop may append to it) -/
def Itl (K : PySem.W.Frag) (a : Addr) : It :=
  ⟨fun i H => ∃ xs x, SqL K H a xs ∧ xs[i]? = some x, fun i H x H' => H' = H ∧ ∀ xs, SqL K H a xs → xs[i]? = some x, fun i H => ∃ xs, SqL K H a xs ∧ xs.length ≤ i⟩
def Itt (K : PySem.W.Frag) (a : Addr) : It :=
  ⟨fun i H => ∃ xs x, SqT K H a xs ∧ xs[i]? = some x, fun i H x H' => H' = H ∧ ∀ xs, SqT K H a xs → xs[i]? = some x, fun i H => ∃ xs, SqT K H a xs ∧ xs.length ≤ i⟩
/-- lo, lo + 1, .. (n of them) -/
def Itr (lo : Int) (n : Nat) : It := ⟨fun i _ => i < n, fun i H x H' => H' = H ∧ x = .int (lo + i), fun i _ => n ≤ i⟩
theorem turn_list {P : Program} {w : World} {K : PySem.W.Frag} {tg : Expr} (a it : Addr) : Turn P w K tg (Itl K a) [it] it (fun i h => h.IsListIter it a i) where
  mem := by simp
  obj := fun i h st b hb => by
    have e : b = it := by simpa using hb
    subst e
    obtain ⟨o, e, c, d⟩ := st
    exact ⟨o, e, fun v z => by rw [d] at z; cases z⟩
  keep := fun i h h' st k => st.at fun o e => k it (by simp) o e
  item := by
    intro X hP hw hK hc i pins s σ H E I hf st hg
    subst hP hw hK
    obtain ⟨xs, x, hq, hx⟩ := hg
    obtain ⟨its, rv, p, hz⟩ := I.list hq
    obtain ⟨u, hu, ru⟩ := rv.get hx
    obtain ⟨f0, f1, f2, f3, f4, f5⟩ := hf it (by simp)
    refine wpAny_pyNext_list_item st p.isList (x := u) (by simpa using hu) fun h' st' sb => ?_
    have I1 : Inv X pins σ H { s with heap := h' } := I.turned (t' := s.toks) (fun b o hb e => (sb.2 b hb).trans e) f0 f1 f3 f4 f5
    obtain ⟨o, e, c, d⟩ := id st'
    exact ⟨u, rfl, go_of (s := { s with heap := h' }) e c d (by decide) ⟨x, H, I1, ru, ⟨rfl, fun ys hy => by rw [I.list_inj hy hq]; exact hx⟩, st', fun b hb => (hf b hb).1⟩⟩
  done := by
    intro X hP hw hK hc i pins s σ H E I hf st hg
    subst hP hw hK
    obtain ⟨xs, hq, hx⟩ := hg
    obtain ⟨its, rv, p, hz⟩ := I.list hq
    obtain ⟨f0, f1, f2, f3, f4, f5⟩ := hf it (by simp)
    have hl := rv.length
    exact wpAny_pyNext_list_end (I.ok.hd hc) st p.isList (by simp; omega) fun h' eb => ⟨rfl, I.turned (t' := s.toks) (fun b o hb e => eb b o hb e) f0 f1 f3 f4 f5⟩
  self := fun _ _ _ _ _ st h => wpAny_pyIter_listiter st h
theorem turn_tuple {P : Program} {w : World} {K : PySem.W.Frag} {tg : Expr} (a it : Addr) : Turn P w K tg (Itt K a) [it] it (fun i h => h.IsTupleIter it a i) where
  mem := by simp
  obj := fun i h st b hb => by
    have e : b = it := by simpa using hb
    subst e
    obtain ⟨o, e, c, d⟩ := st
    exact ⟨o, e, fun v z => by rw [d] at z; cases z⟩
  keep := fun i h h' st k => st.at fun o e => k it (by simp) o e
  item := by
    intro X hP hw hK hc i pins s σ H E I hf st hg
    subst hP hw hK
    obtain ⟨xs, x, hq, hx⟩ := hg
    obtain ⟨its, rv, p, hz⟩ := I.tuple hq
    obtain ⟨u, hu, ru⟩ := rv.get hx
    obtain ⟨f0, f1, f2, f3, f4, f5⟩ := hf it (by simp)
    refine wpAny_pyNext_tuple_item st (show s.heap.IsTuple a its.toArray from p) (x := u) (by simpa using hu) fun h' st' sb => ?_
    have I1 : Inv X pins σ H { s with heap := h' } := I.turned (t' := s.toks) (fun b o hb e => (sb.2 b hb).trans e) f0 f1 f3 f4 f5
    obtain ⟨o, e, c, d⟩ := id st'
    exact ⟨u, rfl, go_of (s := { s with heap := h' }) e c d (by decide) ⟨x, H, I1, ru, ⟨rfl, fun ys hy => by rw [I.tuple_inj hy hq]; exact hx⟩, st', fun b hb => (hf b hb).1⟩⟩
  done := by
    intro X hP hw hK hc i pins s σ H E I hf st hg
    subst hP hw hK
    obtain ⟨xs, hq, hx⟩ := hg
    obtain ⟨its, rv, p, hz⟩ := I.tuple hq
    obtain ⟨f0, f1, f2, f3, f4, f5⟩ := hf it (by simp)
    have hl := rv.length
    exact wpAny_pyNext_tuple_end (I.ok.hd hc) st (show s.heap.IsTuple a its.toArray from p) (by simp; omega) fun h' eb => ⟨rfl, I.turned (t' := s.toks) (fun b o hb e => eb b o hb e) f0 f1 f3 f4 f5⟩
  self := fun _ _ _ _ _ st h => wpAny_pyIter_tupleiter st h
theorem turn_range {P : Program} {w : World} {K : PySem.W.Frag} {tg : Expr} (it : Addr) (lo : Int) (n : Nat) : Turn P w K tg (Itr lo n) [it] it (fun i h => IsRangeIter h it (lo + (i : Nat) * 1) ((n : Int) - (i : Nat)) 1) where
  mem := by simp
  obj := fun i h st b hb => by
    have e : b = it := by simpa using hb
    subst e
    exact ⟨_, st, fun v z => by
      have z' : Data.fields _ = Data.cell v := z
      cases z'⟩
  keep := fun i h h' st k => k it (by simp) _ st
  item := by
    intro X hP hw hK hc i pins s σ H E I hf st hg
    subst hP hw hK
    obtain ⟨f0, f1, f2, f3, f4, f5⟩ := hf it (by simp)
    have W := Walks.range (prog := X.prog) (w := X.w) (I.ok.hd hc) it lo 1 n
    refine W.item i s _ _ hg st fun v h' tk hv st' kk => ?_
    obtain ⟨t, rfl⟩ := hv
    have I1 : Inv X pins σ H { s with heap := h', toks := tk } := I.turned (fun b o hb e => kk b o (by simpa using hb) e) f0 f1 f3 f4 f5
    refine ⟨_, rfl, go_of (s := { s with heap := h', toks := tk }) (n := "range_iterator") st' rfl rfl (by decide) ⟨.int (lo + i), H, I1, ⟨t, ?_⟩, ⟨rfl, rfl⟩, st', fun b hb => (hf b hb).1⟩⟩
    rw [Int.mul_one]
  done := by
    intro X hP hw hK hc i pins s σ H E I hf st hg
    subst hP hw hK
    obtain ⟨f0, f1, f2, f3, f4, f5⟩ := hf it (by simp)
    exact wpAny_pyNext_range_end (I.ok.hd hc) st (by have : n ≤ i := hg; omega) fun h' eb => ⟨rfl, I.turned (t' := s.toks) (fun b o hb e => eb b o hb e) f0 f1 f3 f4 f5⟩
  self := fun _ _ _ _ _ st h => wpAny_pyIter_rangeiter st h
end L2

namespace L2
open PySem PySem.Spec PyProof.Rows
section
variable {X : Cx} {tg : Expr}
def iList (K : PySem.W.Frag) (tl : TE) : TI := fun σ H R => tl σ H fun x H1 => ∃ a, x = .ref a ∧ (∃ xs, SqL K H1 a xs) ∧ R (Itl K a) H1
def iTup (K : PySem.W.Frag) (tl : TE) : TI := fun σ H R => tl σ H fun x H1 => ∃ a, x = .ref a ∧ (∃ xs, SqT K H1 a xs) ∧ R (Itt K a) H1
theorem pi_list {l : Expr} {tl : TE} (hl : PE X l tl) : PI X tg l (iList X.K tl) := by
  intro pins s σ H R I h
  refine thn (hl pins s σ H _ I h) fun v s1 ⟨x, H1, I1, r1, q1⟩ => ?_
  obtain ⟨a, e, ⟨xs, hq⟩, q⟩ := q1
  subst e
  cases r1
  obtain ⟨its, rv, p, hz⟩ := I1.list hq
  refine wpAny_pyIter_list p.isList ?_
  refine ⟨s1.heap.objs.size, [s1.heap.objs.size], _, _, H1, rfl, I1.kept (t' := s1.toks) fun b o e => Heap.get?_push_of_some _ e, turn_list a _, ⟨_, Heap.get?_push_size _ rfl, rfl, rfl⟩, fun b hb => ?_, q⟩
  have e : b = s1.heap.objs.size := by simpa using hb
  subst e
  exact I1.fpOk (Nat.le_refl _) (I1.hok.fresh (Nat.le_refl _))
theorem pi_tup {l : Expr} {tl : TE} (hl : PE X l tl) : PI X tg l (iTup X.K tl) := by
  intro pins s σ H R I h
  refine thn (hl pins s σ H _ I h) fun v s1 ⟨x, H1, I1, r1, q1⟩ => ?_
  obtain ⟨a, e, ⟨xs, hq⟩, q⟩ := q1
  subst e
  cases r1
  obtain ⟨its, rv, p, hz⟩ := I1.tuple hq
  refine wpAny_pyIter_tuple (show s1.heap.IsTuple a its.toArray from p) ?_
  refine ⟨s1.heap.objs.size, [s1.heap.objs.size], _, _, H1, rfl, I1.kept (t' := s1.toks) fun b o e => Heap.get?_push_of_some _ e, turn_tuple a _, ⟨_, Heap.get?_push_size _ rfl, rfl, rfl⟩, fun b hb => ?_, q⟩
  have e : b = s1.heap.objs.size := by simpa using hb
  subst e
  exact I1.fpOk (Nat.le_refl _) (I1.hok.fresh (Nat.le_refl _))
/-- a range object just made, walked -/
theorem range_it {pins : List (Addr × Obj)} {σ : St} {H : Hp} {s : Shared} {R : It → Hp → Prop} {E : Value → Shared → Prop} {lo hi : Int} {t u v : Tok} {tk : Nat} (I : Inv X pins σ H s) (h1 : -(2 ^ 62) ≤ lo) (h2 : lo < 2 ^ 62) (h3 : -(2 ^ 62) ≤ hi) (h4 : hi < 2 ^ 62)
    (q : R (Itr lo (hi - lo).toNat) H) : wpAny (model X.prog X.w) X.A (pyIter (.ref s.heap.objs.size)) (PIE X pins σ tg R) E { s with heap := s.heap.push { cls := .type "range", data := .fields #[.int lo t, .int hi u, .int 1 v] }, toks := tk } := by
  refine wpAny_pyIter_range (IsRange.new ..) (small_one h1 h2 h3 h4) ?_
  have I1 : Inv X pins σ H { s with heap := s.heap.push { cls := .type "range", data := .fields #[.int lo t, .int hi u, .int 1 v] }, toks := tk } := I.kept fun b o e => Heap.get?_push_of_some _ e
  refine ⟨(s.heap.push { cls := .type "range", data := .fields #[.int lo t, .int hi u, .int 1 v] }).objs.size, [(s.heap.push { cls := .type "range", data := .fields #[.int lo t, .int hi u, .int 1 v] }).objs.size], _, _, H, rfl,
    I1.kept (t' := tk) fun b o e => Heap.get?_push_of_some _ e, turn_range _ lo (hi - lo).toNat, ?_, fun b hb => ?_, q⟩
  · have e1 : lo + ((0 : Nat) : Int) * 1 = lo := by simp
    have e2 : (((hi - lo).toNat : Nat) : Int) - ((0 : Nat) : Int) = Builtin.Range.rangeSize lo hi 1 := by rw [rangeSize_one]; split <;> omega
    show IsRangeIter _ _ (lo + ((0 : Nat) : Int) * 1) ((((hi - lo).toNat : Nat) : Int) - ((0 : Nat) : Int)) 1
    rw [e1, e2]
    exact Heap.get?_push_size _ rfl
  · have e : b = (s.heap.push { cls := .type "range", data := .fields #[.int lo t, .int hi u, .int 1 v] }).objs.size := by simpa using hb
    subst e
    exact I1.fpOk (Nat.le_refl _) (I1.hok.fresh (Nat.le_refl _))
def iRng1 (ta : TA) : TI := fun σ H R => ta σ H fun vs H1 => ∃ j : Int, vs = [.int j] ∧ -(2 ^ 62) ≤ j ∧ j < 2 ^ 62 ∧ R (Itr 0 j.toNat) H1
theorem pi_range1 {a : Expr} {ta : TA} {p pos : Pos} (hg : Gl X "range") (hm : X.mg "range" = none) (ha : PA X [a] ta) (hs : starEach [a] X.env = [(false, eval a X.env)] := by rfl) : PI X tg (.Call (.Name "range" p) [a] [] pos) (iRng1 ta) := by
  intro pins s σ H R I h
  refine Call_ (ld_blt I hg hm boot_range (PyProof.Rows.callWith_type1 (thn (ha pos pins s σ H _ I h) fun us s1 ⟨vs, H1, I1, r1, q1⟩ => ?_) hs rfl))
  obtain ⟨j, e, q1, q2, q⟩ := q1
  subst e
  cases r1 with
  | cons r rr =>
    cases rr
    obtain ⟨t, rfl⟩ := r
    exact call_range_1 (range_it I1 (by omega) (by omega) q1 q2 (by simpa using q))

/-! ### for -/
/-- W: the invariant by the turn and a measure; N: what the body is to reach -/
def tFor (wi : TI) (g : TG) (tb : TS) : TS := fun D σ H => wi σ H fun J H1 => ∃ W : Nat → Nat → St → Hp → Prop, (∃ m, W 0 m σ H1) ∧ ∀ i m σ H, W i m σ H →
  (J.stop i H ∧ D.nx σ H) ∨ (J.go i H ∧ ∃ N : St → Hp → Prop, (∀ σ' H', N σ' H' → ∃ m', m' < m ∧ W (i + 1) m' σ' H') ∧ ∀ x H', J.yld i H x H' → g x σ H' fun σ2 H2 => tb { D with nx := N, ct := N, bk := D.nx } σ2 H2)
/-- the records at fp as they stand -/
def pinsAt (fp : List Addr) (h : Heap) : List (Addr × Obj) := fp.filterMap fun b => (h.get? b).map fun o => (b, o)
theorem mem_pinsAt {fp : List Addr} {h : Heap} {b : Addr} {o : Obj} (hb : b ∈ fp) (e : h.get? b = some o) : (b, o) ∈ pinsAt fp h := List.mem_filterMap.mpr ⟨b, hb, by rw [e]; rfl⟩
theorem of_pinsAt {fp : List Addr} {h : Heap} {p : Addr × Obj} (hp : p ∈ pinsAt fp h) : p.1 ∈ fp ∧ h.get? p.1 = some p.2 := by
  obtain ⟨b, hb, e⟩ := List.mem_filterMap.mp hp
  cases q : h.get? b with
  | none => rw [q] at e; cases e
  | some o =>
    rw [q] at e
    have e' : (b, o) = p := Option.some.inj e
    subst e'
    exact ⟨hb, q⟩
theorem Inv.pinned {pins : List (Addr × Obj)} {σ : St} {H : Hp} {s : Shared} {fp : List Addr} (I : Inv X pins σ H s) (hf : ∀ b ∈ fp, FpOk X pins H b) (ho : ∀ b ∈ fp, ∃ o, s.heap.get? b = some o ∧ ∀ v, o.data ≠ .cell v) : Inv X (pins ++ pinsAt fp s.heap) σ H s :=
  I.pins_of fun p hp => (List.mem_append.mp hp).elim (fun z => I.pin p (List.mem_append_right _ z)) fun z => by
    obtain ⟨hb, e⟩ := of_pinsAt z
    obtain ⟨f0, f1, f2, _⟩ := hf p.1 hb
    obtain ⟨o, e', d⟩ := ho p.1 hb
    rw [e] at e'; cases e'
    exact ⟨e, f0, f1, f2, d⟩
theorem Inv.unpinned {pins pl : List (Addr × Obj)} {σ : St} {H : Hp} {s : Shared} (I : Inv X (pins ++ pl) σ H s) : Inv X pins σ H s := I.pins_of fun p hp => I.pin p (List.mem_append_right _ (List.mem_append_left _ hp))
theorem ps_for {iter : Expr} {body : List Stmt} {wi : TI} {g : TG} {tb : TS} {pos : Pos} (hp : PassesOwn (model X.prog X.w) X.A X.env X.xe) (hc : X.calm = true) (hi : PI X tg iter wi) (hg : PG X tg g) (hb : PSs X body tb)
    (hs : ∀ x, foldedSetIterable iter X.env x = pure x := by intro _; rfl) : PS X (.For tg iter body [] pos) (tFor wi g tb) := by
  intro pins s σ H D I h
  refine wpAny_For (thn (hi pins s σ H _ I h) fun v s1 h1 => thn h1 fun itv s2 h2 => ?_) hs
  obtain ⟨it, fp, tn, J, H2, e, I2, T, st2, f2, W, ⟨m0, w0⟩, turn⟩ := h2
  subst e
  -- what stays true of the iterator's objects through the loop
  have stat : ∀ {H' : Hp}, (∀ b ∈ fp, H' b = none) → ∀ b ∈ fp, FpOk X pins H' b := fun hn b hb => ⟨hn b hb, (f2 b hb).2⟩
  refine codeAny_forLoop_any (fun n s' => ∃ i σ' H', Inv X pins σ' H' s' ∧ tn i s'.heap ∧ (∀ b ∈ fp, H' b = none) ∧ W i n σ' H') ?_ m0 ⟨0, σ, H2, I2, st2, fun b hb => (f2 b hb).1, w0⟩
  rintro n s3 ⟨i, σ3, H3, I3, st3, fr3, w3⟩
  rcases turn i n σ3 H3 w3 with ⟨stop, qn⟩ | ⟨go, N, hN, step⟩
  · refine wpAny_passesOwn hp (thn (T.done X rfl rfl rfl hc i pins s3 σ3 H3 X.xe I3 (stat fr3) st3 stop) fun r s4 ⟨hr, I4⟩ => ?_)
    subst hr
    exact wpAny_execs_nil ⟨σ3, H3, I4, qn⟩
  · refine wpAny_passesOwn hp (thn (T.item X rfl rfl rfl hc i pins s3 σ3 H3 X.xe I3 (stat fr3) st3 go) fun r s4 ⟨u, hr, h4⟩ => ?_)
    subst hr
    refine wpAny_passesOwn hp (thn h4 fun _ s5 ⟨x, H5, I5, r5, y5, st5, fr5⟩ => ?_)
    have I5' := I5.pinned (stat fr5) (T.obj _ _ st5)
    refine wpAny_passesOwn hp (thn (hg _ s5 σ3 H5 x u _ I5' r5 (step x H5 y5)) fun _ s6 ⟨σ6, H6, I6, q6⟩ => ?_)
    refine wpAny_passesOwn hp (thn (hb _ s6 σ6 H6 _ I6 q6) fun f s7 q7 => ?_)
    have again : ∀ {σ7 : St} {H7 : Hp}, Inv X (pins ++ pinsAt fp s5.heap) σ7 H7 s7 → N σ7 H7 → ∃ m, m < n ∧ ∃ i σ' H', Inv X pins σ' H' s7 ∧ tn i s7.heap ∧ (∀ b ∈ fp, H' b = none) ∧ W i m σ' H' := fun {σ7 H7} I7 n7 => by
      obtain ⟨m', hm, w7⟩ := hN σ7 H7 n7
      refine ⟨m', hm, i + 1, σ7, H7, I7.unpinned, T.keep _ _ _ st5 fun b hb o e => (I7.pin (b, o) (List.mem_append_right _ (List.mem_append_right _ (mem_pinsAt hb e)))).1, fun b hb => ?_, w7⟩
      obtain ⟨o, e, d⟩ := T.obj _ _ st5 b hb
      exact (I7.pin (b, o) (List.mem_append_right _ (List.mem_append_right _ (mem_pinsAt hb e)))).2.1
    cases f with
    | next => obtain ⟨σ7, H7, I7, n7⟩ := q7; exact again I7 n7
    | cont => obtain ⟨σ7, H7, I7, n7⟩ := q7; exact again I7 n7
    | brk => obtain ⟨σ7, H7, I7, q7⟩ := q7; exact ⟨σ7, H7, I7.unpinned, q7⟩
    | ret v => obtain ⟨x7, σ7, H7, I7, r7, q7⟩ := q7; exact ⟨x7, σ7, H7, I7.unpinned, r7, q7⟩
end

/-! ### the forms one uses -/
/-- over a list that the body leaves as it is -/
theorem for_list {K : PySem.W.Frag} {a : Addr} {xs : List V} {g : TG} {tb : TS} {D : Ends} {σ : St} {H : Hp} (Pv : Nat → St → Hp → Prop) (h0 : Pv 0 σ H) (hl : ∀ i σ H, i ≤ xs.length → Pv i σ H → SqL K H a xs)
    (hs : ∀ i x σ H, xs[i]? = some x → Pv i σ H → g x σ H fun σ2 H2 => tb { D with nx := Pv (i + 1), ct := Pv (i + 1), bk := D.nx } σ2 H2) (hd : ∀ σ H, Pv xs.length σ H → D.nx σ H) :
    ∃ W : Nat → Nat → St → Hp → Prop, (∃ m, W 0 m σ H) ∧ ∀ i m σ H, W i m σ H →
      ((Itl K a).stop i H ∧ D.nx σ H) ∨ ((Itl K a).go i H ∧ ∃ N : St → Hp → Prop, (∀ σ' H', N σ' H' → ∃ m', m' < m ∧ W (i + 1) m' σ' H') ∧ ∀ x H', (Itl K a).yld i H x H' → g x σ H' fun σ2 H2 => tb { D with nx := N, ct := N, bk := D.nx } σ2 H2) := by
  refine ⟨fun i m σ H => m = xs.length - i ∧ i ≤ xs.length ∧ Pv i σ H, ⟨xs.length, by simp, Nat.zero_le _, h0⟩, ?_⟩
  rintro i m σ H ⟨rfl, hi, p⟩
  have q := hl i σ H hi p
  by_cases hlt : i < xs.length
  · refine .inr ⟨⟨xs, xs[i], q, by simp [hlt]⟩, Pv (i + 1), fun σ' H' p' => ⟨xs.length - (i + 1), by omega, rfl, hlt, p'⟩, fun x H' y => ?_⟩
    obtain ⟨e, y⟩ := y
    subst e
    exact hs i x σ _ (y xs q) p
  · have e : i = xs.length := by omega
    subst e
    exact .inl ⟨⟨xs, q, Nat.le_refl _⟩, hd σ H p⟩
theorem for_tup {K : PySem.W.Frag} {a : Addr} {xs : List V} {g : TG} {tb : TS} {D : Ends} {σ : St} {H : Hp} (Pv : Nat → St → Hp → Prop) (h0 : Pv 0 σ H) (hl : ∀ i σ H, i ≤ xs.length → Pv i σ H → SqT K H a xs)
    (hs : ∀ i x σ H, xs[i]? = some x → Pv i σ H → g x σ H fun σ2 H2 => tb { D with nx := Pv (i + 1), ct := Pv (i + 1), bk := D.nx } σ2 H2) (hd : ∀ σ H, Pv xs.length σ H → D.nx σ H) :
    ∃ W : Nat → Nat → St → Hp → Prop, (∃ m, W 0 m σ H) ∧ ∀ i m σ H, W i m σ H →
      ((Itt K a).stop i H ∧ D.nx σ H) ∨ ((Itt K a).go i H ∧ ∃ N : St → Hp → Prop, (∀ σ' H', N σ' H' → ∃ m', m' < m ∧ W (i + 1) m' σ' H') ∧ ∀ x H', (Itt K a).yld i H x H' → g x σ H' fun σ2 H2 => tb { D with nx := N, ct := N, bk := D.nx } σ2 H2) := by
  refine ⟨fun i m σ H => m = xs.length - i ∧ i ≤ xs.length ∧ Pv i σ H, ⟨xs.length, by simp, Nat.zero_le _, h0⟩, ?_⟩
  rintro i m σ H ⟨rfl, hi, p⟩
  have q := hl i σ H hi p
  by_cases hlt : i < xs.length
  · refine .inr ⟨⟨xs, xs[i], q, by simp [hlt]⟩, Pv (i + 1), fun σ' H' p' => ⟨xs.length - (i + 1), by omega, rfl, hlt, p'⟩, fun x H' y => ?_⟩
    obtain ⟨e, y⟩ := y
    subst e
    exact hs i x σ _ (y xs q) p
  · have e : i = xs.length := by omega
    subst e
    exact .inl ⟨⟨xs, q, Nat.le_refl _⟩, hd σ H p⟩
theorem for_range {lo : Int} {n : Nat} {g : TG} {tb : TS} {D : Ends} {σ : St} {H : Hp} (Pv : Nat → St → Hp → Prop) (h0 : Pv 0 σ H)
    (hs : ∀ i σ H, i < n → Pv i σ H → g (.int (lo + i)) σ H fun σ2 H2 => tb { D with nx := Pv (i + 1), ct := Pv (i + 1), bk := D.nx } σ2 H2) (hd : ∀ σ H, Pv n σ H → D.nx σ H) :
    ∃ W : Nat → Nat → St → Hp → Prop, (∃ m, W 0 m σ H) ∧ ∀ i m σ H, W i m σ H →
      ((Itr lo n).stop i H ∧ D.nx σ H) ∨ ((Itr lo n).go i H ∧ ∃ N : St → Hp → Prop, (∀ σ' H', N σ' H' → ∃ m', m' < m ∧ W (i + 1) m' σ' H') ∧ ∀ x H', (Itr lo n).yld i H x H' → g x σ H' fun σ2 H2 => tb { D with nx := N, ct := N, bk := D.nx } σ2 H2) := by
  refine ⟨fun i m σ H => m = n - i ∧ i ≤ n ∧ Pv i σ H, ⟨n, by simp, Nat.zero_le _, h0⟩, ?_⟩
  rintro i m σ H ⟨rfl, hi, p⟩
  by_cases hlt : i < n
  · refine .inr ⟨hlt, Pv (i + 1), fun σ' H' p' => ⟨n - (i + 1), by omega, rfl, hlt, p'⟩, fun x H' y => ?_⟩
    obtain ⟨e, y⟩ := y
    subst e y
    exact hs i σ _ hlt p
  · have e : i = n := by omega
    subst e
    exact .inl ⟨Nat.le_refl _, hd σ H p⟩
end L2

namespace L2
open PySem PySem.Spec PyProof.Rows

abbrev R2 := V → V → Hp → VK → Prop
/-- a two-place operation on values: f is binaryOp op, inplaceOp op or compareOp op -/
def OpR (X : Cx) (f : Value → Value → Sem Value) (r : R2) : Prop :=
  ∀ (pins : List (Addr × Obj)) (s : Shared) (σ : St) (H : Hp) (x y : V) (v u : Value) (Q : VK), Inv X pins σ H s → RelV x v → RelV y u → r x y H Q →
    wpAny (model X.prog X.w) X.A (f v u) (EP X pins σ Q) X.xe s
/-- a one-place operation -/
def UnR (X : Cx) (f : Value → Sem Value) (r : V → Hp → VK → Prop) : Prop :=
  ∀ (pins : List (Addr × Obj)) (s : Shared) (σ : St) (H : Hp) (x : V) (v : Value) (Q : VK), Inv X pins σ H s → RelV x v → r x H Q →
    wpAny (model X.prog X.w) X.A (f v) (EP X pins σ Q) X.xe s
/-- a call of a value that is known (a builtin, a type) with values -/
def CallR (X : Cx) (f : Value) (r : List V → Hp → VK → Prop) : Prop :=
  ∀ (pins : List (Addr × Obj)) (s : Shared) (σ : St) (H : Hp) (xs : List V) (us : List Value) (Q : VK), Inv X pins σ H s → Vals xs us → r xs H Q →
    wpAny (model X.prog X.w) X.A (call f us) (EP X pins σ Q) X.xe s

def tOp (r : R2) (ta tb : TE) : TE := fun σ H Q => ta σ H fun x H1 => tb σ H1 fun y H2 => r x y H2 Q
def tUn (r : V → Hp → VK → Prop) (ta : TE) : TE := fun σ H Q => ta σ H fun x H1 => r x H1 Q
/-- ints in, under C, and a value out -/
def rI (C : Int → Int → Prop) (g : Int → Int → V) : R2 := fun x y H Q => ∃ i j, x = .int i ∧ y = .int j ∧ C i j ∧ Q (g i j) H
def rI0 (g : Int → Int → V) : R2 := fun x y H Q => ∃ i j, x = .int i ∧ y = .int j ∧ Q (g i j) H
def rU (g : Int → V) : V → Hp → VK → Prop := fun x H Q => ∃ i, x = .int i ∧ Q (g i) H

section
variable {X : Cx} {a b c : Expr} {ta tb tc : TE} {pos : Pos}

theorem binT (ha : PE X a ta) (hb : PE X b tb) {pins : List (Addr × Obj)} {s : Shared} {σ : St} {H : Hp} {R : V → V → Hp → Prop} (I : Inv X pins σ H s)
    (h : ta σ H fun x H1 => tb σ H1 fun y H2 => R x y H2) {Q : Value → Shared → Prop} {f : Value → Value → Sem Value}
    (hf : ∀ v u s2 x y H2, Inv X pins σ H2 s2 → RelV x v → RelV y u → R x y H2 → wpAny (model X.prog X.w) X.A (f v u) Q X.xe s2) :
    wpAny (model X.prog X.w) X.A (eval a X.env) (fun v s₁ => wpAny (model X.prog X.w) X.A (eval b X.env) (fun u s₂ => wpAny (model X.prog X.w) X.A (f v u) Q X.xe s₂) X.xe s₁) X.xe s := by
  refine thn (ha pins s σ H _ I h) fun v s1 ⟨x, H1, I1, r1, q1⟩ => ?_
  refine thn (hb pins s1 σ H1 _ I1 q1) fun u s2 ⟨y, H2, I2, r2, q2⟩ => ?_
  exact hf v u s2 x y H2 I2 r1 r2 q2

theorem pe_op {op : Operator} {r : R2} (ho : OpR X (binaryOp op) r) (ha : PE X a ta) (hb : PE X b tb) : PE X (.BinOp a op b pos) (tOp r ta tb) := by
  intro pins s σ H Q I h
  exact wpAny_BinOp (binT ha hb I h fun v u s2 x y H2 I2 rx ry q => ho pins s2 σ H2 x y v u Q I2 rx ry q)
theorem pe_un {op : UnaryOp} {r : V → Hp → VK → Prop} (ho : UnR X (unaryOp op) r) (ha : PE X a ta) : PE X (.UnaryOp op a pos) (tUn r ta) := by
  intro pins s σ H Q I h
  exact UnaryOp_ (thn (ha pins s σ H _ I h) fun v s1 ⟨x, H1, I1, r1, q1⟩ => ho pins s1 σ H1 x v Q I1 r1 q1)

/-! ### ints -/
theorem opI {f : Value → Value → Sem Value} {C : Int → Int → Prop} {g : Int → Int → Int}
    (rule : ∀ (i j : Int) (t u : Tok) (s : Shared) (Q : Value → Shared → Prop) (E : Value → Shared → Prop), C i j → Q (.int (g i j) s.toks) { s with toks := s.toks + 1 } → wpAny (model X.prog X.w) X.A (f (.int i t) (.int j u)) Q E s) :
    OpR X f (rI C fun i j => .int (g i j)) := by
  intro pins s σ H x y v u Q I rx ry h
  obtain ⟨i, j, rfl, rfl, hc, q⟩ := h
  obtain ⟨t, rfl⟩ := rx
  obtain ⟨t', rfl⟩ := ry
  exact rule i j t t' s _ _ hc ⟨.int (g i j), H, I.tok _, ⟨_, rfl⟩, q⟩
theorem opI0 {f : Value → Value → Sem Value} {g : Int → Int → Int}
    (rule : ∀ (i j : Int) (t u : Tok) (s : Shared) (Q : Value → Shared → Prop) (E : Value → Shared → Prop), Q (.int (g i j) s.toks) { s with toks := s.toks + 1 } → wpAny (model X.prog X.w) X.A (f (.int i t) (.int j u)) Q E s) :
    OpR X f (rI0 fun i j => .int (g i j)) := by
  intro pins s σ H x y v u Q I rx ry h
  obtain ⟨i, j, rfl, rfl, q⟩ := h
  obtain ⟨t, rfl⟩ := rx
  obtain ⟨t', rfl⟩ := ry
  exact rule i j t t' s _ _ ⟨.int (g i j), H, I.tok _, ⟨_, rfl⟩, q⟩
theorem opB0 {f : Value → Value → Sem Value} {g : Int → Int → Bool}
    (rule : ∀ (i j : Int) (t u : Tok) (s : Shared) (Q : Value → Shared → Prop) (E : Value → Shared → Prop), Q (.bool (g i j)) s → wpAny (model X.prog X.w) X.A (f (.int i t) (.int j u)) Q E s) :
    OpR X f (rI0 fun i j => .bl (g i j)) := by
  intro pins s σ H x y v u Q I rx ry h
  obtain ⟨i, j, rfl, rfl, q⟩ := h
  obtain ⟨t, rfl⟩ := rx
  obtain ⟨t', rfl⟩ := ry
  exact rule i j t t' s _ _ ⟨.bl (g i j), H, I, rfl, q⟩

def CPow (i j : Int) : Prop := 0 ≤ j ∧ j ≤ 1000000 ∧ i.natAbs < 2 ^ 64

theorem op_add : OpR X (binaryOp .Add) (rI0 fun i j => .int (i + j)) := opI0 fun _ _ _ _ _ _ _ q => add_int q
theorem op_sub : OpR X (binaryOp .Sub) (rI0 fun i j => .int (i - j)) := opI0 fun _ _ _ _ _ _ _ q => sub_int q
theorem op_modN : OpR X (binaryOp .Mod) (rI (fun _ j => j ≠ 0) fun i j => .int (i.fmod j)) := opI fun _ _ _ _ _ _ _ hc q => mod_int' hc q
theorem op_pow : OpR X (binaryOp .Pow) (rI CPow fun i j => .int (i ^ j.toNat)) := opI fun _ _ _ _ _ _ _ hc q => pow_int_small hc.1 hc.2.1 hc.2.2 q


theorem unI {f : Value → Sem Value} {g : Int → Int}
    (rule : ∀ (i : Int) (t : Tok) (s : Shared) (Q : Value → Shared → Prop) (E : Value → Shared → Prop), Q (.int (g i) s.toks) { s with toks := s.toks + 1 } → wpAny (model X.prog X.w) X.A (f (.int i t)) Q E s) :
    UnR X f (rU fun i => .int (g i)) := by
  intro pins s σ H x v Q I rx h
  obtain ⟨i, rfl, q⟩ := h
  obtain ⟨t, rfl⟩ := rx
  exact rule i t s _ _ ⟨.int (g i), H, I.tok _, ⟨_, rfl⟩, q⟩
theorem un_neg : UnR X (unaryOp .USub) (rU fun i => .int (-i)) := unI fun _ _ _ _ _ q => neg_int q

/-! ### bools among ints: n += (a < b) -/
end

/-! ### comparisons -/
/-- the scalars that == tells apart as data does -/
def scal : V → V → Bool
  | .non, .non => true | .non, .int _ => true | .int _, .non => true | .non, .bl _ => true | .bl _, .non => true | .non, .str _ => true | .str _, .non => true
  | .int _, .int _ => true | .bl _, .bl _ => true | .str _, .str _ => true | .byt _, .byt _ => true
  | .int _, .str _ => true | .str _, .int _ => true | .bl _, .str _ => true | .str _, .bl _ => true
  | _, _ => false
def rEq : R2 := fun x y H Q => scal x y = true ∧ Q (.bl (decide (x = y))) H
def rNe : R2 := fun x y H Q => scal x y = true ∧ Q (.bl (!decide (x = y))) H

theorem dec_int {i j : Int} : decide (V.int i = V.int j) = (i == j) := by
  rw [Bool.eq_iff_iff]
  simp
theorem dec_bl {i j : Bool} : decide (V.bl i = V.bl j) = (i == j) := by
  rw [Bool.eq_iff_iff]
  simp
theorem dec_str {i j : Str} : decide (V.str i = V.str j) = (i == j) := by
  rw [Bool.eq_iff_iff]
  simp
theorem dec_byt {i j : Array UInt8} : decide (V.byt i = V.byt j) = (i.toList == j.toList) := by
  rw [Bool.eq_iff_iff]
  cases i
  cases j
  simp

section
variable {X : Cx} {a b c : Expr} {ta tb tc : TE} {pos : Pos}
theorem fin_bl {pins : List (Addr × Obj)} {σ : St} {H : Hp} {s : Shared} {Q : VK} {k k' : Bool} (I : Inv X pins σ H s) (q : Q (.bl k) H) (e : k = k') : EP X pins σ Q (.bool k') s := by
  subst e
  exact ⟨.bl k, H, I, rfl, q⟩
theorem op_eq : OpR X (compareOp .Eq) rEq := by
  intro pins s σ H x y v u Q I rx ry h
  obtain ⟨hs, q⟩ := h
  cases x with
  | non =>
    cases rx
    cases y with
    | non => cases ry; exact PySem.EqNone.eq_none_none (fin_bl I q (by simp))
    | bl j => cases ry; exact PySem.EqNone.eq_none_bool (fin_bl I q (by simp))
    | int j => obtain ⟨t', rfl⟩ := ry; exact PySem.EqNone.eq_none_int (fin_bl I q (by simp))
    | str j => obtain ⟨t', rfl⟩ := ry; exact PySem.EqNone.eq_none_str (fin_bl I q (by simp))
    | _ => exact absurd (show false = true from hs) Bool.false_ne_true
  | bl i =>
    cases rx
    cases y with
    | non => cases ry; exact PySem.EqNone.eq_bool_none (fin_bl I q (by simp))
    | bl j => cases ry; exact eq_bool (fin_bl I q dec_bl)
    | str j => obtain ⟨t', rfl⟩ := ry; exact PySem.EqMixed.eq_bool_str (fin_bl I q (by simp))
    | _ => exact absurd (show false = true from hs) Bool.false_ne_true
  | int i =>
    obtain ⟨t, rfl⟩ := rx
    cases y with
    | non => cases ry; exact PySem.EqNone.eq_int_none (fin_bl I q (by simp))
    | int j => obtain ⟨t', rfl⟩ := ry; exact eq_int (fin_bl I q dec_int)
    | str j => obtain ⟨t', rfl⟩ := ry; exact PySem.EqMixed.eq_int_str (fin_bl I q (by simp))
    | _ => exact absurd (show false = true from hs) Bool.false_ne_true
  | str i =>
    obtain ⟨t, rfl⟩ := rx
    cases y with
    | non => cases ry; exact PySem.EqNone.eq_str_none (fin_bl I q (by simp))
    | bl j => cases ry; exact PySem.EqMixed.eq_str_bool (fin_bl I q (by simp))
    | int j => obtain ⟨t', rfl⟩ := ry; exact PySem.EqMixed.eq_str_int (fin_bl I q (by simp))
    | str j => obtain ⟨t', rfl⟩ := ry; exact eq_str (fin_bl I q dec_str)
    | _ => exact absurd (show false = true from hs) Bool.false_ne_true
  | byt i =>
    obtain ⟨t, rfl⟩ := rx
    cases y with
    | byt j => obtain ⟨t', rfl⟩ := ry; exact PySem.W.eq_bytes (fin_bl I q dec_byt)
    | _ => exact absurd (show false = true from hs) Bool.false_ne_true
  | _ => cases y <;> exact absurd (show false = true from hs) Bool.false_ne_true
theorem op_ne : OpR X (compareOp .NotEq) rNe := by
  intro pins s σ H x y v u Q I rx ry h
  obtain ⟨hs, q⟩ := h
  cases x with
  | non =>
    cases rx
    cases y with
    | non => cases ry; exact PySem.EqNone.ne_none_none (fin_bl I q (by simp))
    | bl j => cases ry; exact PySem.EqNone.ne_none_bool (fin_bl I q (by simp))
    | int j => obtain ⟨t', rfl⟩ := ry; exact PySem.EqNone.ne_none_int (fin_bl I q (by simp))
    | str j => obtain ⟨t', rfl⟩ := ry; exact PySem.EqNone.ne_none_str (fin_bl I q (by simp))
    | _ => exact absurd (show false = true from hs) Bool.false_ne_true
  | bl i =>
    cases rx
    cases y with
    | non => cases ry; exact PySem.EqNone.ne_bool_none (fin_bl I q (by simp))
    | bl j => cases ry; exact ne_bool (fin_bl I q (congrArg not dec_bl))
    | str j => obtain ⟨t', rfl⟩ := ry; exact PySem.EqMixed.ne_bool_str (fin_bl I q (by simp))
    | _ => exact absurd (show false = true from hs) Bool.false_ne_true
  | int i =>
    obtain ⟨t, rfl⟩ := rx
    cases y with
    | non => cases ry; exact PySem.EqNone.ne_int_none (fin_bl I q (by simp))
    | int j => obtain ⟨t', rfl⟩ := ry; exact ne_int (fin_bl I q (congrArg not dec_int))
    | str j => obtain ⟨t', rfl⟩ := ry; exact PySem.EqMixed.ne_int_str (fin_bl I q (by simp))
    | _ => exact absurd (show false = true from hs) Bool.false_ne_true
  | str i =>
    obtain ⟨t, rfl⟩ := rx
    cases y with
    | non => cases ry; exact PySem.EqNone.ne_str_none (fin_bl I q (by simp))
    | bl j => cases ry; exact PySem.EqMixed.ne_str_bool (fin_bl I q (by simp))
    | int j => obtain ⟨t', rfl⟩ := ry; exact PySem.EqMixed.ne_str_int (fin_bl I q (by simp))
    | str j => obtain ⟨t', rfl⟩ := ry; exact ne_str (fin_bl I q (congrArg not dec_str))
    | _ => exact absurd (show false = true from hs) Bool.false_ne_true
  | byt i =>
    obtain ⟨t, rfl⟩ := rx
    cases y with
    | byt j => obtain ⟨t', rfl⟩ := ry; exact PySem.W.ne_bytes (fin_bl I q (congrArg not dec_byt))
    | _ => exact absurd (show false = true from hs) Bool.false_ne_true
  | _ => cases y <;> exact absurd (show false = true from hs) Bool.false_ne_true

theorem op_lt : OpR X (compareOp .Lt) (rI0 fun i j => .bl (decide (i < j))) := opB0 fun _ _ _ _ _ _ _ q => lt_int q
theorem op_gt : OpR X (compareOp .Gt) (rI0 fun i j => .bl (decide (j < i))) := opB0 fun _ _ _ _ _ _ _ q => gt_int q
theorem op_ge : OpR X (compareOp .GtE) (rI0 fun i j => .bl (decide (j ≤ i))) := opB0 fun _ _ _ _ _ _ _ q => ge_int q
/-- the one string within the other -/
theorem op_in_str : OpR X (compareOp .In) (fun x y H Q => ∃ i j, x = .str i ∧ y = .str j ∧ Q (.bl (!(Builtin.Str.occurrences j i 0 j.length 1).isEmpty)) H) := by
  intro pins s σ H x y v u Q I rx ry h
  obtain ⟨i, j, rfl, rfl, q⟩ := h
  obtain ⟨t, rfl⟩ := rx
  obtain ⟨t', rfl⟩ := ry
  exact in_str (fin_bl I q rfl)




theorem nomark (b : Expr) {op : CmpOp} (h : op ≠ .In := by decide) (h2 : op ≠ .NotIn := by decide) : behindInMarks op b = false := by
  have e1 : (op == CmpOp.In) = false := by cases op <;> first | rfl | exact absurd rfl h
  have e2 : (op == CmpOp.NotIn) = false := by cases op <;> first | rfl | exact absurd rfl h2
  cases b <;> simp [behindInMarks, e1, e2]
/-- a comparison as a value; hm: nomark b, or (for in, not in) by with_unfolding_all rfl -/
theorem pe_cmpR {op : CmpOp} {r : R2} (ho : OpR X (compareOp op) r) (ha : PE X a ta) (hb : PE X b tb) (hm : behindInMarks op b = false) : PE X (.Compare a [op] [b] pos) (tOp r ta tb) := by
  intro pins s σ H Q I h
  exact wpAny_Compare1 (binT ha hb I h fun v u s2 x y H2 I2 rx ry q => ho pins s2 σ H2 x y v u Q I2 rx ry q) hm
/-- a reading of a value as a test -/
def tTest (t : TE) : TT := fun σ H Q => t σ H fun x H' => ∃ k, x = .bl k ∧ Q k H'
theorem pt_cmpR {op : CmpOp} {r : R2} (ho : OpR X (compareOp op) r) (ha : PE X a ta) (hb : PE X b tb) (hm : behindInMarks op b = false) : PT X (.Compare a [op] [b] pos) (tTest (tOp r ta tb)) := by
  intro pins s σ H Q I h
  refine wpAny_isTrue_Compare1 (thn (ha pins s σ H _ I h) fun v s1 ⟨x, H1, I1, r1, q1⟩ => thn (hb pins s1 σ H1 _ I1 q1) fun u s2 ⟨y, H2, I2, r2, q2⟩ =>
    thn (ho pins s2 σ H2 x y v u _ I2 r1 r2 q2) fun c s3 ⟨z, H3, I3, r3, k, e, q3⟩ => ?_) hm
  subst e
  cases r3
  exact wpAny_truthy_bool ⟨H3, I3, q3⟩

/-! ### truth -/
theorem line63 : (sizeLine : Nat) < 2 ^ 63 := by rw [sizeLine_eq]; decide

/-! ### strs and bytes -/
theorem op_add_str : OpR X (binaryOp .Add) (fun x y H Q => ∃ i j, x = .str i ∧ y = .str j ∧ i.length + j.length ≤ sizeLine ∧ Q (.str (i ++ j)) H) := by
  intro pins s σ H x y v u Q I rx ry h
  obtain ⟨i, j, rfl, rfl, hz, q⟩ := h
  obtain ⟨t, rfl⟩ := rx
  obtain ⟨t', rfl⟩ := ry
  exact add_str (fun t' tk => ⟨.str (i ++ j), H, I.tok _, ⟨_, rfl⟩, q⟩) hz


/-! ### scalar builtins, by CallR -/
theorem vals1 {x : V} {us : List Value} (r : Vals [x] us) : ∃ u, us = [u] ∧ RelV x u := by
  cases r with
  | cons r1 r2 => cases r2; exact ⟨_, rfl, r1⟩
theorem vals2 {x y : V} {us : List Value} (r : Vals [x, y] us) : ∃ u w', us = [u, w'] ∧ RelV x u ∧ RelV y w' := by
  cases r with
  | cons r1 r2 =>
    cases r2 with
    | cons r3 r4 => cases r4; exact ⟨_, _, rfl, r1, r3⟩
theorem call_abs : CallR X (.builtin "abs") (fun xs H Q => ∃ i, xs = [.int i] ∧ Q (.int (if i < 0 then -i else i)) H) := by
  intro pins s σ H xs us Q I r h
  obtain ⟨i, rfl, q⟩ := h
  obtain ⟨u, rfl, t, rfl⟩ := vals1 r
  exact call_abs_int fun u tk => ⟨.int (if i < 0 then -i else i), H, I.tok _, ⟨_, rfl⟩, q⟩
theorem call_max2 (hc : X.calm = true) : CallR X (.builtin "max") (fun xs H Q => ∃ i j, xs = [.int i, .int j] ∧ Q (.int (if j > i then j else i)) H) := by
  intro pins s σ H xs us Q I r h
  obtain ⟨i, j, rfl, q⟩ := h
  obtain ⟨u, w', rfl, ⟨t, rfl⟩, ⟨t', rfl⟩⟩ := vals2 r
  refine max_two_ints (I.ok.hd hc) fun h' tk k => ⟨_, H, I.kept k, ?_, q⟩
  by_cases hj : j > i
  · rw [if_pos hj, if_pos hj]; exact ⟨_, rfl⟩
  · rw [if_neg hj, if_neg hj]; exact ⟨_, rfl⟩
theorem call_str_int : CallR X (.type "str") (fun xs H Q => ∃ i, xs = [.int i] ∧ i.natAbs.log2 < 1920 ∧ Q (.str (toString i)) H) := by
  intro pins s σ H xs us Q I r h
  obtain ⟨i, rfl, hz, q⟩ := h
  obtain ⟨u, rfl, t, rfl⟩ := vals1 r
  exact PySem.P.str_of_int hz ⟨.str _, H, I.tok _, ⟨_, rfl⟩, q⟩
end
end L2

namespace L2
open PySem PySem.Spec PyProof.Rows

/-! ### an instance, its attributes a map -/
structure ObjM (h : Heap) (x dx C : Addr) (mA : Str → Option Value) : Prop where
  obj : h.get? x = some (PySem.W.instObj C dx)
  ns : h.Ns1 dx mA
  ne : dx ≠ x

theorem lookIn_ns {h : Heap} {dx : Addr} {mA : Str → Option Value} (n : h.Ns1 dx mA) : ∃ od, h.get? dx = some od ∧ ∀ name, PySem.W.lookIn name od = some (mA name) := by
  obtain ⟨o, es, ep, ho, hd, hk, _, hm⟩ := n
  refine ⟨o, ho, fun name => ?_⟩
  have e := hm name
  unfold nsFind findBy at e
  rw [← Array.find?_toList] at e
  unfold PySem.W.lookIn
  rw [hd]
  dsimp only
  split
  · rename_i y q
    rw [q] at e
    exact congrArg some e
  · rename_i q
    rw [q] at e
    have a : es.toList.any (·.refKey) = false := by
      rw [List.any_eq_false]
      intro y hy
      obtain ⟨z, t, hkey⟩ := hk y (Array.mem_toList_iff.mp hy)
      simp [DictEntry.refKey, hkey]
    have a' : ¬ es.toList.any (·.refKey) = true := by rw [a]; exact Bool.false_ne_true
    rw [if_neg a']
    exact congrArg some e

theorem ObjM.look {h : Heap} {x dx C : Addr} {mA : Str → Option Value} (I : ObjM h x dx C mA) : ∃ od, PySem.W.InstAt h x (PySem.W.instObj C dx) C (some od) ∧ ∀ name, PySem.W.lookIn name od = some (mA name) :=
  let ⟨od, ho, hl⟩ := lookIn_ns I.ns
  ⟨od, ⟨I.obj, rfl, rfl, ho⟩, hl⟩

section
variable {prog : Program} {w : World} {A : Around} {E : Value → Shared → Prop} {s : Shared} {K : PySem.W.Frag} {x dx C f : Addr} {mA : Str → Option Value} {name : Str} {v : Value}





end

/-! ### the attributes as a list of pairs -/


section
variable {P : Program} {w : World} {H H' : Hp} {h h' : Heap} {a C dx : Addr} {fs fs' : List (Str × V)}
theorem ins_get (hok : HOk P w H h) (e : H a = some (.ins C dx fs)) : ∃ mA, ObjM h a dx C mA ∧ (∀ f, RelO (fs.lookup f) (mA f)) ∧ PySem.Within mA (fs.map (·.1)) ∧ fs.length ≤ 1000 ∧ H dx = some (.own a) := by
  obtain ⟨d, z, ne, ob, mA, n, r, q⟩ := (show ObjOk P w H h a (.ins C dx fs) from hok a _ e)
  exact ⟨mA, ⟨ob, n, ne⟩, r, q, z, d⟩
end

/-! ### what of the text a class must have -/
structure Cls (K : PySem.W.Frag) (C : Addr) : Prop where
  pg : PySem.W.plainGet K C Str.empty = true
  hd : PySem.W.hasDictIn K C = true
  po : PySem.W.plainOver K C = true
  sa : PySem.W.findIn K (.ref C) "__setattr__" = some (some (.builtin "object.__setattr__"))
theorem Cls.get {K : PySem.W.Frag} {C : Addr} (c : Cls K C) (f : Str) : PySem.W.plainGet K C f = true := c.pg

section
variable {X : Cx} {pins : List (Addr × Obj)} {σ : St} {H : Hp} {s : Shared} {a C dx : Addr} {fs : List (Str × V)} {f : Str} {v : V} {A : Around} {E : Value → Shared → Prop}






end

/-! ### readings and rules -/

section
variable {X : Cx} {o e value : Expr} {f : Str} {pos pos' tpos : Pos} {ta tv : TE}

end

/-! ### isinstance -/
section
variable {X : Cx} {pins : List (Addr × Obj)} {σ : St} {H : Hp} {s : Shared} {A : Around} {E : Value → Shared → Prop} {Q : Value → Shared → Prop} {c : Value} {b : Bool}
/-- the type of a value, as the fragment's deciders take it; for an instance its class -/
inductive TyOf (K : PySem.W.Frag) (H : Hp) : V → Value → Prop where
  | non : TyOf K H .non (.type "NoneType")
  | bl (x : Bool) : TyOf K H (.bl x) (.type "bool")
  | int (i : Int) : TyOf K H (.int i) (.type "int")
  | str (x : Str) : TyOf K H (.str x) (.type "str")
  | flt (x : UInt64) : TyOf K H (.flt x) (.type "float")
  | lst {a : Addr} {xs : List V} (e : H a = some (.lst xs)) : TyOf K H (.ref a) (.type "list")
  | frz {a : Addr} {o : Obj} {xs : List V} (e : H a = some (.frz o (.lst xs))) : TyOf K H (.ref a) (.type "list")
  | tup {a : Addr} {xs : List V} (e : H a = some (.tup xs)) : TyOf K H (.ref a) (.type "tuple")
  | dK {a : Addr} {kvs : List (Key × V)} (e : H a = some (.dK kvs)) : TyOf K H (.ref a) (.type "dict")
  | dT {a : Addr} {kvs : List (List Key × V)} (e : H a = some (.dT kvs)) : TyOf K H (.ref a) (.type "dict")
  | ins {a C dx : Addr} {fs : List (Str × V)} (e : H a = some (.ins C dx fs)) (cl : Cls K C) (ha : PySem.W.findIn K (.ref C) "__class__" = some (some (.builtin "object.__class__")))
      (hn : PySem.W.specialIn K (.builtin "object.__class__") "__get__" = some (some (.builtin "getset_descriptor.__get__"))) (htk : PySem.W.takesIn K (.builtin "object.__class__") = some true)
      (hm : PySem.W.mroIn K C (.type "object") = some true) : TyOf K H (.ref a) (.ref C)
/-- isinstance(x, c) for one class c, a built-in or an own one: kitOne's answer -/
theorem isinst_ok {x : V} {u t : Value} (I : Inv X pins σ H s) (rx : RelV x u) (ty : TyOf X.K H x t) (e : PySem.W.kitOne X.K t c = some b) (h : ∀ tk, Q (.bool b) { s with toks := tk }) :
    wpAny (model X.prog X.w) A (call (.builtin "isinstance") [u, c]) Q E s := by
  cases ty with
  | non => cases (show u = Value.none from rx); exact PySem.W.kia_one PySem.W.kitx_none I.kIn True.intro e (fun z => nomatch z) h
  | bl y => cases (show u = Value.bool y from rx); exact PySem.W.kia_one PySem.W.kitx_bool I.kIn True.intro e (fun z => nomatch z) h
  | int i => obtain ⟨t, q⟩ := (show ∃ t, u = Value.int i t from rx); cases q; exact PySem.W.kia_one PySem.W.kitx_int I.kIn True.intro e (fun z => nomatch z) h
  | str y => obtain ⟨t, q⟩ := (show ∃ t, u = Value.str y t from rx); cases q; exact PySem.W.kia_one PySem.W.kitx_str I.kIn True.intro e (fun z => nomatch z) h
  | flt y => obtain ⟨t, q⟩ := (show ∃ t, u = Value.float y t from rx); cases q; exact PySem.W.kia_one PySem.W.kitx_float I.kIn True.intro e (fun z => nomatch z) h
  | @lst a xs ea =>
    cases (show u = Value.ref a from rx)
    obtain ⟨_, _, n, _, h1⟩ := (show ObjOk X.prog X.w H s.heap a (.lst xs) from I.hok a _ ea)
    exact PySem.W.kia_one PySem.W.kitx_list I.kIn ⟨_, h1, rfl⟩ e (fun z => nomatch z) h
  | @frz a ob xs ea =>
    cases (show u = Value.ref a from rx)
    obtain ⟨_, _, _, n, _, h1⟩ := (show ObjOk X.prog X.w H s.heap a (.frz ob (.lst xs)) from I.hok a _ ea)
    exact PySem.W.kia_one PySem.W.kitx_list I.kIn ⟨_, h1, rfl⟩ e (fun z => nomatch z) h
  | @tup a xs ea =>
    cases (show u = Value.ref a from rx)
    obtain ⟨_, _, _, p⟩ := (show ObjOk X.prog X.w H s.heap a (.tup xs) from I.hok a _ ea)
    obtain ⟨o, h1, h2, _⟩ := p
    exact PySem.W.kia_one PySem.W.kitx_tuple I.kIn ⟨o, h1, h2⟩ e (fun z => nomatch z) h
  | @dK a kvs ea =>
    cases (show u = Value.ref a from rx)
    obtain ⟨_, _, vs, _, p⟩ := (show ObjOk X.prog X.w H s.heap a (.dK kvs) from I.hok a _ ea)
    obtain ⟨o, es, ep, h1, h2, _⟩ := p
    exact PySem.W.kia_one PySem.W.kitx_dict I.kIn ⟨o, h1, h2.1⟩ e (fun z => nomatch z) h
  | @dT a kvs ea =>
    cases (show u = Value.ref a from rx)
    obtain ⟨_, _, xs, _, o, es, ep, h1, h2, _⟩ := (show ObjOk X.prog X.w H s.heap a (.dT kvs) from I.hok a _ ea)
    exact PySem.W.kia_one PySem.W.kitx_dict I.kIn ⟨o, h1, h2.1⟩ e (fun z => nomatch z) h
  | @ins a C dx fs ea cl ha hn htk hm =>
    cases (show u = Value.ref a from rx)
    obtain ⟨mA, O, _⟩ := ins_get I.hok ea
    obtain ⟨od, J, _⟩ := O.look
    exact PySem.W.kia_one (PySem.W.kitx_own (cl.get _) cl.hd ha hn htk hm) I.kIn J e (fun z => nomatch z) h
end
end L2

namespace L2
open PySem PySem.Spec PyProof.Rows

/-! ### room -/
structure Room (k : Nat) (A : Around) : Prop where
  hd : A.handled = none
  dp : A.depth + 3 * k + 5 < recursionLimit
  un : A.units + 16 * k + 200 < cLine
theorem Room.mono {j k : Nat} {A : Around} (r : Room k A) (h : j ≤ k) : Room j A := ⟨r.hd, by have := r.dp; omega, by have := r.un; omega⟩
theorem Room.deeper {k : Nat} {A : Around} (r : Room (k + 1) A) (env : Env) : Room k (A.deeper env) :=
  ⟨r.hd, by have := r.dp; show A.depth + 1 + 3 * k + 5 < _; omega, by have := r.un; show A.units + 3 + 16 * k + 200 < _; omega⟩
theorem Room.depth {k : Nat} {A : Around} (r : Room k A) : A.depth < recursionLimit := by have := r.dp; omega
theorem Room.units {k : Nat} {A : Around} (r : Room k A) : A.units + 64 < cLine := by have := r.un; omega

/-! ### argument lists and displays -/
def tNil : TA := fun _ H Q => Q [] H
def tCons (ta : TE) (tr : TA) : TA := fun σ H Q => ta σ H fun x H1 => tr σ H1 fun xs H2 => Q (x :: xs) H2
section
variable {X : Cx} {e : Expr} {es : List Expr} {te : TE} {t : TA} {pos : Pos}
theorem pa_nil : PA X [] tNil := fun _ _ _ _ H Q I h => Calls.spliced_nil ⟨[], H, I, .nil, h⟩
theorem pa_cons (ha : PE X e te) (hr : PA X es t) (hs : starEach (e :: es) X.env = (false, eval e X.env) :: starEach es X.env := by rfl) : PA X (e :: es) (tCons te t) := by
  intro pos pins s σ H Q I h
  rw [hs]
  show wpAny _ _ (spliced ((false, eval e X.env) :: backTo pos (starEach es X.env))) _ _ s
  refine Calls.spliced_cons (thn (ha pins s σ H _ I h) fun u s1 ⟨x, H1, I1, r1, q1⟩ => ?_)
  exact thn (hr pos pins s1 σ H1 _ I1 q1) fun us s2 ⟨xs, H2, I2, r2, q2⟩ => ⟨x :: xs, H2, I2, .cons r1 r2, q2⟩

/-- a tuple, a list of written items -/
def tTup (t : TA) : TE := fun σ H Q => t σ H fun xs H1 => xs.length ≤ sizeLine ∧ ∀ p, H1 p = none → Q (.ref p) (upd H1 p (.tup xs))
def tLst (t : TA) : TE := fun σ H Q => t σ H fun xs H1 => xs.length ≤ sizeLine ∧ ∀ p, H1 p = none → Q (.ref p) (upd H1 p (.lst xs))
theorem pe_tup {x1} (h : PA X es t) : PE X (.Tuple es x1 pos) (tTup t) := by
  intro pins s σ H Q I hq
  refine wpAny_Tuple_spliced (thn (h pos pins s σ H _ I hq) fun us s1 ⟨xs, H1, I1, r, z, q⟩ => ⟨by rw [← r.length]; exact z, ?_⟩)
  have hf : H1 s1.heap.objs.size = none := I1.hok.fresh (Nat.le_refl _)
  refine ⟨.ref s1.heap.objs.size, upd H1 s1.heap.objs.size (.tup xs), I1.laid (t' := s1.toks) (fun b u e => Heap.get?_push_of_some _ e) (Nat.le_refl _) ?_, rfl, q _ hf⟩
  exact ⟨z, us, r, ⟨_, Heap.get?_push_size _ rfl, rfl, _, rfl⟩⟩
theorem pe_lst (h : PA X es t) : PE X (.List es pos) (tLst t) := by
  intro pins s σ H Q I hq
  refine wpAny_List_spliced (thn (h pos pins s σ H _ I hq) fun us s1 ⟨xs, H1, I1, r, z, q⟩ => ⟨by rw [← r.length]; exact z, ?_⟩)
  have hf : H1 s1.heap.objs.size = none := I1.hok.fresh (Nat.le_refl _)
  refine ⟨.ref s1.heap.objs.size, upd H1 s1.heap.objs.size (.lst xs), I1.laid (t' := s1.toks) (fun b u e => Heap.get?_push_of_some _ e) (Nat.le_refl _) ?_, rfl, q _ hf⟩
  exact ⟨z, us, 0, r, Heap.get?_push_size _ rfl⟩
end

/-! ### what a def promises -/
/-- a def's promise: the bound arguments in the parameters' order, the heap, the wanted end, the wanted exception -/
abbrev Sp := List V → Hp → VK → XK → Prop
/-- how an exception lies behind a call (file 08 gives it): the callers' frames, abstract heap and state ahead of the call, the wish, the exception, the state -/
abbrev CXT := List Env → Hp → Shared → XK → Value → Shared → Prop

/-- the state at a call -/
structure Env0 (P : Program) (w : World) (K : PySem.W.Frag) (mg : Str → Option Value) (base : Heap) (A : Around) (outer : List Env) (s : Shared) (H : Hp) : Prop where
  frames : A.frames = some outer
  mod : Mod K mg base
  bs : ∀ b o, base.get? b = some o → s.heap.get? b = some o ∧ H b = none
  bsz : base.objs.size ≤ s.heap.objs.size
  funs : s.heap.FunFrames base outer
  frf : ∀ b ∈ frs outer, H b = none
  hok : HOk P w H s.heap
  bare : AllBare s.gens
/-- a call's end -/
def CE (outer : List Env) (P : Program) (w : World) (H : Hp) (s : Shared) (Q : VK) (u : Value) (s' : Shared) : Prop :=
  ∃ v H', s'.os = s.os ∧ AllBare s'.gens ∧ Un (frs outer) [] H H' s.heap s'.heap ∧ HOk P w H' s'.heap ∧ RelV v u ∧ Q v H'
def CR (CX : CXT) (outer : List Env) (P : Program) (w : World) (H : Hp) (s : Shared) (Q : VK) (E : XK) (r : Result) (s' : Shared) : Prop :=
  match r with
  | .ok (.ret u) => CE outer P w H s Q u s'
  | .ok _ => False
  | .error e => CX outer H s E e s'
structure FnOk (P : Program) (w : World) (K : PySem.W.Frag) (mg : Str → Option Value) (base : Heap) (CX : CXT) (k : Nat) (f : Addr) (fd : FuncData) (ps : List Str) (sp : Sp) : Prop where
  len : ∀ vs H Q E, sp vs H Q E → vs.length = ps.length
  run : ∀ (A : Around) (outer : List Env) (s : Shared) (H : Hp) (args : Args) (us : List Value) (vs : List V) (Q : VK) (E : XK), Room k A → Env0 P w K mg base A outer s H → BindsTo s fd args (ps.zip us) → Vals vs us → sp vs H Q E →
    codeAny (model P w) A (.call (.ref f) args) (CR CX outer P w H s Q E) s


section
variable {X : Cx} {pins : List (Addr × Obj)} {σ : St} {H : Hp} {s s' : Shared}
/-- from a body: what a callee wants -/
theorem Inv.env0 (I : Inv X pins σ H s) : Env0 X.prog X.w X.K X.mg X.base X.A X.stack s H :=
  ⟨I.ok.frames, I.ok.mod, I.bs, Nat.le_trans I.ok.bsz I.sz, I.stack, I.stkFree, I.hok, I.bare⟩
/-- behind a call -/
theorem Inv.after {Q : VK} {u : Value} (I : Inv X pins σ H s) (h : CE X.stack X.prog X.w H s Q u s') : EP X pins σ Q u s' := by
  obtain ⟨v, H', os, bare, un, hok, r, q⟩ := h
  obtain ⟨hh, g, d, t, os'⟩ := s'
  obtain rfl : os' = s.os := os
  exact ⟨v, H', I.call (h' := hh) (g' := g) (d' := d) (t' := t) (ch := []) un hok bare (fun b z => absurd z (by simp)), r, q⟩
end

/-! ### calls -/
/-- f(..): the written arguments, then the defaults dvs; E: what is wanted of an exception -/
def tCall (sp : Sp) (dvs : List V) (E : XK) (t : TA) : TE := fun σ H Q => t σ H fun vs H1 => sp (vs ++ dvs) H1 Q E

/-- how the parameters are bound: us the positional arguments, kw the keywords' values by name, ds the defaults that fill up -/
def Binds (K : PySem.W.Frag) (fd : FuncData) (ps : List Str) (ds : List Value) : Prop :=
  ∀ (s : Shared) (us : List Value), K.In s.heap → (us ++ ds).length = ps.length → BindsTo s fd ⟨us, []⟩ (ps.zip (us ++ ds))
/-- every parameter is given -/
theorem Binds.all {K : PySem.W.Frag} {fd : FuncData} {ps : List Str} (h : ∀ us : List Value, us.length = ps.length → bindArgs fd ⟨us, []⟩ = pure (ps.zip us)) : Binds K fd ps [] := fun s us _ hl => by
  rw [List.append_nil] at hl ⊢
  exact .of_eq (h us hl)

/-- an exception of a callee reaches what this body wants of exceptions -/
def Passes (CX : CXT) (X : Cx) (E : XK) : Prop := ∀ (pins : List (Addr × Obj)) (σ : St) (H : Hp) (s : Shared) (e : Value) (s' : Shared), Inv X pins σ H s → CX X.stack H s E e s' → X.xe e s'

section
variable {X : Cx} {CX : CXT} {k : Nat} {f C : Addr} {fd : FuncData} {ps : List Str} {sp : Sp} {dvs : List V} {ds : List Value} {E : XK} {x m : Str} {p pos apos : Pos} {e o : Expr} {es : List Expr} {ta : TE} {t : TA}

/-- the callee runs -/
theorem run_fn {pins : List (Addr × Obj)} {σ : St} {H : Hp} {s : Shared} {Q : VK} {us : List Value} {vs : List V} (F : FnOk X.prog X.w X.K X.mg X.base CX k f fd ps sp) (hr : Room k X.A) (hb : Binds X.K fd ps ds) (hd : Vals dvs ds) (hx : Passes CX X E)
    (I : Inv X pins σ H s) (r : Vals vs us) (h : sp (vs ++ dvs) H Q E) : wpAny (model X.prog X.w) X.A (call (.ref f) us) (EP X pins σ Q) X.xe s := by
  have r2 : Vals (vs ++ dvs) (us ++ ds) := r.append hd
  have hl : (us ++ ds).length = ps.length := by rw [← r2.length]; exact F.len _ _ _ _ h
  refine wpAny_call (codeAny_mono (F.run X.A X.stack s H ⟨us, []⟩ (us ++ ds) (vs ++ dvs) Q E hr I.env0 (hb s us I.kIn hl) r2 h) fun r s' hq => ?_)
  cases r with
  | error e => exact hx pins σ H s e s' I hq
  | ok fl =>
    cases fl with
    | ret u => exact I.after hq
    | next => exact False.elim hq
    | brk => exact False.elim hq
    | cont => exact False.elim hq

theorem pe_call (F : FnOk X.prog X.w X.K X.mg X.base CX k f fd ps sp) (hr : Room k X.A) (hg : Gl X x) (hm : X.mg x = some (.ref f)) (hk : PySem.W.keepIn X.K (.ref f) = true) (hb : Binds X.K fd ps ds) (hd : Vals dvs ds) (hx : Passes CX X E)
    (ha : PA X (e :: es) t) (hdb : (x == ("__debug__" : Str)) = false := by decide) (he : starEach (e :: es) X.env = (false, eval e X.env) :: starEach es X.env := by rfl) (hpl : (backTo pos (starEach es X.env)).any (·.1) = false := by rfl) :
    PE X (.Call (.Name x p) (e :: es) [] pos) (tCall sp dvs E t) := by
  intro pins s σ H Q I h
  refine wpAny_Call_Name_kw (ld_glob I hg hm ?_ hdb)
  refine PySem.W.callWith_K (h₀ := X.base) I.ok.mod.kin hk (thn (ha pos pins s σ H _ I h) fun us s1 ⟨vs, H1, I1, r, q⟩ => ⟨I1.kIn, ?_⟩) he hpl
  exact run_fn F hr hb hd hx I1 r q



end

/-! ### keywords -/
section
variable {X : Cx} {CX : CXT} {k : Nat} {f C : Addr} {fd : FuncData} {ps ks : List Str} {sp : Sp} {E : XK} {x m : Str} {p pos apos kpos : Pos} {e o : Expr} {es : List Expr} {kws : List Keyword} {te ta : TE} {t tk : TA} {nm : Option Str}

variable {g : List Value → List Value → List Value} {gV : List V → List V → List V}
end

/-! ### a def's body keeps its promise -/
/-- names: the parameters first -/
structure FnScope (N P : List Str) (sc : Scope) : Prop where
  kind : sc.kind = .function
  co : sc.isCoroutine = false
  gen : sc.isGenerator = false
  nd : N.Nodup
  pre : N.take P.length = P
  par : ∀ x ∈ P, sc.names.lookup x = some .local ∨ sc.names.lookup x = some .cell
  nofree : ∀ y ∈ sc.names, y.2 ≠ .free

theorem bindL_out {kindOf : Str → Option NameKind} {x : Str} : ∀ {binds : List (Str × Value)} {m : Str → Option Value}, (∀ v, (x, v) ∉ binds) → bindL kindOf binds m x = m x
  | [], _, _ => rfl
  | (n, v) :: r, m, h => by
    unfold bindL
    rw [bindL_out fun w hw => h w (List.mem_cons_of_mem _ hw)]
    split
    · have : x ≠ n := by rintro rfl; exact h v List.mem_cons_self
      simp [this]
    · rfl
theorem bindC_out {kindOf : Str → Option NameKind} {x : Str} : ∀ {binds : List (Str × Value)} {m : Str → Option Value}, (∀ v, (x, v) ∉ binds) → bindC kindOf binds m x = m x
  | [], _, _ => rfl
  | (n, v) :: r, m, h => by
    unfold bindC
    rw [bindC_out fun w hw => h w (List.mem_cons_of_mem _ hw)]
    split
    · rfl
    · have : x ≠ n := by rintro rfl; exact h v List.mem_cons_self
      simp [this]
theorem bindL_get {kindOf : Str → Option NameKind} {x : Str} {v : Value} : ∀ {P : List Str} {vs : List Value} {i : Nat} {m : Str → Option Value}, P.Nodup → P[i]? = some x → vs[i]? = some v → kindOf x = some .local →
    bindL kindOf (P.zip vs) m x = some v
  | [], _, _, _, _, h, _, _ => by simp at h
  | _ :: _, [], _, _, _, _, h, _ => by simp at h
  | p :: P, w :: vs, 0, m, nd, h1, h2, hk => by
    simp at h1 h2; subst h1; subst h2
    show bindL kindOf ((p, w) :: P.zip vs) m p = _
    unfold bindL
    rw [bindL_out fun v hv => (List.nodup_cons.mp nd).1 (List.of_mem_zip hv).1, if_pos hk]
    simp
  | p :: P, w :: vs, i + 1, m, nd, h1, h2, hk => by
    show bindL kindOf ((p, w) :: P.zip vs) m x = _
    unfold bindL
    exact bindL_get (i := i) (List.nodup_cons.mp nd).2 (by simpa using h1) (by simpa using h2) hk
theorem bindC_get {kindOf : Str → Option NameKind} {x : Str} {v : Value} : ∀ {P : List Str} {vs : List Value} {i : Nat} {m : Str → Option Value}, P.Nodup → P[i]? = some x → vs[i]? = some v → kindOf x ≠ some .local →
    bindC kindOf (P.zip vs) m x = some v
  | [], _, _, _, _, h, _, _ => by simp at h
  | _ :: _, [], _, _, _, _, h, _ => by simp at h
  | p :: P, w :: vs, 0, m, nd, h1, h2, hk => by
    simp at h1 h2; subst h1; subst h2
    show bindC kindOf ((p, w) :: P.zip vs) m p = _
    unfold bindC
    rw [bindC_out fun v hv => (List.nodup_cons.mp nd).1 (List.of_mem_zip hv).1, if_neg hk]
    simp
  | p :: P, w :: vs, i + 1, m, nd, h1, h2, hk => by
    show bindC kindOf ((p, w) :: P.zip vs) m x = _
    unfold bindC
    exact bindC_get (i := i) (List.nodup_cons.mp nd).2 (by simpa using h1) (by simpa using h2) hk

/-- the names' values at the entry -/
def start (N : List Str) (vs : List V) : St := vs.map some ++ List.replicate (N.length - vs.length) none

/-- the context of a def's body, at its entry; an exception leaves the frame, then lies as CX says -/
def cxOf (CX : CXT) (P : Program) (w : World) (K : PySem.W.Frag) (mg : Str → Option Value) (base : Heap) (N : List Str) (qual : Str) (scope : Scope) (f : Addr) (cd : Value) (A : Around) (outer : List Env) (s : Shared) (H : Hp) (E : XK) : Cx where
  prog := P
  w := w
  K := K
  mg := mg
  base := base
  A := A.deeper (envOfC qual scope s.heap.objs.size f cd)
  N := N
  s₀ := s
  H₀ := H
  env := envOfC qual scope s.heap.objs.size f cd
  outer := outer
  stack := envOfC qual scope s.heap.objs.size f cd :: outer
  ex := []
  calm := true
  fn := fun _ => true
  pn := []
  xe := fun e s' => wpAny (model P w) (A.deeper (envOfC qual scope s.heap.objs.size f cd)) (leaving (envOfC qual scope s.heap.objs.size f cd) e) (fun _ s'' => CX outer H s E e s'') (fun e' s'' => CX outer H s E e' s'') s'

theorem cell_has {sc : Scope} {n : Nat} {x : Str} (h : sc.names.lookup x = some .cell) : ∃ c, (cellsFrom n sc.names []).lookup x = some c := by
  have q := PySem.W.cellsFrom_some sc.names n [] (.inl h)
  exact Option.isSome_iff_exists.mp q

theorem inv_start {CX : CXT} {P : Program} {w : World} {K : PySem.W.Frag} {mg : Str → Option Value} {base : Heap} {N ps : List Str} {qual : Str} {scope : Scope} {f : Addr} {cd : Value} {A : Around} {outer : List Env} {s s1 : Shared} {H : Hp} {E : XK} {us : List Value} {vs : List V}
    (S : FnScope N ps scope) (hd : A.handled = none) (e0 : Env0 P w K mg base A outer s H) (hl : vs.length = ps.length) (r : Vals vs us)
    (x : InCallC s s.heap.objs.size (bindL (envOfC qual scope s.heap.objs.size f cd).kindOf (ps.zip us) fun _ => none) (cellsFrom (s.heap.objs.size + 1) scope.names []) (bindC (envOfC qual scope s.heap.objs.size f cd).kindOf (ps.zip us) fun _ => none) s1) :
    Inv (cxOf CX P w K mg base N qual scope f cd A outer s H E) [] (start N vs) H s1 := by
  have hpl : ps.length ≤ N.length := by have := congrArg List.length S.pre; rw [List.length_take] at this; omega
  obtain ⟨h1, tk, rfl, hk⟩ := x.done
  have noA : ∀ b : Addr, b ∉ (cxOf CX P w K mg base N qual scope f cd A outer s H E).ex := fun b z => absurd (show b ∈ ([] : List Addr) from z) (by simp)
  refine ⟨⟨e0.mod, S.kind, rfl, rfl, Nat.le_refl _, fun y z c h1 h2 => ?_, fun y hy => ?_, fun y c _ h => ?_, fun _ => hd, Around.frames_deeper e0.frames, .inr ⟨rfl, rfl⟩, fun b z => absurd z (noA b), e0.bs, e0.bsz, fun b _ _ => noA b, fun b z => absurd z (noA b), e0.funs, e0.frf⟩,
    rfl, e0.bare, Un.kept hk, ⟨_, x.toInCall.ns, fun i y v h1 h2 h3 => ?_⟩, fun y c h => ⟨_, x.cell y c h⟩, e0.hok.fresh (Nat.le_refl _), fun y c h => ?_, fun p hp => absurd (show p ∈ ([] : List (Addr × Obj)) from hp) (by simp), e0.hok.kept hk, ?_⟩
  · exact name_of_addr x.apart (PySem.mem_of_lookup h1) (PySem.mem_of_lookup h2)
  · have hy : scope.names.lookup y = some .cell ∨ scope.names.lookup y = some .free := hy
    rcases hy with hy | hy
    · exact cell_has hy
    · exact absurd rfl (S.nofree _ (PySem.mem_of_lookup hy))
  · exact Nat.le_of_lt (x.above y c (PySem.mem_of_lookup h))
  · have hi : i < vs.length := by
      unfold start at h2
      by_cases hi : i < vs.length
      · exact hi
      · rw [List.getElem?_append_right (by simpa using hi)] at h2
        rw [List.getElem?_replicate] at h2
        split at h2 <;> cases h2
    have ha : vs[i]? = some v := by
      unfold start at h2
      rw [List.getElem?_append_left (by simpa using hi), List.getElem?_map] at h2
      cases e : vs[i]? with
      | none => rw [e] at h2; cases h2
      | some a => rw [e] at h2; cases h2; rfl
    obtain ⟨u, hu, rv⟩ := r.get ha
    have hp : ps[i]? = some y := by
      rw [← S.pre, List.getElem?_take_of_lt (by omega)]; exact h1
    have ndP : ps.Nodup := by rw [← S.pre]; exact S.nd.sublist (List.take_sublist _ _)
    refine ⟨u, rv, ?_⟩
    rcases S.par y (List.mem_of_getElem? hp) with k | k
    · exact .inl ⟨k, bindL_get ndP hp hu k⟩
    · obtain ⟨c, e⟩ := cell_has (n := s.heap.objs.size + 1) k
      refine .inr ⟨.inl k, c, e, ?_⟩
      have q := x.cell y c e
      rw [bindC_get ndP hp hu (by show scope.names.lookup y ≠ _; rw [k]; decide)] at q
      exact q
  · exact e0.hok.fresh (Nat.le_of_lt (x.above y c (PySem.mem_of_lookup h)))
  · unfold start
    show _ = N.length
    rw [List.length_append, List.length_map, List.length_replicate]
    omega

/-- THE RULE: a def (or a method) of the text, by its body. The body's reading t is chosen for each entry; it is run at the parameters' values -/
theorem fn_of {CX : CXT} {P : Program} {w : World} {K : PySem.W.Frag} {mg : Str → Option Value} {base : Heap} {k : Nat} {f : Addr} {name qual : Str} {params : Arguments} {body : List Stmt} {scope : Scope} {dV kV doc pm cdv ct oc : Value} {an od : Option Addr}
    {osl : Array (Option Value)} {N ps : List Str} {sp : Sp} (lk : K.lookup f = some ⟨oc, od, .func (PySem.W.fnOf name qual params body scope dV kV doc pm an cdv ct), osl⟩) (hcd : PySem.W.codeIn K cdv qual = true) (S : FnScope N ps scope)
    (len : ∀ vs H Q E, sp vs H Q E → vs.length = ps.length)
    (hbody : ∀ (A : Around) (outer : List Env) (s : Shared) (H : Hp) (vs : List V) (Q : VK) (E : XK), Room k (A.deeper (envOfC qual scope s.heap.objs.size f cdv)) → sp vs H Q E →
      ∃ t, PSs (cxOf CX P w K mg base N qual scope f cdv A outer s H E) body t ∧ t { nx := fun _ H' => Q .non H', rt := Q } (start N vs) H) :
    FnOk P w K mg base CX (k + 1) f (PySem.W.fnOf name qual params body scope dV kV doc pm an cdv ct) ps sp := by
  refine ⟨len, fun A outer s H args us vs Q E hr e0 hb r hsp => ?_⟩
  have hl := len _ _ _ _ hsp
  have KX : K.In s.heap := e0.mod.kin.keeps fun b o e => (e0.bs b o e).1
  have lim : s.heap.NoLimit := e0.mod.nolimit.keeps fun b o e => (e0.bs b o e).1
  have hkind : ∀ y ∈ ps.zip us, scope.names.lookup y.1 = some .local ∨ (scope.names.lookup y.1 = some .cell ∧ ((cellsFrom (s.heap.objs.size + 1) scope.names []).lookup y.1).isSome = true) := fun ⟨n, v⟩ hy => by
    rcases S.par n (List.of_mem_zip hy).1 with q | q
    · exact .inl q
    · exact .inr ⟨q, PySem.W.cellsFrom_some _ _ _ (.inl q)⟩
  refine codeAny_call_function hr.depth (KX _ _ lk) rfl S.co S.gen rfl (PySem.W.codeRec_of KX hcd) (hb _ _ _ _ ?_)
  refine wpAny_newFunctionEnv_cells S.kind hkind fun env he s1 x => ?_
  subst he
  refine ⟨lim.keeps x.toInCall.keep, codeAny_func ?_⟩
  obtain ⟨t, ht, hq⟩ := hbody A outer s H vs Q E (hr.deeper _) hsp
  have I : Inv (cxOf CX P w K mg base N qual scope f cdv A outer s H E) [] (start N vs) H s1 := inv_start S hr.hd e0 hl r x
  refine wpAny_mono (ht [] s1 (start N vs) H _ I hq) (fun fl s' hs => ?_) fun e s' hs => hs
  have fin : ∀ {σ' : St} {H' : Hp} {v : V} {u : Value}, Inv (cxOf CX P w K mg base N qual scope f cdv A outer s H E) [] σ' H' s' → RelV v u → Q v H' → CE outer P w H s Q u s' :=
    fun {σ' H' v u} J rv q => ⟨v, H', J.os, J.bare, J.base, J.hok, rv, q⟩
  cases fl with
  | ret u =>
    obtain ⟨v, σ', H', J, rv, q⟩ := hs
    exact fin J rv q
  | next =>
    obtain ⟨σ', H', J, q⟩ := hs
    exact fin (v := V.non) (u := Value.none) J rfl q
  | brk =>
    obtain ⟨_, _, _, q⟩ := hs
    exact False.elim q
  | cont =>
    obtain ⟨_, _, _, q⟩ := hs
    exact False.elim q
end L2

namespace L2
open PySem PySem.Spec PyProof.Rows
section
variable {X : Cx} {x : Str} {p pos : Pos} {e : Expr} {es : List Expr} {t : TA} {id T : String} {r : List V → Hp → VK → Prop}

def tCB (r : List V → Hp → VK → Prop) (t : TA) : TE := fun σ H Q => t σ H fun vs H1 => r vs H1 Q
/-- f(e, ..), f a built-in function -/
theorem pe_callB (hc : CallR X (.builtin id) r) (hg : Gl X x) (hm : X.mg x = none) (hv : bootBuiltins x = some (.builtin id)) (ha : PA X (e :: es) t) (hn : x ≠ "__name__" := by decide) (hdb : (x == ("__debug__" : Str)) = false := by decide)
    (he : starEach (e :: es) X.env = (false, eval e X.env) :: starEach es X.env := by rfl) (hpl : (backTo pos (starEach es X.env)).any (·.1) = false := by rfl) : PE X (.Call (.Name x p) (e :: es) [] pos) (tCB r t) := by
  intro pins s σ H Q I h
  refine wpAny_Call_Name_kw (ld_blt I hg hm hv ?_ hn hdb)
  exact PyProof.Rows.callWith_builtin1 (thn (ha pos pins s σ H _ I h) fun us s1 ⟨vs, H1, I1, r1, q1⟩ => hc pins s1 σ H1 vs us Q I1 r1 q1) he hpl
/-- T(e, ..), T a built-in type -/
theorem pe_callTy (hc : CallR X (.type T) r) (hg : Gl X x) (hm : X.mg x = none) (hv : bootBuiltins x = some (.type T)) (ha : PA X (e :: es) t) (hn : x ≠ "__name__" := by decide) (hdb : (x == ("__debug__" : Str)) = false := by decide)
    (he : starEach (e :: es) X.env = (false, eval e X.env) :: starEach es X.env := by rfl) (hpl : (backTo pos (starEach es X.env)).any (·.1) = false := by rfl) : PE X (.Call (.Name x p) (e :: es) [] pos) (tCB r t) := by
  intro pins s σ H Q I h
  refine wpAny_Call_Name_kw (ld_blt I hg hm hv ?_ hn hdb)
  exact PyProof.Rows.callWith_type1 (thn (ha pos pins s σ H _ I h) fun us s1 ⟨vs, H1, I1, r1, q1⟩ => hc pins s1 σ H1 vs us Q I1 r1 q1) he hpl
end
end L2

namespace HT
open PySem PyProof.Rows



section
open PySem.SeqAt
open PySem.AutoSeq1 (wpAny_loadPart')
open PySem.MeetsSeq PySem.MeetsSeq2 PySem.MeetsSeq3

end

section
variable {prog : Program} {w : World} {A : Around} {E : Value → Shared → Prop} {s : Shared}



/-! ### t[a:b], not the whole -/
/-- a slice's bound as a place among n (d where it is left out) -/
def sIx (n d : Nat) : Option Int → Nat
  | none => d
  | some v => if v < 0 then (v + (n : Int)).toNat else min v.toNat n

end
end HT

namespace L2
open PySem PySem.Spec PyProof.Rows

/-! ### the parts of a slice -/
abbrev TO := St → Hp → (Option Int → Hp → Prop) → Prop
/-- a slice's part (left out, or an int) -/
def PO (X : Cx) (e : Option Expr) (t : TO) : Prop :=
  ∀ (pins : List (Addr × Obj)) (s : Shared) (σ : St) (H : Hp) (Q : Option Int → Hp → Prop), Inv X pins σ H s → t σ H Q →
    wpAny (model X.prog X.w) X.A (evalPart e X.env) (fun u s' => ∃ o H', Inv X pins σ H' s' ∧ IsPart u o ∧ Q o H') X.xe s
def tNoPart : TO := fun _ H Q => Q none H
def tPart (t : TE) : TO := fun σ H Q => t σ H fun x H1 => ∃ i, x = .int i ∧ Q (some i) H1


section
variable {X : Cx} {e : Expr} {te : TE} {lo hi : Option Expr} {tl th : TO} {pos p2 : Pos}

theorem po_none : PO X none tNoPart := by
  intro pins s σ H Q I h
  rw [evalPart_none]
  exact wpAny_pure ⟨none, H, I, .none, h⟩
theorem po_some (h : PE X e te) : PO X (some e) (tPart te) := by
  intro pins s σ H Q I hw
  rw [evalPart_some]
  refine thn (h pins s σ H _ I hw) fun u s1 ⟨x, H1, I1, r1, q1⟩ => ?_
  obtain ⟨i, rfl, q⟩ := q1
  obtain ⟨t, rfl⟩ := r1
  exact ⟨some i, H1, I1, .int i t, q⟩

/-- what a slice of a value is, by values: the slice object stands at sl -/
def SlR (X : Cx) (r : V → Option Int → Option Int → Hp → VK → Prop) : Prop :=
  ∀ (pins : List (Addr × Obj)) (s : Shared) (σ : St) (H : Hp) (x : V) (v vl vu : Value) (lo hi : Option Int) (sl : Addr) (Q : VK), Inv X pins σ H s → RelV x v → s.heap.IsSliceOf sl vl vu .none → IsPart vl lo → IsPart vu hi → r x lo hi H Q →
    ∃ T id, typeLookup (.type T) "__getitem__" = pure (some (.builtin id)) ∧ s.TypeIs v T ∧ wpAny (model X.prog X.w) X.A (getItem v (.ref sl)) (EP X pins σ Q) X.xe s
def tSl (r : V → Option Int → Option Int → Hp → VK → Prop) (te : TE) (tl th : TO) : TE := fun σ H Q => te σ H fun x H1 => tl σ H1 fun l H2 => th σ H2 fun u H3 => r x l u H3 Q
/-- a[lo:hi], any a -/
theorem pe_slice {r : V → Option Int → Option Int → Hp → VK → Prop} (hr : SlR X r) (he : PE X e te) (hl : PO X lo tl) (hu : PO X hi th) : PE X (.Subscript e (.Slice lo hi none p2) pos) (tSl r te tl th) := by
  intro pins s σ H Q I h
  refine Subscript_ (thn (he pins s σ H _ I h) fun v s1 ⟨x, H1, I1, r1, q1⟩ => ?_)
  refine wpAny_Slice (thn (hl pins s1 σ H1 _ I1 q1) fun vl s2 ⟨l, H2, I2, pl, q2⟩ => thn (hu pins s2 σ H2 _ I2 q2) fun vu s3 ⟨u, H3, I3, pu, q3⟩ => ?_)
  rw [evalPart_none]
  refine wpAny_pure ?_
  have I4 : Inv X pins σ H3 { s3 with heap := s3.heap.push { cls := .type "slice", data := .fields #[vl, vu, .none] } } := I3.kept (t' := s3.toks) fun b ob q => Heap.get?_push_of_some _ q
  obtain ⟨T, id, hT, ht, hg⟩ := hr pins { s3 with heap := s3.heap.push { cls := .type "slice", data := .fields #[vl, vu, .none] } } σ H3 x v vl vu l u s3.heap.objs.size Q I4 r1 (Heap.IsSliceOf.new ..) pl pu q3
  show wpAny (model X.prog X.w) X.A (subscriptTail e (.Slice lo hi none p2) v (.ref s3.heap.objs.size)) (EP X pins σ Q) X.xe { s3 with heap := s3.heap.push { cls := .type "slice", data := .fields #[vl, vu, .none] } }
  exact tail_any (ops := [.ref s3.heap.objs.size, v]) ht hT hg (by with_unfolding_all rfl)

/-- the items of xs[lo:hi] -/
def cutV (xs : List V) (lo hi : Option Int) : List V := (xs.drop (HT.sIx xs.length 0 lo)).take (HT.sIx xs.length xs.length hi - HT.sIx xs.length 0 lo)
theorem cutV_length (xs : List V) (lo hi : Option Int) : (cutV xs lo hi).length ≤ xs.length := by
  unfold cutV
  rw [List.length_take, List.length_drop]
  omega

/-! ### t < u, t + u -/
end
end L2

namespace L2
open PySem PySem.Spec PyProof.Rows

/-! ### places -/
/-- the place that an index of any sign means -/
def ixN (n : Nat) (i : Int) : Option Nat := if 0 ≤ i then (if i < n then some i.toNat else none) else if -(n : Int) ≤ i then some (i + n).toNat else none
def atI {α : Type} (xs : List α) (i : Int) : Option α := (ixN xs.length i).bind fun j => xs[j]?
theorem ixN_seq {n : Nat} {i : Int} {j : Nat} (h : ixN n i = some j) : seqIndex? i n = some j ∧ j < n ∧ -(n : Int) ≤ i ∧ i < n := by
  unfold ixN at h
  by_cases h0 : 0 ≤ i
  · rw [if_pos h0] at h
    by_cases h1 : i < n
    · rw [if_pos h1] at h
      have e : i.toNat = j := Option.some.inj h
      exact ⟨by rw [seqIndex_of h0 h1, e], by omega, by omega, h1⟩
    · rw [if_neg h1] at h; cases h
  · rw [if_neg h0] at h
    by_cases h1 : -(n : Int) ≤ i
    · rw [if_pos h1] at h
      have e : (i + n).toNat = j := Option.some.inj h
      exact ⟨by rw [seqIndex_neg (by omega) h1, e], by omega, h1, by omega⟩
    · rw [if_neg h1] at h; cases h
theorem atI_get {α : Type} {xs : List α} {i : Int} {v : α} (h : atI xs i = some v) : ∃ j, seqIndex? i xs.length = some j ∧ xs[j]? = some v ∧ j < xs.length ∧ -(xs.length : Int) ≤ i ∧ i < xs.length := by
  unfold atI at h
  cases e : ixN xs.length i with
  | none => rw [e] at h; cases h
  | some j =>
    rw [e] at h
    obtain ⟨h1, h2, h3, h4⟩ := ixN_seq e
    exact ⟨j, h1, h, h2, h3, h4⟩
theorem atI_nat {α : Type} {xs : List α} {j : Nat} {v : α} (h : xs[j]? = some v) : atI xs (j : Int) = some v := by
  have hj : j < xs.length := (List.getElem?_eq_some_iff.mp h).1
  have e : ixN xs.length (j : Int) = some j := by
    unfold ixN
    rw [if_pos (by omega), if_pos (by omega)]; simp
  unfold atI; rw [e]; exact h
theorem atI_last {α : Type} (xs : List α) (v : α) : atI (xs ++ [v]) (-1) = some v := by
  have hl : (xs ++ [v]).length = xs.length + 1 := by simp
  have e : ixN (xs ++ [v]).length (-1) = some xs.length := by
    unfold ixN
    rw [hl, if_neg (by decide), if_pos (by omega)]
    congr 1
    omega
  unfold atI
  rw [e]
  show (xs ++ [v])[xs.length]? = some v
  simp

/-! ### what may be subscripted -/
/-- what stands as an index of a plain subscript -/
def PlainIx (b : Expr) : Prop := ∀ o i, subscripted b false o i = operate [o, i] (getItem o i)
/-- a subscript by values -/
def IxR (X : Cx) (r : R2) : Prop :=
  ∀ (value slice : Expr) (pins : List (Addr × Obj)) (s : Shared) (σ : St) (H : Hp) (x y : V) (v u : Value) (Q : VK), Inv X pins σ H s → RelV x v → RelV y u → r x y H Q →
    subscripted slice false v u = operate [v, u] (getItem v u) → wpAny (model X.prog X.w) X.A (subscriptTail value slice v u) (EP X pins σ Q) X.xe s
/-- a call of a builtin's method by values: the receiver, the arguments -/
def MtR (X : Cx) (id : String) (r : V → List V → Hp → VK → Prop) : Prop :=
  ∀ (pins : List (Addr × Obj)) (s : Shared) (σ : St) (H : Hp) (x : V) (xs : List V) (v : Value) (us : List Value) (Q : VK), Inv X pins σ H s → RelV x v → Vals xs us → r x xs H Q →
    wpAny (model X.prog X.w) X.A (call (.builtin id) (v :: us)) (EP X pins σ Q) X.xe s
section
variable {X : Cx} {a b : Expr} {ta tb : TE} {pos : Pos}
/-- a[b] -/
theorem pe_ix {r : R2} (hr : IxR X r) (ha : PE X a ta) (hb : PE X b tb) (hs : PlainIx b) : PE X (.Subscript a b pos) (tOp r ta tb) := by
  intro pins s σ H Q I h
  exact Subscript_ (binT ha hb I h fun v u s2 x y H2 I2 rx ry q => hr a b pins s2 σ H2 x y v u Q I2 rx ry q (hs _ _))

def rIxL (K : PySem.W.Frag) : R2 := fun x y H Q => ∃ p xs i v, x = .ref p ∧ y = .int i ∧ SqL K H p xs ∧ atI xs i = some v ∧ Q v H
def rIxT (K : PySem.W.Frag) : R2 := fun x y H Q => ∃ p xs i v, x = .ref p ∧ y = .int i ∧ SqT K H p xs ∧ atI xs i = some v ∧ Q v H
theorem ix_list : IxR X (rIxL X.K) := by
  intro value slice pins s σ H x y v u Q I rx ry h hs
  obtain ⟨p, xs, i, z, rfl, rfl, hq, he, q⟩ := h
  cases rx
  obtain ⟨t, rfl⟩ := ry
  obtain ⟨its, r, pl, hz⟩ := I.list hq
  obtain ⟨j, h1, h2, h3, h4, h5⟩ := atI_get he
  obtain ⟨w, ew, rw'⟩ := r.get h2
  have hl := r.length
  have hn := line63
  have fin : EP X pins σ Q w s := ⟨z, H, I, rw', q⟩
  by_cases h0 : 0 ≤ i
  · have hj : i.toNat = j := by
      rw [seqIndex_of h0 h5] at h1
      exact Option.some.inj h1
    exact item_listR pl.isList h0 (by omega) (by rw [hj]; simpa using ew) fin hs
  · have hj : (i + (its.toArray.size : Int)).toNat = j := by
      rw [seqIndex_neg (by omega) h4] at h1
      rw [List.size_toArray, ← hl]
      exact Option.some.inj h1
    exact subscriptTail_builtinR (x := w) pl.isList.typeIs slot_list_getitem.lookup
      (wpAny_getItem_list_neg (Q := fun r s' => r = w ∧ EP X pins σ Q r s') pl.isList (by omega) (by rw [List.size_toArray] <;> omega) (by omega) (by rw [hj]; simpa using ew) ⟨rfl, fin⟩) hs
theorem ix_tup : IxR X (rIxT X.K) := by
  intro value slice pins s σ H x y v u Q I rx ry h hs
  obtain ⟨p, xs, i, z, rfl, rfl, hq, he, q⟩ := h
  cases rx
  obtain ⟨t, rfl⟩ := ry
  obtain ⟨its, r, pl, hz⟩ := I.tuple hq
  obtain ⟨j, h1, h2, h3, h4, h5⟩ := atI_get he
  obtain ⟨w, ew, rw'⟩ := r.get h2
  have hl := r.length
  have hn := line63
  have fin : EP X pins σ Q w s := ⟨z, H, I, rw', q⟩
  exact subscriptTail_builtinR (x := w) pl.typeIs slot_tuple_getitem.lookup
    (getItem_tuple (j := j) (Q := fun r s' => r = w ∧ EP X pins σ Q r s') pl (by omega) (by omega) (by rw [List.size_toArray, ← hl]; exact h1) (by simpa using ew) ⟨rfl, fin⟩) hs

/-! ### xs[i] = v, any sign -/
/-- the list's object behind a store -/
theorem mapSeq_set (its : List Value) (n j : Nat) (u : Value) : Obj.mapSeq (·.setIfInBounds j u) { cls := .type "list", data := .seq its.toArray n } = { cls := .type "list", data := .seq (its.set j u).toArray n } := by
  simp [Obj.mapSeq]
theorem Inv.lst {pins : List (Addr × Obj)} {σ : St} {H : Hp} {s : Shared} {p : Addr} {xs : List V} (I : Inv X pins σ H s) (h : H p = some (.lst xs)) :
    ∃ (its : List Value) (n : Nat), Vals xs its ∧ s.heap.get? p = some { cls := .type "list", data := .seq its.toArray n } ∧ xs.length ≤ sizeLine := by
  obtain ⟨z, its, n, r, e⟩ := I.hok p _ h
  exact ⟨its, n, r, e, z⟩
/-- the list at p is written by an update of its object -/
theorem Inv.lstUpd {pins : List (Addr × Obj)} {σ : St} {H : Hp} {s : Shared} {p : Addr} {xs ys : List V} {its its' : List Value} {n n' : Nat} {f : Obj → Obj} (I : Inv X pins σ H s) (h : H p = some (.lst xs))
    (ho : s.heap.get? p = some { cls := .type "list", data := .seq its.toArray n }) (hf : f { cls := .type "list", data := .seq its.toArray n } = { cls := .type "list", data := .seq its'.toArray n' }) (r : Vals ys its') (hz : ys.length ≤ sizeLine) (t : Nat) :
    Inv X pins σ (upd H p (.lst ys)) { s with heap := s.heap.update p f, toks := t } := by
  have e : (s.heap.update p f).get? p = some { cls := .type "list", data := .seq its'.toArray n' } := by
    rw [Heap.get?_update_self f ho (by rw [hf] <;> rfl), hf]
  refine I.write (x := p) (e := p) (by rw [h]; trivial) (.inl rfl) (fun b u hb q => (Heap.get?_update_other _ _ (Ne.symm hb)).trans q) ⟨_, e⟩ ?_
  exact ⟨hz, its', n', r, e⟩
def rSetL : V → V → V → Hp → (Hp → Prop) → Prop := fun o i v H Q => ∃ p xs k j, o = .ref p ∧ i = .int k ∧ H p = some (.lst xs) ∧ ixN xs.length k = some j ∧ Q (upd H p (.lst (xs.set j v)))
theorem set_list : PSet X rSetL := by
  intro pins s σ H o i v ov iv u Q I ro ri rv h
  obtain ⟨p, xs, k, j, rfl, rfl, hp, hj, q⟩ := h
  cases ro
  obtain ⟨t, rfl⟩ := ri
  obtain ⟨its, n, r, ho, hz⟩ := I.lst hp
  obtain ⟨h1, h2, h3, h4⟩ := ixN_seq hj
  have hl := r.length
  have hn := line63
  have I' : Inv X pins σ (upd H p (.lst (xs.set j v))) { s with heap := s.heap.update p (Obj.mapSeq (·.setIfInBounds j u)) } :=
    I.lstUpd hp ho (mapSeq_set its n j u) (r.set rv j) (by rw [List.length_set]; exact hz) s.toks
  by_cases h0 : 0 ≤ k
  · have hk : k.toNat = j := by
      rw [seqIndex_of h0 h4] at h1
      exact Option.some.inj h1
    exact PySem.W.ki_setAt ho h0 (by omega) (by rw [List.size_toArray, ← hl]; exact h4) (by rw [hk]; exact ⟨_, I', q⟩)
  · have hk : (k + (its.toArray.size : Int)).toNat = j := by
      rw [seqIndex_neg (by omega) h3] at h1
      rw [List.size_toArray, ← hl]
      exact Option.some.inj h1
    exact PySem.W.ki_setBack ho (by omega) (by rw [List.size_toArray, ← hl]; exact h3) (by omega) (by rw [hk]; exact ⟨_, I', q⟩)

/-! ### slices -/
theorem slice_bounds (lo hi : Option Int) (n : Nat) : (sliceBounds lo hi none n).1 = ((HT.sIx n 0 lo : Nat) : Int) ∧ (sliceBounds lo hi none n).2.1 = ((HT.sIx n n hi : Nat) : Int) ∧ (sliceBounds lo hi none n).2.2 = 1 := by
  refine ⟨?_, ?_, rfl⟩
  · cases lo with
    | none => simp [sliceBounds, HT.sIx]
    | some i =>
      simp only [sliceBounds, HT.sIx, Option.getD_none, show (1 : Int) > 0 by decide, if_true]
      by_cases h : i < 0
      · simp only [h, if_true] <;> omega
      · simp only [h, if_false] <;> omega
  · cases hi with
    | none => simp [sliceBounds, HT.sIx]
    | some i =>
      simp only [sliceBounds, HT.sIx, Option.getD_none, show (1 : Int) > 0 by decide, if_true]
      by_cases h : i < 0
      · simp only [h, if_true] <;> omega
      · simp only [h, if_false] <;> omega
theorem slicePick_cut (its : List Value) (lo hi : Option Int) : slicePick its.toArray lo hi none = ((its.drop (HT.sIx its.length 0 lo)).take (HT.sIx its.length its.length hi - HT.sIx its.length 0 lo)).toArray := by
  obtain ⟨h1, h2, h3⟩ := slice_bounds lo hi its.toArray.size
  unfold slicePick
  rw [h1, h2, h3]
  simp only [sliceRange_one, pick_run, List.size_toArray] <;> rfl
/-- xs[lo:hi] of a list: a new list -/
def rSlL (K : PySem.W.Frag) : V → Option Int → Option Int → Hp → VK → Prop := fun x lo hi H Q => ∃ a xs, x = .ref a ∧ SqL K H a xs ∧ ∀ p, H p = none → Q (.ref p) (upd H p (.lst (cutV xs lo hi)))
theorem sl_list : SlR X (rSlL X.K) := by
  intro pins s σ H x v vl vu lo hi sl Q I rx hs pl pu h
  obtain ⟨a, xs, rfl, hx, q⟩ := h
  cases rx
  obtain ⟨its, r, ht, hz⟩ := I.list hx
  have hlen := r.length
  refine ⟨"list", _, slot_list_getitem.lookup, ht.isList.typeIs, ?_⟩
  refine wpAny_getItem_list_slice ht.isList hs pl pu .none (by simp) ?_ (by rw [List.size_toArray] <;> omega)
  rw [slicePick_cut, ← hlen]
  refine ⟨.ref s.heap.objs.size, _, I.laid (t' := s.toks) (o := .lst (cutV xs lo hi)) (fun b ob q => Heap.get?_push_of_some _ q) (Nat.le_refl _) ?_, rfl, q _ (I.hok.fresh (Nat.le_refl _))⟩
  exact ⟨Nat.le_trans (cutV_length xs lo hi) hz, _, 0, (r.drop (HT.sIx xs.length 0 lo)).take (HT.sIx xs.length xs.length hi - HT.sIx xs.length 0 lo), Heap.get?_push_size _ rfl⟩

/-! ### in, not in: flat items -/

/-! ### len, list(x), tuple(x) of any list or tuple that is read -/
theorem call_len_seq : CallR X (.builtin "len") (fun xs H Q => ∃ p ys, xs = [.ref p] ∧ (SqL X.K H p ys ∨ SqT X.K H p ys) ∧ Q (.int ys.length) H) := by
  intro pins s σ H xs us Q I r h
  obtain ⟨p, ys, rfl, hq, q⟩ := h
  obtain ⟨u, rfl, rx⟩ := vals1 r
  cases rx
  have hn := line63
  rcases hq with hq | hq
  · obtain ⟨its, r', pl, hz⟩ := I.list hq
    have hlen := r'.length
    exact Calls.call_len_list pl.isList (by simp only [List.size_toArray] <;> omega) ⟨.int ys.length, H, I.tok _, ⟨s.toks + 1, by rw [List.size_toArray, hlen]⟩, q⟩
  · obtain ⟨its, r', pl, hz⟩ := I.tuple hq
    have hlen := r'.length
    exact len_tuple pl (by simp only [List.size_toArray] <;> omega) ⟨.int ys.length, H, I.tok _, ⟨s.toks + 1, by rw [List.size_toArray, hlen]⟩, q⟩
theorem call_len_str : CallR X (.builtin "len") (fun xs H Q => ∃ z, xs = [.str z] ∧ z.length ≤ sizeLine ∧ Q (.int z.length) H) := by
  intro pins s σ H xs us Q I r h
  obtain ⟨z, rfl, hz, q⟩ := h
  obtain ⟨u, rfl, t, rfl⟩ := vals1 r
  have hn := line63
  exact len_str (by omega) ⟨.int z.length, H, I.tok _, ⟨_, rfl⟩, q⟩
theorem call_list_of : CallR X (.type "list") (fun xs H Q => ∃ p ys, xs = [.ref p] ∧ (SqL X.K H p ys ∨ SqT X.K H p ys) ∧ ∀ l, H l = none → Q (.ref l) (upd H l (.lst ys))) := by
  intro pins s σ H xs us Q I r h
  obtain ⟨p, ys, rfl, hq, q⟩ := h
  obtain ⟨u, rfl, rx⟩ := vals1 r
  cases rx
  have fin : ∀ (its : List Value), Vals ys its → ys.length ≤ sizeLine → ∀ (h' : Heap) (c' : Nat), (∀ b o', s.heap.get? b = some o' → h'.get? b = some o') →
      h'.get? s.heap.objs.size = some { cls := .type "list", dict := none, data := .seq its.toArray c', slots := #[] } → EP X pins σ Q (.ref s.heap.objs.size) { s with heap := h' } := fun its r' hz h' c' kp e =>
    ⟨.ref s.heap.objs.size, _, I.laid (t' := s.toks) kp (Nat.le_refl _) (show ObjOk X.prog X.w _ h' _ (.lst ys) from ⟨hz, its, c', r', e⟩), rfl, q _ (I.hok.fresh (Nat.le_refl _))⟩
  rcases hq with hq | hq
  · obtain ⟨its, r', pl, hz⟩ := I.list hq
    have hlen := r'.length
    obtain ⟨o, ho, hc, n, hd⟩ := pl.isList
    exact call_list_seq p (.inl rfl) ho hc hd (fun h' c' kp e => fin its r' hz h' c' kp e) (by simp only [List.size_toArray] <;> omega)
  · obtain ⟨its, r', pl, hz⟩ := I.tuple hq
    have hlen := r'.length
    obtain ⟨o, ho, hc, n, hd⟩ := pl
    exact call_list_seq p (.inr rfl) ho hc hd (fun h' c' kp e => fin its r' hz h' c' kp e) (by simp only [List.size_toArray] <;> omega)
theorem call_tuple_of : CallR X (.type "tuple") (fun xs H Q => ∃ p ys, xs = [.ref p] ∧ ((SqL X.K H p ys ∧ ∀ l, H l = none → Q (.ref l) (upd H l (.tup ys))) ∨ (SqT X.K H p ys ∧ Q (.ref p) H))) := by
  intro pins s σ H xs us Q I r h
  obtain ⟨p, ys, rfl, h⟩ := h
  obtain ⟨u, rfl, rx⟩ := vals1 r
  cases rx
  rcases h with ⟨hq, q⟩ | ⟨hq, q⟩
  · obtain ⟨its, r', pl, hz⟩ := I.list hq
    have hlen := r'.length
    refine call_tuple_list pl.isList (fun h' kp => ?_) (by simp only [List.size_toArray] <;> omega)
    have I1 : Inv X pins σ H { s with heap := h' } := I.kept (t' := s.toks) kp
    have I2 : Inv X pins σ (upd H h'.objs.size (.tup ys)) { s with heap := h'.push { cls := .type "tuple", data := .seq its.toArray } } :=
      I1.laid (t' := s.toks) (fun b o e => Heap.get?_push_of_some _ e) (Nat.le_refl _) (show ObjOk X.prog X.w _ _ _ (.tup ys) from ⟨hz, its, r', IsTup.new _ _⟩)
    exact ⟨.ref h'.objs.size, _, I2, rfl, q _ (I1.hok.fresh (Nat.le_refl _))⟩
  · obtain ⟨its, r', pl, hz⟩ := I.tuple hq
    exact call_tuple_same pl ⟨.ref p, H, I, rfl, q⟩

/-! ### the call of a builtin's method: o.m(..) -/
/-- the value is of that builtin type -/
def tyV (K : PySem.W.Frag) (T : String) (x : V) (H : Hp) : Prop := match x with
  | .str _ => T = "str"
  | .int _ => T = "int"
  | .ref p => (T = "list" ∧ ∃ xs, SqL K H p xs) ∨ (T = "tuple" ∧ ∃ o, K.lookup p = some o ∧ o.cls = .type "tuple" ∧ o.dict = none) ∨
      (T = "dict" ∧ ((∃ kvs, H p = some (.dK kvs)) ∨ ∃ kvs, H p = some (.dT kvs))) ∨ (T = "set" ∧ ∃ S n, H p = some (.set S n))
  | _ => False
theorem tyV_is {pins : List (Addr × Obj)} {σ : St} {H : Hp} {s : Shared} {T : String} {x : V} {v : Value} (I : Inv X pins σ H s) (r : RelV x v) (ty : tyV X.K T x H) :
    s.TypeIs v T ∧ ∀ a, v = .ref a → ∃ ob, s.heap.get? a = some ob ∧ ob.dict = none := by
  cases x with
  | str z =>
    obtain ⟨t, rfl⟩ := r
    cases (show T = "str" from ty)
    exact ⟨typeIs_str s z t, fun _ e => nomatch e⟩
  | int i =>
    obtain ⟨t, rfl⟩ := r
    cases (show T = "int" from ty)
    exact ⟨typeIs_int s i t, fun _ e => nomatch e⟩
  | ref p =>
    cases r
    rcases ty with ⟨rfl, xs, hq⟩ | ⟨rfl, o, hk, hc, hd⟩ | ⟨rfl, hk⟩ | ⟨rfl, S, n, hk⟩
    · obtain ⟨its, _, pl, _⟩ := I.list hq
      refine ⟨pl.isList.typeIs, fun a e => ?_⟩
      cases e
      obtain ⟨o, n, e, c, hd, _⟩ := pl
      exact ⟨o, e, hd⟩
    · refine ⟨⟨o, I.kIn p o hk, hc⟩, fun a e => ?_⟩
      cases e
      exact ⟨o, I.kIn _ o hk, hd⟩
    · have z : ∃ o, s.heap.get? p = some o ∧ o.ExactDict := by
        rcases hk with ⟨kvs, hk⟩ | ⟨kvs, hk⟩
        · obtain ⟨_, _, _, _, o, _, _, e, ex, _⟩ := I.hok p _ hk
          exact ⟨o, e, ex⟩
        · obtain ⟨_, _, _, _, o, _, _, e, ex, _⟩ := I.hok p _ hk
          exact ⟨o, e, ex⟩
      obtain ⟨o, e, ex⟩ := z
      refine ⟨⟨o, e, ex.1⟩, fun a e2 => ?_⟩
      cases e2
      exact ⟨o, e, ex.2.1⟩
    · obtain ⟨o, _, _, _, e, ex, _⟩ := I.hok p _ hk
      refine ⟨⟨o, e, ex.1⟩, fun a e2 => ?_⟩
      cases e2
      exact ⟨o, e, ex.2.1⟩
  | _ => exact False.elim ty
def tBM (K : PySem.W.Frag) (T : String) (r : V → List V → Hp → VK → Prop) (to : TE) (t : TA) : TE := fun σ H Q => to σ H fun x H1 => tyV K T x H1 ∧ t σ H1 fun xs H2 => r x xs H2 Q
variable {o e : Expr} {es : List Expr} {to : TE} {t : TA} {name : Str} {apos cpos : Pos} {T id : String} {r : V → List V → Hp → VK → Prop}
theorem pe_bm (pa : PlainAttrs T) (slot : Slot T name id) (hty : typeOf (.builtin id) = pure (.type "method_descriptor")) (hm : MtR X id r) (ho : PE X o to) (ha : PA X (e :: es) t)
    (hbase : attributeBase o name X.env (eval o X.env) = eval o X.env := by rfl)
    (hfew : ((backTo cpos (starEach (e :: es) X.env)).all (fun x => !x.1) && (backToKw cpos (keywordEach [] X.env)).all (fun x => x.1.isSome)
      && decide ((e :: es).length + ([] : List Keyword).length + (if ([] : List Keyword).isEmpty then 0 else 1) < 30)) = true := by rfl)
    (hline : (apos.endLine == cpos.line) = true := by rfl) (hs : starEach (e :: es) X.env = (false, eval e X.env) :: starEach es X.env := by rfl) (hplain : (backTo cpos (starEach es X.env)).any (·.1) = false := by rfl) :
    PE X (.Call (.Attribute o name apos) (e :: es) [] cpos) (tBM X.K T r to t) := by
  intro pins s σ H Q I h
  refine wpAny_Call_method_late hbase hfew hline rfl (thn (ho pins s σ H _ I h) fun v s1 ⟨x, H1, I1, r1, ty, q1⟩ => ?_)
  obtain ⟨h1, h2⟩ := tyV_is I1 r1 ty
  refine ⟨T, id, pa, slot, hty, h1, h2, ?_⟩
  have hA := ha cpos pins s1 σ H1 _ I1 q1
  rw [hs] at hA ⊢
  refine Calls.callWith_builtin (by show (false || (backTo cpos (starEach es X.env)).any (·.1)) = false; rw [hplain] <;> rfl) (Calls.evalArgs_plain ?_)
  exact thn hA fun us s2 ⟨vs, H2, I2, r2, q2⟩ => hm pins s2 σ H2 x vs v us Q I2 r1 r2 q2
/- xs.append(e), list.index on a module's tuple .. are MtR facts of 06m -/
end
end L2

namespace L2
open PySem PySem.Spec PyProof.Rows

def MtM (X : Cx) (id : String) (r : V → List V → Hp → VK → Prop) : Prop :=
  ∀ (pins : List (Addr × Obj)) (s : Shared) (σ : St) (H : Hp) (x : V) (xs : List V) (v : Value) (us : List Value) (Q : VK), Inv X pins σ H s → RelV x v → Vals xs us → r x xs H Q →
    wpAny (model X.prog X.w) X.A (call (.builtin id) (v :: us)) (EP X pins σ Q) X.xe s

/-! ### lists of values -/
theorem Vals.one : ∀ {x : V} {us : List Value}, Vals [x] us → ∃ u, us = [u] ∧ RelV x u
  | _, _, .cons r .nil => ⟨_, rfl, r⟩

section
variable {X : Cx} {pins : List (Addr × Obj)} {σ : St} {H : Hp} {s : Shared} {l b : Addr} {xs ys zs : List V}

/-! ### the two steps: a tracked list is rewritten, a new list is laid -/
theorem Inv.lset {its its' : List Value} {n : Nat} {f : Array Value → Array Value} {t' : Nat} (I : Inv X pins σ H s) (hH : H l = some (.lst xs))
    (e : s.heap.get? l = some { cls := .type "list", data := .seq its.toArray n }) (hf : f its.toArray = its'.toArray) (hv : Vals ys its') (hz : ys.length ≤ sizeLine) :
    Inv X pins σ (upd H l (.lst ys)) { s with heap := s.heap.update l (Obj.mapSeq f), toks := t' } := by
  have q := PySem.IsL.update e f
  rw [hf] at q
  refine I.write (x := l) (e := l) (by rw [hH]; exact trivial) (.inl rfl) (fun b' u hb hu => (Heap.get?_update_other s.heap (Obj.mapSeq f) (Ne.symm hb)).trans hu) ⟨_, q⟩ ?_
  exact ⟨hz, its', _, hv, q⟩
theorem Inv.lstM (I : Inv X pins σ H s) (hH : H l = some (.lst xs)) : xs.length ≤ sizeLine ∧ ∃ (its : List Value) (n : Nat), Vals xs its ∧ xs.length = its.length ∧ s.heap.get? l = some { cls := .type "list", data := .seq its.toArray n } := by
  obtain ⟨z, its, n, r, e⟩ := I.hok l _ hH
  exact ⟨z, its, n, r, r.length, e⟩

end

section
variable {X : Cx}

/-! ### methods -/
def rAppend : V → List V → Hp → VK → Prop := fun x vs H Q => ∃ l xs y, x = .ref l ∧ vs = [y] ∧ H l = some (.lst xs) ∧ xs.length < sizeLine ∧ Q .non (upd H l (.lst (xs ++ [y])))
theorem mt_append : MtM X "list.append" rAppend := by
  intro pins s σ H x vs v us Q I rx rv h
  obtain ⟨l, xs, y, rfl, rfl, hH, hz, q⟩ := h
  cases rx
  obtain ⟨u, rfl, ru⟩ := rv.one
  obtain ⟨z, its, n, r, hl, e⟩ := I.lstM hH
  refine call_meets F.slot_list_append ⟨_, e, rfl⟩ F.entry_list_append (F.args_list_append_2 _ _) (PySem.list_append l its.toArray n u (by rw [List.size_toArray]; omega)) ⟨e, ?_⟩
  refine ⟨.non, _, I.lset (its' := its ++ [u]) hH e (by simp) (r.append (.cons ru .nil)) ?_, rfl, q⟩
  rw [List.length_append, List.length_singleton]
  omega






/-! ### list + list, list += list, list * int -/

/-! ### del xs[i] -/
end

/-! ### xs[a:b] = ys -/
section
variable {prog : Program} {w : World} {A : Around} {E : Value → Shared → Prop} {s : Shared}
set_option maxRecDepth 100000 in
end

end L2

namespace Att
open PySem PySem.W PySem.Calls PyProof.Rows

/-! ### the script -/
theorem ints_of_wellAll {P : Params} {h : Heap} : ∀ (ns : List Int) (vs : List Value), WellAll P h vs (ns.map WData.int) → IntsAre vs ns := by
  intro ns
  induction ns with
  | nil =>
    intro vs w
    rw [List.map_nil] at w
    cases w
    exact .nil
  | cons n ns ih =>
    intro vs w
    rw [List.map_cons] at w
    cases w with
    | cons a b =>
      cases a
      exact .cons _ _ (ih _ b)

theorem script_of {l : OpenLaw} {n : Nat} (hn : l.most = some n) {P : Params} {h : Heap} {args : List WData} {vals : List Value}
    (hpre : l.row.toRowW.claim.pre args = true) (hwl : WellAll P h vals args) :
    ∃ a vs ns, vals = [Value.ref a] ∧ args = [WData.list (ns.map WData.int)] ∧ h.get? a = some { cls := .type "list", data := .seq vs.toArray } ∧ IntsAre vs ns ∧ ns.length ≤ n := by
  have hsh : WShape.hasAll [] args [.list .int] = true := (pre_splitW hpre).1
  have hc : l.pre.holds [] { args := args } = true := (pre_splitW hpre).2
  obtain ⟨d, r, rfl, h1, h2⟩ := hasAllW_cons hsh
  obtain rfl := hasAllW_nil h2
  obtain ⟨xs, rfl, h3⟩ := hasW_list h1
  obtain ⟨ns, rfl⟩ := items_int h3
  have hlen : ns.length ≤ n := by
    unfold OpenLaw.pre at hc
    have h4 : (WTm.not (.lt (.lit (.int (n : Int))) (.len (.arg 0)))).holds [] { args := [.list (ns.map .int)] } = true := by
      have h4 := (holds_andW hc).1
      rw [hn] at h4
      exact h4
    have h5 := condW_of h4 (w_not (w_lt w_lit (w_len_list (w_arg rfl))))
    rw [List.length_map] at h5
    refine Nat.le_of_not_lt fun q => ?_
    have q' : (n : Int) < ((ns.length : Nat) : Int) := by omega
    first
      | (rw [decide_eq_true q'] at h5; exact absurd h5 (by decide))
      | (simp at h5; omega)
  cases hwl with
  | cons w1 w2 =>
    cases w2
    cases w1 with
    | list ho hall => exact ⟨_, _, ns, rfl, rfl, ho, ints_of_wellAll ns _ hall, hlen⟩

theorem post_true (l : OpenLaw) (args : List WData) : l.row.toRowW.claim.post args (.bool true) args = true :=
  postW_of (r := l.row.toRowW) (X := (true == true))
    (show WShape.has [] (.bool true) .bool = true by first | rfl | decide | simp [WShape.has, WShape.arms, WShape.armsAll])
    (show (WTm.eq .res (.lit (.bool true))).value [] { args := args, res := some (.bool true), after := args } = some (.bool (true == true)) from w_eq_bool (w_res rfl) w_lit) rfl

/-! ### the attachment: holds_open's last premise (the goal 'hc' behind k_head) from a wpAny of the law's body -/

/-- the same from a codeAny of the CALL (for a layer whose function contracts speak of calls) -/
theorem attach_call {l : OpenLaw} {n : Nat} {q : Program} {loose : List Str} {XP : (Str → Option Value) → Heap → Prop} {YP : World → Heap → Prop} {d : DefRec}
    (hn : l.most = some n) (hdf : d.params.defaults = [])
    (call : ∀ (w : World) (s₀ s₁ : Shared) (mg mb : Str → Option Value) (fa : Addr) (o : Obj) (pm cd doc : Value) (a : Addr) (vs : List Value) (ns : List Int),
      Ground q loose [] XP w s₀ mg mb s₁.heap → YP w s₁.heap →
      s₁.heap.get? fa = some o → o.data = .func (docDef d.name d.params d.body d.scope pm cd doc) → s₁.heap.CodeRec cd d.name → mg d.name = some (.ref fa) →
      s₁.heap.get? a = some { cls := .type "list", data := .seq vs.toArray } → IntsAre vs ns → ns.length ≤ n → s₁.gens = #[] →
      codeAny (model l.prog w) callerA (.call (.ref fa) ⟨[.ref a], []⟩) (fun r s' => r = .ok (.ret (.bool true)) ∧ OldK s₁.heap s'.heap ∧ s'.os = s₁.os ∧ AllBare s'.gens) s₁) :
    WalkO q loose XP YP l.row.toRowW d [] (fun f vs => PySem.call f vs) := by
  intro w s₀ s₁ mg mb G Y fa o pm cd doc dV kV ho hd hcd hD hmg hg args vals as hpre hlay hrd hwl hlo
  obtain rfl : dV = .none := Dflts.none hD hdf
  obtain rfl : kV = .none := Dflts.noKw hD
  obtain ⟨a, vs, ns, rfl, rfl, hobj, hints, hlen⟩ := script_of hn hpre hwl
  refine enter_call (codeAny_mono (call w s₀ s₁ mg mb fa o pm cd doc a vs ns G Y ho (fd_plain hd) hcd hmg hobj hints hlen hg) fun r s' hq => ?_)
  obtain ⟨rfl, h2, h3, h4⟩ := hq
  exact ⟨.inl ⟨.bool true, .bool true, [], rfl, fun _ => rfl, .bool true, post_true l _, fun _ => ⟨List.Pairwise.nil, fun _ hm => (nomatch hm)⟩⟩, h2, h3, h4⟩


/-! ### rules over ANY heap (no ledger) from facts about the written part K: the library's own take a ledger (News) for what they write -/
section
variable {prog : Program} {w : World} {A : Around} {E : Value → Shared → Prop} {s : Shared} {K : Frag}





/-! the whole heap as the ledger: makes every rule that writes through a ledger a rule over any heap -/

end
end Att

namespace L2
open PySem PySem.Spec PyProof.Rows

theorem vals_ints : ∀ {vs : List Value} {ns : List Int}, IntsAre vs ns → Vals (ns.map V.int) vs
  | _, _, .nil => .nil
  | _, _, .cons n t h => .cons ⟨t, rfl⟩ (vals_ints h)

/-- nothing is tracked but the script, known to the object (or it is an object of the module) -/
def Only (H : Hp) : Prop := ∀ b, H b = none ∨ ∃ o xs, H b = some (.frz o (.lst xs))

/-- THE HEAD: the law's promise, at the heap behind the top. F, the promise of the law's def, may use that base is part of the heap (so K.In base, base.Ns mainGlobals mg stand in Mod) -/
theorem law_call {P : Program} {w : World} {K : PySem.W.Frag} {mg mb : Str → Option Value} {CX : CXT} {k : Nat} {fa a : Addr} {fd : FuncData} {x : Str} {sp : Sp} {s₁ : Shared} {vs : List Value} {ns : List Int}
    (KX : K.In s₁.heap) (hns : s₁.heap.Ns mainGlobals mg) (hb : s₁.heap.Ns builtinsNs mb) (hbb : ∀ x : Str, x ≠ "__name__" → mb x = bootBuiltins x) (hlim : s₁.heap.NoLimit) (hg : s₁.gens = #[])
    (ha : s₁.heap.get? a = some { cls := .type "list", data := .seq vs.toArray }) (hi : IntsAre vs ns) (hl : ns.length ≤ sizeLine) (hr : Room k callerA)
    (F : ∀ base : Heap, K.In base → base.Ns mainGlobals mg → FnOk P w K mg base CX k fa fd [x] sp) (hbind : ∀ (s : Shared) (u : Value), BindsTo s fd ⟨[u], []⟩ [(x, u)])
    (hsp : ∀ H : Hp, Only H → SqL K H a (ns.map V.int) → sp [.ref a] H (fun v _ => v = .bl true) fun _ _ _ => False)
    (hCX : ∀ H e s', CX [] H s₁ (fun _ _ _ => False) e s' → False) :
    codeAny (model P w) callerA (.call (.ref fa) ⟨[.ref a], []⟩) (fun r s' => r = .ok (.ret (.bool true)) ∧ OldK s₁.heap s'.heap ∧ s'.os = s₁.os ∧ AllBare s'.gens) s₁ := by
  have rv := vals_ints hi
  have lenV := hi.length
  -- from an abstract heap in which nothing but the script may be tracked
  have core : ∀ H : Hp, Only H → SqL K H a (ns.map V.int) → HOk P w H s₁.heap → (∀ b, H b ≠ none → b = a) → (H a ≠ none → K.lookup a = none) →
      codeAny (model P w) callerA (.call (.ref fa) ⟨[.ref a], []⟩) (fun r s' => r = .ok (.ret (.bool true)) ∧ OldK s₁.heap s'.heap ∧ s'.os = s₁.os ∧ AllBare s'.gens) s₁ := by
    intro H hO hS hok hA hK
    have base_of : ∀ {b : Addr} {o : Obj}, s₁.heap.get? b = some o → H b = none → (hidT s₁.heap H).get? b = some o := fun e n => hidT_get e n
    have noA : ∀ {b : Addr} {o : Obj} {es : Array DictEntry} {ep : Nat}, s₁.heap.get? b = some o → o.data = .dict es ep → H b = none := fun {b o es ep} e d => by
      cases q : H b with
      | none => rfl
      | some u =>
        have e' : b = a := hA b (by rw [q]; simp)
        subst e'
        rw [ha] at e; cases e
        have d' : Data.seq vs.toArray _ = Data.dict es ep := d
        cases d'
    have nsK : ∀ {b : Addr} {m : Str → Option Value}, s₁.heap.Ns b m → (hidT s₁.heap H).Ns b m := fun {b m} ⟨o, es, ep, e, d, r⟩ => ⟨o, es, ep, base_of e (noA e d), d, r⟩
    have hKb : K.In (hidT s₁.heap H) := fun b o e => base_of (KX b o e) (by
      cases q : H b with
      | none => rfl
      | some u =>
        have e' : b = a := hA b (by rw [q]; simp)
        subst e'
        rw [hK (by rw [q]; simp)] at e; cases e)
    have hM : Mod K mg (hidT s₁.heap H) := ⟨hKb, nsK hns, ⟨mb, nsK hb, hbb⟩, let ⟨mc, h1, h2⟩ := hlim; ⟨mc, nsK h1, h2⟩⟩
    have e0 : Env0 P w K mg (hidT s₁.heap H) callerA [] s₁ H := ⟨rfl, hM, fun b o e => of_hidT e, Nat.le_of_eq (hidT_size _ _), trivial, fun b hb => absurd (show b ∈ ([] : List Addr) from hb) (by simp), hok, .of_eq hg⟩
    refine codeAny_mono ((F _ hKb (nsK hns)).run callerA [] s₁ H ⟨[.ref a], []⟩ [.ref a] [.ref a] _ _ hr e0 (hbind s₁ (.ref a)) (.cons rfl .nil) (hsp H hO hS)) fun r s' h => ?_
    cases r with
    | error e => exact (hCX H e s' h).elim
    | ok fl =>
      cases fl with
      | next => exact False.elim h
      | brk => exact False.elim h
      | cont => exact False.elim h
      | ret u =>
        obtain ⟨v, H', os, bare, un, hok', r', q⟩ := h
        have q' : v = .bl true := q
        subst q'
        obtain rfl : u = Value.bool true := r'
        refine ⟨rfl, OldK.of_keep fun b o e => ?_, os, bare⟩
        cases q : H b with
        | none => exact un.keep b o e q (by intro z; exact absurd (show b ∈ ([] : List Addr) from z) (by simp)) (by simp)
        | some u =>
          rcases hO b with z | ⟨ob, xs, z⟩
          · rw [q] at z; cases z
          · have z2 := un.frzs b ob _ z
            obtain ⟨e1, _⟩ := hok b _ z
            obtain ⟨e2, _⟩ := hok' b _ z2
            rw [e] at e1; cases e1
            exact e2
  cases hk : K.lookup a with
  | some o =>
    -- the script is one of the module's own objects
    have e := KX a o hk
    rw [ha] at e
    cases e
    refine core (fun _ => none) (fun _ => .inl rfl) (.inr ⟨_, vs.toArray, _, hk, rfl, rfl, rfl, by rw [List.size_toArray, lenV]; exact hl, by simpa using rv⟩) (fun b u z => by have z' : (none : Option HO) = some u := z; cases z') (fun b z => absurd rfl z) fun z => absurd rfl z
  | none =>
    refine core (fun b => if b = a then some (.frz { cls := .type "list", data := .seq vs.toArray } (.lst (ns.map V.int))) else none) (fun b => ?_) (.inl (.inr ⟨{ cls := .type "list", data := .seq vs.toArray }, if_pos rfl⟩)) (fun b u z => ?_) (fun b z => ?_) fun _ => hk
    · by_cases hb : b = a
      · exact .inr ⟨_, _, if_pos hb⟩
      · exact .inl (if_neg hb)
    · by_cases hb : b = a
      · have z' := (if_pos hb).symm.trans z
        cases z'
        subst hb
        exact ⟨ha, by rw [List.length_map]; exact hl, vs, _, rv, ha⟩
      · have z' := (if_neg hb).symm.trans z
        cases z'
    · by_cases hb : b = a
      · exact hb
      · exact absurd (if_neg hb) z
end L2

namespace L2
open PySem PySem.Spec PyProof.Rows


/-- the goal that k_head leaves (case hc), from the law's promise. F gives the function object fd (K's own) once, then the promise over every base -/
theorem walk_of {l : PySem.W.OpenLaw} {n k : Nat} {q : Program} {loose : List Str} {XP : (Str → Option Value) → Heap → Prop} {YP : World → Heap → Prop} {d : DefRec} {K : Params → PySem.W.Frag} {CX : World → CXT} {sp : World → Sp} {x : Str}
    (hn : l.most = some n) (hn2 : n ≤ sizeLine) (hdf : d.params.defaults = []) (hr : Room k callerA)
    (hY : ∀ (w : World) (h : Heap), YP w h → (K w.params).In h)
    (F : ∀ (w : World) (mg : Str → Option Value) (fa : Addr) (h : Heap), (K w.params).In h → h.Ns mainGlobals mg → mg d.name = some (.ref fa) →
      ∃ fd : FuncData, (∀ (s : Shared) (u : Value), BindsTo s fd ⟨[u], []⟩ [(x, u)]) ∧
        ∀ base : Heap, (K w.params).In base → base.Ns mainGlobals mg → FnOk l.prog w (K w.params) mg base (CX w) k fa fd [x] (sp w))
    (hsp : ∀ (w : World) (H : Hp) (a : Addr) (ns : List Int), ns.length ≤ n → Only H → SqL (K w.params) H a (ns.map V.int) → sp w [.ref a] H (fun v _ => v = .bl true) fun _ _ _ => False)
    (hCX : ∀ (w : World) (H : Hp) (s : Shared) (e : Value) (s' : Shared), CX w [] H s (fun _ _ _ => False) e s' → False) :
    PySem.W.WalkO q loose XP YP l.row.toRowW d [] (fun f vs => PySem.call f vs) := by
  refine Att.attach_call hn hdf fun w s₀ s₁ mg mb fa o pm cd doc a vs ns G Y ho hd hcd hmg hobj hints hlen hg => ?_
  have KX := hY w _ Y
  obtain ⟨fd, hb, hF⟩ := F w mg fa _ KX G.T.g hmg
  exact law_call KX G.T.g G.T.b G.T.builtins G.T.nolimit hg hobj hints (Nat.le_trans hlen hn2) hr hF hb (fun H hO hS => hsp w H a ns hlen hO hS) fun H e s' => hCX w H s₁ e s'
end L2



/-! SHORT WORDS over the layer: a def of the text, its body, what a loop and a test want. -/
namespace L2
open PySem PySem.Spec PyProof.Rows

/-! ### the text by places -/
def defArgs (s : Stmt) : Arguments := match s with
  | .FunctionDef _ a _ _ _ _ _ _ _ _ => a
  | _ => { posonlyargs := [], args := [], vararg := none, kwonlyargs := [], kw_defaults := [], kwarg := none, defaults := [] }
def defBody (s : Stmt) : List Stmt := match s with
  | .FunctionDef _ _ b _ _ _ _ _ _ _ => b
  | _ => []
def defScope (s : Stmt) : Scope := match s with
  | .FunctionDef _ _ _ _ _ _ sc _ _ _ => sc
  | _ => { kind := .function, names := [], isGenerator := false, isCoroutine := false }

/-! ### no exception leaves a def -/
abbrev CX0 : CXT := fun _ _ _ _ _ _ => False
abbrev E0 : XK := fun _ _ _ => False
theorem pass0 {X : Cx} : Passes CX0 X E0 := fun _ _ _ _ _ _ _ h => h.elim

/-! ### a def (or method) of the text as it stands behind the top -/
structure Fun (K : PySem.W.Frag) (x qual : Str) (st : Stmt) (f : Addr) (fd : FuncData) : Prop where
  ex : ∃ (oc : Value) (od : Option Addr) (kV doc pm : Value) (an : Option Addr) (cdv ct : Value) (osl : Array (Option Value)),
    fd = PySem.W.fnOf x qual (defArgs st) (defBody st) (defScope st) .none kV doc pm an cdv ct ∧ K.lookup f = some ⟨oc, od, .func fd, osl⟩ ∧ PySem.W.codeIn K cdv qual = true
  kp : PySem.W.keepIn K (.ref f) = true
section
variable {P : Program} {w : World} {K : PySem.W.Frag} {mg : Str → Option Value} {base : Heap}
/-- THE RULE for a def: its body as a term of rules, and the reading of that term -/
theorem Fun.ok {x qual : Str} {st : Stmt} {f : Addr} {fd : FuncData} {N ps : List Str} {k : Nat} {sp : Sp} (F : Fun K x qual st f fd) (S : FnScope N ps (defScope st)) (len : ∀ vs H Q E, sp vs H Q E → vs.length = ps.length)
    (hbody : ∀ (cdv : Value) (A : Around) (outer : List Env) (s : Shared) (H : Hp) (vs : List V) (Q : VK) (E : XK), Room k (A.deeper (envOfC qual (defScope st) s.heap.objs.size f cdv)) → sp vs H Q E →
      ∃ t, PSs (cxOf CX0 P w K mg base N qual (defScope st) f cdv A outer s H E).nox (defBody st) t ∧ t { nx := fun _ H' => Q .non H', rt := Q } (start N vs) H) : FnOk P w K mg base CX0 (k + 1) f fd ps sp := by
  obtain ⟨oc, od, kV, doc, pm, an, cdv, ct, osl, rfl, lk, hcd⟩ := F.ex
  refine fn_of lk hcd S len fun A outer s H vs Q E hr hsp => ?_
  obtain ⟨t, h, q⟩ := hbody cdv A outer s H vs Q E hr hsp
  exact ⟨t, h.nox, q⟩
/-- how its arguments bind (no defaults): h is «fun _ _ _ _ _ _ us hl => match us, hl with | [_, _], _ => rfl», one _ a parameter -/
theorem Fun.binds {x qual : Str} {st : Stmt} {f : Addr} {fd : FuncData} {ps : List Str} (F : Fun K x qual st f fd)
    (h : ∀ (kV doc pm : Value) (an : Option Addr) (cdv ct : Value) (us : List Value), us.length = ps.length → bindArgs (PySem.W.fnOf x qual (defArgs st) (defBody st) (defScope st) .none kV doc pm an cdv ct) ⟨us, []⟩ = pure (ps.zip us)) : Binds K fd ps [] := by
  obtain ⟨oc, od, kV, doc, pm, an, cdv, ct, osl, rfl, lk, hcd⟩ := F.ex
  exact .all (h kV doc pm an cdv ct)
theorem fun_mk {x qual : Str} {st : Stmt} {f : Addr} {oc : Value} {od an : Option Addr} {osl : Array (Option Value)} {kV doc pm cdv ct : Value} (l : K.lookup f = some ⟨oc, od, .func (PySem.W.fnOf x qual (defArgs st) (defBody st) (defScope st) .none kV doc pm an cdv ct), osl⟩)
    (c : PySem.W.codeIn K cdv qual = true) (k : PySem.W.keepIn K (.ref f) = true) : Fun K x qual st f (PySem.W.fnOf x qual (defArgs st) (defBody st) (defScope st) .none kV doc pm an cdv ct) := ⟨⟨oc, od, kV, doc, pm, an, cdv, ct, osl, rfl, l, c⟩, k⟩
end
theorem small1000 {n : Nat} (h : n ≤ 1000) : n < sizeLine := Nat.lt_of_le_of_lt h (by decide)

/-! ### expressions in short: the name that stands in the i-th slot -/
section
variable {X : Cx}
theorem pv (i : Nat) {x : Str} {pos : Pos} (hN : X.N[i]? = some x := by rfl) (hv : Vis X.env.scope x := by first | exact Or.inl rfl | exact Or.inr (Or.inl rfl) | exact Or.inr (Or.inr rfl)) (hd : (x == ("__debug__" : Str)) = false := by decide)
    (hcd : (x == ("__classdict__" : Str)) = false := by decide) : PE X (.Name x pos) (tVar i) := pe_var hN hv hd hcd
end

/-! ### tests -/

/-! ### heaps -/
/-- all that was tracked is as it was -/
def Same (H H' : Hp) : Prop := ∀ b o, H b = some o → H' b = some o
theorem Same.trans {H H1 H2 : Hp} (a : Same H H1) (b : Same H1 H2) : Same H H2 := fun c o h => b c o (a c o h)
theorem Same.free {H H' : Hp} (e : Same H H') {l : Addr} (h : H' l = Option.none) : H l = Option.none := by
  cases q : H l with
  | none => rfl
  | some o =>
    rw [e l o q] at h
    cases h

end L2

set_option linter.all false
set_option maxRecDepth 100000
set_option maxHeartbeats 4000000
namespace L2
open PySem PySem.Spec PyProof.Rows
/-! wider rules of one's own over the layer -/
/-- so many bits at the most -/
def Bd (n : Nat) (i : Int) : Prop := i.natAbs < 2 ^ n
theorem Bd.mono {m n : Nat} {i : Int} (h : Bd m i) (e : m ≤ n) : Bd n i := Nat.lt_of_lt_of_le h (Nat.pow_le_pow_right (by decide) e)
theorem Bd.mul {m n : Nat} {i j : Int} (h : Bd m i) (g : Bd n j) : Bd (m + n) (i * j) := by
  unfold Bd at *
  rw [Int.natAbs_mul, Nat.pow_add]
  by_cases e : i.natAbs = 0
  · rw [e, Nat.zero_mul]; exact Nat.mul_pos (Nat.pow_pos (by decide)) (Nat.pow_pos (by decide))
  · exact Nat.mul_lt_mul_of_lt_of_le h (Nat.le_of_lt g) (Nat.pow_pos (by decide))
theorem Bd.neg {m : Nat} {i : Int} (h : Bd m i) : Bd m (-i) := by
  unfold Bd at *; rw [Int.natAbs_neg]; exact h
theorem Bd.bits {m : Nat} {i : Int} (h : Bd m i) : Builtin.Int.intBits i ≤ m := by
  unfold Bd at h
  unfold Builtin.Int.intBits
  split
  · exact Nat.zero_le _
  · rename_i hz
    have hn : i.natAbs ≠ 0 := by
      intro e; apply hz; have : i = 0 := Int.natAbs_eq_zero.mp e
      subst this; rfl
    have := (Nat.log2_lt hn).mpr h
    omega
theorem Bd.log {m : Nat} {i : Int} (h : Bd m i) (hm : 0 < m) : i.natAbs.log2 < m := by
  unfold Bd at h
  by_cases e : i.natAbs = 0
  · rw [e]; simpa using hm
  · exact (Nat.log2_lt e).mpr h
theorem Bd.le {m : Nat} {i j : Int} (h : Bd m j) (e : i.natAbs ≤ j.natAbs) : Bd m i := Nat.lt_of_le_of_lt e h
theorem mulOk_of {m n : Nat} {i j : Int} (h : Bd m i) (g : Bd n j) (e : m + n ≤ 134217728) : IntMulOk i j := by
  unfold IntMulOk
  intro z
  rw [Bool.and_eq_true, Bool.and_eq_true] at z
  obtain ⟨_, z⟩ := z
  unfold Builtin.Int.intTooBig at z
  have hz := of_decide_eq_true z
  have h1 := h.bits
  have h2 := g.bits
  have h3 : (bitsLine : Int) = 134217728 := by decide +kernel
  rw [h3] at hz
  omega
/-- a division that goes by no other module -/
def CDivB (_ j : Int) : Prop := j ≠ 0 ∧ Bd 9000 j
section
variable {X : Cx}
theorem op_mulB : OpR X (binaryOp .Mult) (rI IntMulOk fun i j => .int (i * j)) := opI fun _ _ _ _ _ _ _ hc q => mul_int q hc
theorem op_fdivB : OpR X (binaryOp .FloorDiv) (rI CDivB fun i j => .int (i.fdiv j)) := opI fun _ _ _ _ _ _ _ hc q => floordiv_int hc.1 q (.inl (PyProof.noPylong_of_log2 (hc.2.log (by decide))))
/-- isinstance(x, T), T a type of the language -/
theorem call_isinst : CallR X (.builtin "isinstance") (fun xs H Q => ∃ x n t b, xs = [x, .ty n] ∧ TyOf X.K H x t ∧ PySem.W.kitOne X.K t (.type n) = some b ∧ Q (.bl b) H) := by
  intro pins s σ H xs us Q I r h
  obtain ⟨x, n, t, b, rfl, ty, e, q⟩ := h
  obtain ⟨u, v, rfl, ru, rv⟩ := vals2 r
  cases (show v = Value.type n from rv)
  exact isinst_ok I ru ty e fun tk => ⟨.bl b, H, I.tok _, rfl, q⟩
theorem kit_same {K : PySem.W.Frag} {n : String} : PySem.W.kitOne K (.type n) (.type n) = some true := by
  unfold PySem.W.kitOne; rw [if_pos (beq_self_eq_true _)]
/-- all(xs), any(xs) of bools -/
theorem boolsAre_of : ∀ {bs : List Bool} {us : List Value}, Vals (bs.map V.bl) us → PyProof.Rows.LSm.BoolsAre us bs := by
  intro bs
  induction bs with
  | nil => intro us h; cases h; exact .nil
  | cons b bs ih =>
    intro us h
    cases h with
    | cons r t =>
      cases (show _ = Value.bool b from r)
      exact .cons _ (ih t)
theorem call_all (hc : X.calm = true) : CallR X (.builtin "all") (fun xs H Q => ∃ (p : Addr) (bs : List Bool), xs = [.ref p] ∧ SqL X.K H p (bs.map V.bl) ∧ Q (.bl (bs.all id)) H) := by
  intro pins s σ H xs us Q I r h
  obtain ⟨p, bs, rfl, hq, q⟩ := h
  obtain ⟨u, rfl, ru⟩ := vals1 r
  cases ru
  obtain ⟨vs, rv, pl, hz⟩ := I.list hq
  have hl := pl.isList
  have hb := boolsAre_of rv
  have hh : X.A.handled = none := I.ok.hd hc
  have hlt : p < s.heap.objs.size := by obtain ⟨_, e, _⟩ := hl; exact Heap.lt_size e
  have W := Walks.list (A := X.A.in1) (prog := X.prog) (w := X.w) hh s.heap.objs.size p (Nat.ne_of_lt hlt) vs.toArray
  have tr : ∀ (i : Nat) (v : Value) (s' : Shared) (Q' : Bool → Shared → Prop) (E' : Value → Shared → Prop), vs.toArray[i]? = some v → Q' ((bs[i]?).getD true) s' → wpAny (model X.prog X.w) X.A.in1 (truthy v) Q' E' s' := fun i v s' Q' E' e q' => by
    obtain ⟨b, e2, rfl⟩ := hb.get i v (by simpa using e)
    rw [e2] at q'
    exact wpAny_truthy_bool q'
  have tot : ((List.range vs.toArray.size).all fun i => (bs[i]?).getD true) = bs.all id := by
    rw [List.size_toArray, hb.length]
    exact PyProof.Rows.LSm.range_all bs
  exact call_all_walk (wpAny_pyIter_list hl ⟨_, _, _, _, _, _, fun i => (bs[i]?).getD true, rfl, W, ⟨⟨_, Heap.get?_push_size _ rfl, rfl, rfl⟩, hl.push _⟩, tr, fun h' tk hk => by
    rw [tot]
    exact ⟨.bl _, H, I.kept (PyProof.Rows.LSm.kept_iter hk), rfl, q⟩⟩)
end
/-! ### == of tuples and lists of data -/
end L2

set_option linter.all false
set_option maxRecDepth 100000
set_option maxHeartbeats 4000000
namespace L2
open PySem PySem.Spec PyProof.Rows
/-! ### a comprehension -/
/-- the context of its block -/
def blk (X : Cx) (N' : List Str) (scope : Scope) (cl : List (Str × Addr)) (C : Addr) (fp : List Addr) (s0 : Shared) (H0 : Hp) : Cx :=
  { X with N := N', s₀ := s0, H₀ := H0, env := compEnvC scope cl C X.env, outer := X.stack, stack := X.stack, ex := fp, fn := fun _ => false, pn := [], xe := fun _ _ => False }
/-- what was known of the slots is known -/
def KeepS (a b : St) : Prop := b.length = a.length ∧ ∀ (i : Nat) v, a[i]? = some (some v) → b[i]? = some (some v)
theorem KeepS.none1 {v : Option V} : KeepS [none] [v] := ⟨rfl, fun i w h => by
  cases i with
  | zero => cases h
  | succ i => simp at h⟩
theorem KeepS.cons {a b : St} (h : KeepS a b) (v : Option V) : KeepS (none :: a) (v :: b) := ⟨by simp [h.1], fun i w e => by
  cases i with
  | zero => cases e
  | succ i => simpa using h.2 i w (by simpa using e)⟩
theorem KeepS.refl (a : St) : KeepS a a := ⟨rfl, fun _ _ h => h⟩
def tComp (wi : TI) (fr : St → St) (g : TG) (te : TE) : TE := fun σ H Q => wi σ H fun J H1 => ∀ D, H1 D = none → ∃ W : Nat → Nat → List V → Hp → Prop, (∃ m, W 0 m [] (upd H1 D (.lst []))) ∧
  ∀ i m ys H2, W i m ys H2 → (J.stop i H2 ∧ Q (.ref D) H2) ∨ (J.go i H2 ∧ ys.length < sizeLine ∧ ∀ x H3, J.yld i H2 x H3 → g x (fr σ) H3 fun σ2 H3' => KeepS (fr σ) σ2 ∧ te σ2 H3' fun y H4 =>
    H4 D = some (.lst ys) ∧ ∃ m', m' < m ∧ W (i + 1) m' (ys ++ [y]) (upd H4 D (.lst (ys ++ [y]))))
section
variable {X : Cx}
theorem blk_ok {pins : List (Addr × Obj)} {σ : St} {H : Hp} {s : Shared} {N' : List Str} {scope : Scope} {cl : List (Str × Addr)} {fp : List Addr} (I : Inv X pins σ H s) (hkind : scope.kind = .function)
    (hcl : ∀ y c, cl.lookup y = some c → X.env.cells.lookup y = some c) (hhas : ∀ y, ((relabel scope X.env).names.lookup y = some .cell ∨ (relabel scope X.env).names.lookup y = some .free) → ∃ c, cl.lookup y = some c)
    (hf : ∀ b ∈ fp, FpOk X pins H b) (hlt : ∀ b ∈ fp, b < s.heap.objs.size) : (blk X N' scope cl s.heap.objs.size fp s H).Ok where
  mod := I.ok.mod
  kind := by simp [blk, compEnvC, relabel, hkind]
  glob := I.ok.glob
  blt := I.ok.blt
  above := Nat.le_refl _
  inj := fun x y c h1 h2 => I.ok.inj x y c (hcl x c h1) (hcl y c h2)
  has := fun x h => hhas x h
  cab := fun x c h => nomatch h
  hd := I.ok.hd
  frames := I.ok.frames
  stk := .inl rfl
  exf := fun b hb => ⟨Nat.ne_of_lt (hlt b hb), fun x c e => (hf b hb).2.2.2.2.1 x c (hcl x c e)⟩
  bs := I.bs
  bsz := Nat.le_trans I.ok.bsz I.sz
  noex := fun b o e hb => by
    rcases (hf b hb).2.2.2.1 with z | z
    · exact I.ok.noex b o e z
    · exact absurd (Nat.lt_of_lt_of_le (Heap.lt_size e) (Nat.le_trans I.ok.bsz z)) (Nat.lt_irrefl _)
  exfs := fun b hb z => by
    rcases List.mem_cons.mp (I.stkSub b z) with e | e
    · exact (hf b hb).2.1 e
    · exact (hf b hb).2.2.1 e
  funs := I.stack
  frf := I.stkFree
theorem pe_lcomp {tg elt iter : Expr} {scope : Scope} {cl : List (Str × Addr)} {pos : Pos} {N' : List Str} {wi : TI} {fr : St → St} {g : TG} {te : TE}
    (hc : X.calm = true) (hi : PI X tg iter wi)
    (hg : ∀ C fp s0 H0, PG (blk X N' scope cl C fp s0 H0) tg g) (he : ∀ C fp s0 H0, PE (blk X N' scope cl C fp s0 H0) elt te)
    (hclos : closureFor scope X.env = pure cl) (hkind : scope.kind = .function) (hnames : ∀ x ∈ scope.names, x.2 = .local → scope.names.lookup x.1 = some .local) (hcell : ∀ y ∈ scope.names, y.2 ≠ .cell)
    (hcl : ∀ y c, cl.lookup y = some c → X.env.cells.lookup y = some c) (hhas : ∀ y, ((relabel scope X.env).names.lookup y = some .cell ∨ (relabel scope X.env).names.lookup y = some .free) → ∃ c, cl.lookup y = some c)
    (hfl : ∀ σ : St, σ.length = X.N.length → (fr σ).length = N'.length)
    (hfr : ∀ (σ : St) (i : Nat) (y : Str) (v : V), N'[i]? = some y → (fr σ)[i]? = some (some v) → ∃ j : Nat, X.N[j]? = some y ∧ σ[j]? = some (some v) ∧ X.env.kindOf y = some .cell ∧ (relabel scope X.env).names.lookup y = some .cell)
    (hs : ∀ x, foldedSetIterable iter X.env x = pure x := by intro _; rfl) :
    PE X (.ListComp elt [⟨tg, iter, [], 0⟩] scope pos) (tComp wi fr g te) := by
  intro pins s σ H Q I h
  rw [eval_ListComp]
  refine wpAny_comprehension_free (use := none) rfl hs hclos hkind hnames ?_
  refine thn (hi pins s σ H _ I h) fun v s1 h1 => thn h1 fun itv s2 h2 => ?_
  obtain ⟨it, fp, tn, J, H2, rfl, I2, T, st2, f2, q2⟩ := h2
  have D0 : H2 s2.heap.objs.size = none := I2.hok.fresh (Nat.le_refl _)
  obtain ⟨W, ⟨m0, w0⟩, turn⟩ := q2 _ D0
  refine wpAny_newObj_type (wpAny_newFunctionEnv hcell (by intro y hy; simp at hy) (fun h₁ hns₁ hsb₁ => ?_) hkind)
  dsimp only at hns₁ hsb₁ ⊢
  have I3 : Inv X pins σ (upd H2 s2.heap.objs.size (.lst [])) { s2 with heap := s2.heap.push { cls := .type "list", dict := none, data := .seq ([] : List Value).toArray } } :=
    I2.laid (t' := s2.toks) (fun b u e => Heap.get?_push_of_some _ e) (Nat.le_refl _) ⟨Nat.zero_le _, [], _, .nil, Heap.get?_push_size _ rfl⟩
  generalize hH3 : upd H2 s2.heap.objs.size (.lst []) = H3 at I3 w0
  generalize hs3 : ({ s2 with heap := s2.heap.push { cls := .type "list", dict := none, data := .seq ([] : List Value).toArray } } : Shared) = s3 at I3
  have eh : s3.heap = s2.heap.push { cls := .type "list", dict := none, data := .seq ([] : List Value).toArray } := by rw [← hs3]
  have fl : ∀ b ∈ fp, b < s2.heap.objs.size := fun b hb => by
    obtain ⟨o, e, _⟩ := T.obj 0 _ st2 b hb
    exact Heap.lt_size e
  have fn : ∀ b ∈ fp, H3 b = none := fun b hb => by
    rw [← hH3, upd_ne (Nat.ne_of_lt (fl b hb))]; exact (f2 b hb).1
  have f3 : ∀ b ∈ fp, FpOk X pins H3 b := fun b hb => ⟨fn b hb, (f2 b hb).2⟩
  have old : ∀ b u, s3.heap.get? b = some u → h₁.get? b = some u := fun b u e => by
    refine hsb₁.extBut b u ?_ (Heap.get?_push_of_some _ (by rw [← eh]; exact e))
    have := Heap.lt_size e
    rw [eh] at this
    exact Nat.ne_of_lt this
  have up : ∀ b u, s2.heap.get? b = some u → s3.heap.get? b = some u := fun b u e => by rw [eh]; exact Heap.get?_push_of_some _ e
  have ok := blk_ok (N' := N') (scope := scope) (cl := cl) (fp := fp) I3 hkind hcl hhas f3 fun b hb => by rw [eh, Heap.size_push]; exact Nat.lt_succ_of_lt (fl b hb)
  rw [← eh] at hns₁ ⊢
  have IB : Inv (blk X N' scope cl s3.heap.objs.size fp s3 H3) [] (fr σ) H3 { s3 with heap := h₁, toks := s2.toks + ([] : List (Str × Value)).length } := by
    refine ⟨ok, rfl, I3.bare, Un.kept old, ⟨_, hns₁, fun i y v e1 e2 e3 => ?_⟩, fun x c e => ?_, I3.hok.fresh (Nat.le_refl _), fun x c e => I3.freeC x c (hcl x c e), fun p hp => by simp [blk] at hp, I3.hok.kept old, hfl σ I3.len⟩
    · obtain ⟨j, n1, n2, n3, n4⟩ := hfr σ i y v e1 e2
      obtain ⟨m, _, hl⟩ := I3.loc
      obtain ⟨u, r, l⟩ := hl j y v n1 n2 (.inr (.inl n3))
      refine ⟨u, r, .inr ⟨.inl n4, ?_⟩⟩
      rcases l with ⟨k, _⟩ | ⟨_, c, e, ic⟩
      · rw [n3] at k; cases k
      · obtain ⟨c', e'⟩ := hhas y (.inl n4)
        have e'' := hcl y c' e'
        rw [e] at e''; cases e''
        obtain ⟨o, ho, hd⟩ := ic
        exact ⟨c, e', o, old c o ho, hd⟩
    · obtain ⟨v, o, ho, hd⟩ := I3.cell x c (hcl x c e)
      exact ⟨v, o, old c o ho, hd⟩
  have stB : tn 0 h₁ := T.keep _ _ _ st2 fun b hb o e => old b o (up b o e)
  have D2 : s2.heap.objs.size < s3.heap.objs.size := by rw [eh, Heap.size_push]; exact Nat.lt_succ_self _
  have stat : ∀ {H' : Hp}, (∀ b ∈ fp, H' b = none) → ∀ b ∈ fp, FpOk (blk X N' scope cl s3.heap.objs.size fp s3 H3) [] H' b := fun hn b hb =>
    ⟨hn b hb, Nat.ne_of_lt (Nat.lt_trans (fl b hb) D2), ok.exfs b hb, .inl hb, fun x c e => (ok.exf b hb).2 x c e, fun p hp => by simp [blk] at hp⟩
  have loop : codeAny (model X.prog X.w) X.A (.compLoop (.ListComp elt [⟨tg, iter, [], 0⟩] scope pos) 0 (.ref it) (.ref s2.heap.objs.size) (compEnvC scope cl s3.heap.objs.size X.env))
      (compPost (model X.prog X.w) X.A X.xe none (EP X pins σ Q) (.ref s2.heap.objs.size) s3.heap.objs.size) { s3 with heap := h₁, toks := s2.toks + ([] : List (Str × Value)).length } := by
    refine codeAny_loop rfl (fun n s' => ∃ i ys H', Inv (blk X N' scope cl s3.heap.objs.size fp s3 H3) [] (fr σ) H' s' ∧ tn i s'.heap ∧ (∀ b ∈ fp, H' b = none) ∧ W i n ys H') ?_ m0 ⟨0, [], H3, IB, stB, fn, w0⟩
    rintro n s4 ⟨i, ys, H4, I4, st4, fr4, w4⟩
    show wpAny _ _ ((compTurn (.ListComp elt [⟨tg, iter, [], 0⟩] scope pos) 0 (.ref it) (.ref s2.heap.objs.size) (compEnvC scope cl s3.heap.objs.size X.env)).onRaise (fun x => do noteFrame x (compEnvC scope cl s3.heap.objs.size X.env); theTreesLotGoes x)) _ _ s4
    refine wpAny_noted ?_
    rw [compTurn_list1]
    refine wpAny_bind (wpAny_standAt (wpAny_bind ?_))
    rcases turn i n ys H4 w4 with ⟨stop, qn⟩ | ⟨go, hz, step⟩
    · refine thn (T.done (blk X N' scope cl s3.heap.objs.size fp s3 H3) rfl rfl rfl hc i [] s4 (fr σ) H4 _ I4 (stat fr4) st4 stop) fun r s5 ⟨hr, I5⟩ => ?_
      subst hr
      refine wpAny_pure ?_
      obtain ⟨m, hn, _⟩ := I5.loc
      refine ⟨m, hn, fun h' sb => ⟨.ref s2.heap.objs.size, H4, ?_, rfl, qn⟩⟩
      have hb : ∀ b u, b ≠ s3.heap.objs.size → s5.heap.get? b = some u → h'.get? b = some u := fun b u n e => sb.extBut b u n e
      have hlt : ∀ b u, s3.heap.get? b = some u → b ≠ s3.heap.objs.size := fun b u e => Nat.ne_of_lt (Heap.lt_size e)
      have B := I5.base
      refine I3.call' (s' := { s5 with heap := h' }) (ch := fp) I5.os ⟨fun b o e n1 n2 n3 => hb b o (hlt b o e) (B.keep b o e n1 n2 n3), fun b o e n1 n2 n3 => ?_, B.free, fun b o e n1 => ?_, B.tups, B.frzs, B.tbls⟩ (fun a o e => ?_) I5.bare (fun b hb' => ?_)
      · obtain ⟨sl, z⟩ := B.slot b o e n1 n2 n3
        exact ⟨sl, hb b _ (hlt b o e) z⟩
      · obtain ⟨o', z⟩ := B.there b o e n1
        exact ⟨o', hb b _ (hlt b o e) z⟩
      · have nC : ∀ c u, H4 c = some u → c ≠ s3.heap.objs.size := fun c u z w => by
          have := I5.free
          rw [show (blk X N' scope cl s3.heap.objs.size fp s3 H3).env.locals = s3.heap.objs.size from rfl, ← w, z] at this
          cases this
        refine (I5.hok a o e).stay (fun c u hcu q => hb c u ?_ q) (fun _ q => q) fun _ _ q => q
        rcases hcu with z | z
        · rw [z]; exact nC a o e
        · exact nC c _ z
      · exact ⟨(f2 b hb').2.2.2.1, (f2 b hb').2.1, (f2 b hb').2.2.2.2.1, (f2 b hb').2.2.2.2.2⟩
    · refine thn (T.item (blk X N' scope cl s3.heap.objs.size fp s3 H3) rfl rfl rfl hc i [] s4 (fr σ) H4 _ I4 (stat fr4) st4 go) fun r s5 ⟨u, hr, h5⟩ => ?_
      subst hr
      refine wpAny_bind (thn h5 fun _ s6 ⟨x, H6, I6, r6, y6, st6, fr6⟩ => ?_)
      have I6' := I6.pinned (stat fr6) (T.obj _ _ st6)
      refine wpAny_bind (wpAny_mono (hg s3.heap.objs.size fp s3 H3 _ s6 (fr σ) H6 x u _ I6' r6 (step x H6 y6)) (fun _ s7 ⟨σ7, H7, I7, kp, q7⟩ => ?_) fun _ _ z => z.elim)
      refine wpAny_bind (wpAny_bind (wpAny_mono (he s3.heap.objs.size fp s3 H3 _ s7 σ7 H7 _ I7 q7) (fun v8 s8 ⟨y8, H8, I8, r8, hD, m', hm, w8⟩ => ?_) fun _ _ z => z.elim))
      have ap := mt_append (X := blk X N' scope cl s3.heap.objs.size fp s3 H3) _ s8 σ7 H8 (.ref s2.heap.objs.size) [y8] (.ref s2.heap.objs.size) [v8] (fun _ H9 => W (i + 1) m' (ys ++ [y8]) H9) I8 rfl (.cons r8 .nil) ⟨_, ys, y8, rfl, rfl, hD, hz, w8⟩
      refine wpAny_bind (wpAny_mono ap (fun _ s9 ⟨_, H9, I9, _, w9⟩ => wpAny_pure (wpAny_pure ⟨rfl, m', hm, i + 1, ys ++ [y8], H9, ?_, ?_, ?_, w9⟩)) fun _ _ z => z.elim)
      · exact I9.unpinned.weak (by rw [kp.1]) kp.2
      · exact T.keep _ _ _ st6 fun b hb o e => (I9.pin (b, o) (List.mem_append_right _ (List.mem_append_right _ (mem_pinsAt hb e)))).1
      · intro b hb
        obtain ⟨o, e, d⟩ := T.obj _ _ st6 b hb
        exact (I9.pin (b, o) (List.mem_append_right _ (List.mem_append_right _ (mem_pinsAt hb e)))).2.1
  subst hs3
  exact codeAny_compStart_list loop (T.self X.A 0 _ _ _ stB loop)
end
end L2

set_option linter.all false
set_option maxRecDepth 100000
set_option maxHeartbeats 4000000
namespace L2
open PySem PySem.Spec PyProof.Rows
/-! ### readings by what they give -/
def Gv (t : TE) (σ : St) (H : Hp) (R : V → Hp → Prop) : Prop := ∀ Q : VK, (∀ v H', R v H' → Q v H') → t σ H Q
def GvT (t : TT) (σ : St) (H : Hp) (R : Bool → Hp → Prop) : Prop := ∀ Q : Bool → Hp → Prop, (∀ v H', R v H' → Q v H') → t σ H Q
def GvA (t : TA) (σ : St) (H : Hp) (R : List V → Hp → Prop) : Prop := ∀ Q : List V → Hp → Prop, (∀ v H', R v H' → Q v H') → t σ H Q
/-- one value, the heap as it is -/
def Pu (t : TE) (σ : St) (H : Hp) (v : V) : Prop := ∀ Q : VK, Q v H → t σ H Q
def PuT (t : TT) (σ : St) (H : Hp) (b : Bool) : Prop := ∀ Q : Bool → Hp → Prop, Q b H → t σ H Q
def PuA (t : TA) (σ : St) (H : Hp) (vs : List V) : Prop := ∀ Q : List V → Hp → Prop, Q vs H → t σ H Q
section
variable {σ : St} {H : Hp} {t ta tb tc : TE} {x y z v : V} {i j : Int} {b c : Bool}
theorem Pu.gv' {R : V → Hp → Prop} (h : Pu t σ H v) (r : R v H) : Gv t σ H R := fun Q q => h Q (q v H r)
theorem Gv.imp {R R' : V → Hp → Prop} (h : Gv t σ H R) (f : ∀ v H', R v H' → R' v H') : Gv t σ H R' := fun Q q => h Q fun v H' r => q v H' (f v H' r)
theorem pu_v {k : Nat} (h : σ[k]? = some (some v)) : Pu (tVar k) σ H v := fun _ q => ⟨v, h, q⟩
theorem pu_c : Pu (tC v) σ H v := fun _ q => q
theorem pu_add (ha : Pu ta σ H (.int i)) (hb : Pu tb σ H (.int j)) : Pu (tOp (rI0 fun i j => .int (i + j)) ta tb) σ H (.int (i + j)) := fun _ q => ha _ (hb _ ⟨i, j, rfl, rfl, q⟩)
theorem pu_sub (ha : Pu ta σ H (.int i)) (hb : Pu tb σ H (.int j)) : Pu (tOp (rI0 fun i j => .int (i - j)) ta tb) σ H (.int (i - j)) := fun _ q => ha _ (hb _ ⟨i, j, rfl, rfl, q⟩)
theorem pu_mul (ha : Pu ta σ H (.int i)) (hb : Pu tb σ H (.int j)) (hm : IntMulOk i j) : Pu (tOp (rI IntMulOk fun i j => .int (i * j)) ta tb) σ H (.int (i * j)) := fun _ q => ha _ (hb _ ⟨i, j, rfl, rfl, hm, q⟩)
theorem pu_fdiv (ha : Pu ta σ H (.int i)) (hb : Pu tb σ H (.int j)) (hm : CDivB i j) : Pu (tOp (rI CDivB fun i j => .int (i.fdiv j)) ta tb) σ H (.int (i.fdiv j)) := fun _ q => ha _ (hb _ ⟨i, j, rfl, rfl, hm, q⟩)
theorem pu_mod (ha : Pu ta σ H (.int i)) (hb : Pu tb σ H (.int j)) (hm : j ≠ 0) : Pu (tOp (rI (fun _ j => j ≠ 0) fun i j => .int (i.fmod j)) ta tb) σ H (.int (i.fmod j)) := fun _ q => ha _ (hb _ ⟨i, j, rfl, rfl, hm, q⟩)
theorem pu_pow (ha : Pu ta σ H (.int i)) (hb : Pu tb σ H (.int j)) (hm : CPow i j) : Pu (tOp (rI CPow fun i j => .int (i ^ j.toNat)) ta tb) σ H (.int (i ^ j.toNat)) := fun _ q => ha _ (hb _ ⟨i, j, rfl, rfl, hm, q⟩)
theorem pu_neg (ha : Pu ta σ H (.int i)) : Pu (tUn (rU fun i => .int (-i)) ta) σ H (.int (-i)) := fun _ q => ha _ ⟨i, rfl, q⟩
theorem pu_lt (ha : Pu ta σ H (.int i)) (hb : Pu tb σ H (.int j)) : Pu (tOp (rI0 fun i j => .bl (decide (i < j))) ta tb) σ H (.bl (decide (i < j))) := fun _ q => ha _ (hb _ ⟨i, j, rfl, rfl, q⟩)
theorem pu_gt (ha : Pu ta σ H (.int i)) (hb : Pu tb σ H (.int j)) : Pu (tOp (rI0 fun i j => .bl (decide (j < i))) ta tb) σ H (.bl (decide (j < i))) := fun _ q => ha _ (hb _ ⟨i, j, rfl, rfl, q⟩)
theorem pu_ge (ha : Pu ta σ H (.int i)) (hb : Pu tb σ H (.int j)) : Pu (tOp (rI0 fun i j => .bl (decide (j ≤ i))) ta tb) σ H (.bl (decide (j ≤ i))) := fun _ q => ha _ (hb _ ⟨i, j, rfl, rfl, q⟩)
theorem pu_eqI (ha : Pu ta σ H (.int i)) (hb : Pu tb σ H (.int j)) : Pu (tOp rEq ta tb) σ H (.bl (decide (i = j))) := fun _ q => ha _ (hb _ ⟨rfl, by rw [dec_int, Bool.beq_eq_decide_eq]; exact q⟩)
theorem pu_neI (ha : Pu ta σ H (.int i)) (hb : Pu tb σ H (.int j)) : Pu (tOp rNe ta tb) σ H (.bl (!decide (i = j))) := fun _ q => ha _ (hb _ ⟨rfl, by rw [dec_int, Bool.beq_eq_decide_eq]; exact q⟩)
theorem pu_ixT {K : PySem.W.Frag} {p : Addr} {xs : List V} (ha : Pu ta σ H (.ref p)) (hb : Pu tb σ H (.int i)) (h : SqT K H p xs) (e : atI xs i = some v) : Pu (tOp (rIxT K) ta tb) σ H v := fun _ q => ha _ (hb _ ⟨p, xs, i, v, rfl, rfl, h, e, q⟩)
theorem pu_ixL {K : PySem.W.Frag} {p : Addr} {xs : List V} (ha : Pu ta σ H (.ref p)) (hb : Pu tb σ H (.int i)) (h : SqL K H p xs) (e : atI xs i = some v) : Pu (tOp (rIxL K) ta tb) σ H v := fun _ q => ha _ (hb _ ⟨p, xs, i, v, rfl, rfl, h, e, q⟩)
theorem pa_n : PuA tNil σ H [] := fun _ q => q
theorem pa_c {tr : TA} {vs : List V} (ha : Pu ta σ H x) (hr : PuA tr σ H vs) : PuA (tCons ta tr) σ H (x :: vs) := fun _ q => ha _ (hr _ q)
theorem pu_lenL {K : PySem.W.Frag} {p : Addr} {ys : List V} {t : TA} (ha : PuA t σ H [.ref p]) (h : SqL K H p ys) : Pu (tCB (fun xs H Q => ∃ p ys, xs = [.ref p] ∧ (SqL K H p ys ∨ SqT K H p ys) ∧ Q (.int ys.length) H) t) σ H (.int ys.length) := fun _ q => ha _ ⟨p, ys, rfl, .inl h, q⟩
theorem pu_lenT {K : PySem.W.Frag} {p : Addr} {ys : List V} {t : TA} (ha : PuA t σ H [.ref p]) (h : SqT K H p ys) : Pu (tCB (fun xs H Q => ∃ p ys, xs = [.ref p] ∧ (SqL K H p ys ∨ SqT K H p ys) ∧ Q (.int ys.length) H) t) σ H (.int ys.length) := fun _ q => ha _ ⟨p, ys, rfl, .inr h, q⟩
theorem pu_abs {t : TA} (ha : PuA t σ H [.int i]) : Pu (tCB (fun xs H Q => ∃ i, xs = [.int i] ∧ Q (.int (if i < 0 then -i else i)) H) t) σ H (.int (i.natAbs : Int)) := fun _ q => ha _ ⟨i, rfl, by
  rw [show (if i < 0 then -i else i) = (i.natAbs : Int) by split <;> omega]; exact q⟩
theorem pu_isi {K : PySem.W.Frag} {n : String} {u : Value} {t : TA} (ha : PuA t σ H [x, .ty n]) (ty : TyOf K H x u) (e : PySem.W.kitOne K u (.type n) = some b) :
    Pu (tCB (fun xs H Q => ∃ x n t b, xs = [x, .ty n] ∧ TyOf K H x t ∧ PySem.W.kitOne K t (.type n) = some b ∧ Q (.bl b) H) t) σ H (.bl b) := fun _ q => ha _ ⟨x, n, u, b, rfl, ty, e, q⟩
/-! tests -/
theorem pt_t (h : Pu t σ H (.bl b)) : PuT (tTest t) σ H b := fun _ q => h _ ⟨b, rfl, q⟩
theorem pt_b (h : Pu t σ H (.bl b)) : PuT (tB t) σ H b := fun _ q => h _ ⟨b, rfl, q⟩
theorem pt_n {t : TT} (h : PuT t σ H b) : PuT (tNot t) σ H (!b) := fun _ q => h _ q
theorem pt_and {t u : TT} (h : PuT t σ H b) (g : b = true → PuT u σ H c) : PuT (tAnd t u) σ H (b && c) := fun Q q => h _ (by
  cases b with
  | true => rw [if_pos rfl]; exact g rfl Q (by simpa using q)
  | false => rw [if_neg Bool.false_ne_true]; simpa using q)
theorem pt_or {t u : TT} (h : PuT t σ H b) (g : b = false → PuT u σ H c) : PuT (tOr t u) σ H (b || c) := fun Q q => h _ (by
  cases b with
  | false => rw [if_neg Bool.false_ne_true]; exact g rfl Q (by simpa using q)
  | true => rw [if_pos rfl]; simpa using q)
theorem pu_and (h : Pu ta σ H (.bl b)) (g : b = true → Pu tb σ H (.bl c)) : Pu (tAndV ta tb) σ H (.bl (b && c)) := fun Q q => h _ ⟨b, rfl, by
  cases b with
  | true => rw [if_pos rfl]; exact g rfl Q (by simpa using q)
  | false => rw [if_neg Bool.false_ne_true]; simpa using q⟩
theorem pu_not (h : Pu ta σ H (.bl b)) : Pu (tNotV ta) σ H (.bl (!b)) := fun _ q => h _ ⟨b, rfl, q⟩
/-! tests with calls that lay things -/
theorem gt_or {t u : TT} {R R' : Bool → Hp → Prop} (h : GvT t σ H R) (g : ∀ H', R false H' → GvT u σ H' R') (e : ∀ H', R true H' → R' true H') : GvT (tOr t u) σ H R' := fun Q q => h _ fun v H' r => by
  cases v with
  | false => rw [if_neg Bool.false_ne_true]; exact g H' r Q q
  | true => rw [if_pos rfl]; exact q _ _ (e H' r)
theorem PuT.gt {t : TT} {R : Bool → Hp → Prop} (h : PuT t σ H b) (r : R b H) : GvT t σ H R := fun Q q => h Q (q _ _ r)
/-! statements -/
variable {te : TE} {D : Ends} {rest u : TS} {k : Nat}
theorem st_set (h : Pu te σ H v) (q : rest D (σ.set k (some v)) H) : tSeq (tAsg te (gName k)) rest D σ H := h _ q
theorem st_setG {R : V → Hp → Prop} (h : Gv te σ H R) (q : ∀ v H', R v H' → rest D (σ.set k (some v)) H') : tSeq (tAsg te (gName k)) rest D σ H := h _ q
theorem st_set1 (h : Pu te σ H v) (q : D.nx (σ.set k (some v)) H) : tAsg te (gName k) D σ H := h _ q
theorem st_setG1 {R : V → Hp → Prop} (h : Gv te σ H R) (q : ∀ v H', R v H' → D.nx (σ.set k (some v)) H') : tAsg te (gName k) D σ H := h _ q
theorem st_ret (h : Pu te σ H v) (q : D.rt v H) : tRet te D σ H := h _ q
theorem st_retG {R : V → Hp → Prop} (h : Gv te σ H R) (q : ∀ v H', R v H' → D.rt v H') : tRet te D σ H := h _ q
theorem st_exprG {R : V → Hp → Prop} (h : Gv te σ H R) (q : ∀ v H', R v H' → rest D σ H') : tSeq (tDrop te) rest D σ H := h _ q
theorem st_exprG1 {R : V → Hp → Prop} (h : Gv te σ H R) (q : ∀ v H', R v H' → D.nx σ H') : tDrop te D σ H := h _ q
theorem st_if {tc : TT} {t u : TS} (h : PuT tc σ H b) (q1 : b = true → t { D with nx := rest D } σ H) (q2 : b = false → u { D with nx := rest D } σ H) : tSeq (tIfS tc t u) rest D σ H := h _ (by
  cases b with
  | true => rw [if_pos rfl]; exact q1 rfl
  | false => rw [if_neg Bool.false_ne_true]; exact q2 rfl)
theorem st_if1 {tc : TT} {t u : TS} (h : PuT tc σ H b) (q1 : b = true → t D σ H) (q2 : b = false → u D σ H) : tIfS tc t u D σ H := h _ (by
  cases b with
  | true => rw [if_pos rfl]; exact q1 rfl
  | false => rw [if_neg Bool.false_ne_true]; exact q2 rfl)
theorem st_ifG {tc : TT} {t u : TS} {R : Bool → Hp → Prop} (h : GvT tc σ H R) (q1 : ∀ H', R true H' → t { D with nx := rest D } σ H') (q2 : ∀ H', R false H' → u { D with nx := rest D } σ H') : tSeq (tIfS tc t u) rest D σ H := h _ fun b H' r => by
  cases b with
  | true => rw [if_pos rfl]; exact q1 H' r
  | false => rw [if_neg Bool.false_ne_true]; exact q2 H' r
/-! calls -/
variable {sp : Sp} {E : XK}
theorem pu_call {t : TA} {vs : List V} (h : PuA t σ H vs) (hs : ∀ Q, Q v H → sp (vs ++ []) H Q E) : Pu (tCall sp [] E t) σ H v := fun Q q => h _ (hs Q q)
theorem gv_call {t : TA} {vs : List V} {R : V → Hp → Prop} (h : PuA t σ H vs) (hs : ∀ Q : VK, (∀ v H', R v H' → Q v H') → sp (vs ++ []) H Q E) : Gv (tCall sp [] E t) σ H R := fun Q q => h _ (hs Q q)
theorem gv_callA {t : TA} {R : V → Hp → Prop} {RA : List V → Hp → Prop} (h : GvA t σ H RA) (hs : ∀ vs H1, RA vs H1 → ∀ Q : VK, (∀ v H', R v H' → Q v H') → sp (vs ++ []) H1 Q E) : Gv (tCall sp [] E t) σ H R := fun Q q => h _ fun vs H1 r => hs vs H1 r Q q
theorem ga_nil : GvA tNil σ H (fun vs H' => vs = [] ∧ H' = H) := fun Q q => q _ _ ⟨rfl, rfl⟩
theorem ga_cons {tr : TA} {R1 : V → Hp → Prop} {R2 : V → Hp → List V → Hp → Prop} (h : Gv ta σ H R1) (g : ∀ x H1, R1 x H1 → GvA tr σ H1 (R2 x H1)) :
    GvA (tCons ta tr) σ H (fun vs H' => ∃ x H1 r, vs = x :: r ∧ R1 x H1 ∧ R2 x H1 r H') := fun Q q => h _ fun x H1 r1 => g x H1 r1 _ fun r H' r2 => q _ _ ⟨x, H1, r, rfl, r1, r2⟩
/-! new tuples and lists -/
theorem gv_tup {t : TA} {vs : List V} (h : PuA t σ H vs) (hz : vs.length ≤ sizeLine) : Gv (tTup t) σ H (fun v H' => ∃ p, H p = none ∧ v = .ref p ∧ H' = upd H p (.tup vs)) := fun Q q => h _ ⟨hz, fun p hp => q _ _ ⟨p, hp, rfl, rfl⟩⟩
theorem gv_lst {t : TA} {vs : List V} (h : PuA t σ H vs) (hz : vs.length ≤ sizeLine) : Gv (tLst t) σ H (fun v H' => ∃ p, H p = none ∧ v = .ref p ∧ H' = upd H p (.lst vs)) := fun Q q => h _ ⟨hz, fun p hp => q _ _ ⟨p, hp, rfl, rfl⟩⟩
end
/-! ### frames of the heap -/
theorem Same.upd {H : Hp} {p : Addr} {o : HO} (h : H p = none) : Same H (upd H p o) := fun b u e => by rw [upd_ne (ne_of_none e h)]; exact e
theorem Same.tup {K : PySem.W.Frag} {H H' : Hp} {a : Addr} {xs : List V} (e : Same H H') (h : SqT K H a xs) : SqT K H' a xs := by
  rcases h with (h | ⟨o, h⟩) | h
  · exact .inl (.inl (e _ _ h))
  · exact .inl (.inr ⟨o, e _ _ h⟩)
  · exact .inr h
/-- all is as it was but at one place -/
def SameB (l : Addr) (H H' : Hp) : Prop := ∀ b o, H b = some o → b ≠ l → H' b = some o
theorem Same.b {H H' : Hp} {l : Addr} (e : Same H H') : SameB l H H' := fun b o h _ => e b o h
theorem SameB.refl (l : Addr) (H : Hp) : SameB l H H := fun _ _ h _ => h
theorem SameB.trans {l : Addr} {H H1 H2 : Hp} (a : SameB l H H1) (b : SameB l H1 H2) : SameB l H H2 := fun c o h n => b c o (a c o h n) n
theorem SameB.upd {l : Addr} {H : Hp} {o : HO} : SameB l H (upd H l o) := fun b u e n => by rw [upd_ne n]; exact e
/-! ### defs -/
structure Fn (K : PySem.W.Frag) (mg : Str → Option Value) (x : Str) (st : Stmt) (f : Addr) (fd : FuncData) (ps : List Str) : Prop where
  F : Fun K x x st f fd
  b : Binds K fd ps []
  m : mg x = some (.ref f)
section
variable {X : Cx} {x : Str} {st : Stmt} {f : Addr} {fd : FuncData} {ps : List Str} {sp : Sp} {k j : Nat} {e : Expr} {es : List Expr} {t : TA} {p pos : Pos}
theorem pe_fn (T : Fn X.K X.mg x st f fd ps) (G : FnOk X.prog X.w X.K X.mg X.base CX0 k f fd ps sp) (hr : Room j X.A) (hj : k ≤ j) (ha : PA X (e :: es) t) (hg : Gl X x := by rfl) (hdb : (x == ("__debug__" : Str)) = false := by decide)
    (he : starEach (e :: es) X.env = (false, eval e X.env) :: starEach es X.env := by rfl) (hpl : (backTo pos (starEach es X.env)).any (·.1) = false := by rfl) : PE X (.Call (.Name x p) (e :: es) [] pos) (tCall sp [] E0 t) :=
  pe_call G (hr.mono hj) hg T.m T.F.kp T.b .nil pass0 ha hdb he hpl
/-- a type's name -/
theorem pe_ty {n : Str} {T : String} {pos : Pos} (hm : X.mg n = none) (hv : bootBuiltins n = some (.type T)) (hg : Gl X n := by rfl) (hn : n ≠ "__name__" := by decide) (hd : (n == ("__debug__" : Str)) = false := by decide) : PE X (.Name n pos) (tC (.ty T)) :=
  pe_bltn hg hm hv rfl hn hd
end
/-! ### the forms one uses -/
end L2

set_option linter.all false
namespace L2
/-! ### lowest terms -/
def gS (a b : Int) : Int := if b < 0 then -(Int.gcd a b : Int) else (Int.gcd a b : Int)
theorem fdiv_mul_self {k x : Int} (h : k ≠ 0) : (k * x).fdiv k = x := Int.mul_fdiv_cancel_left x h
theorem dvd_cop {k a b : Int} (h : k ∣ a * b) (hg : Int.gcd k a = 1) : k ∣ b := by
  have := (Int.dvd_gcd_mul_iff_dvd_mul (k := k) (n := a) (m := b)).mpr h
  rw [hg] at this
  simpa using this
/-- the one pair in lowest terms -/
theorem low_one {n m x y : Int} (hy : 0 < y) (hg : Int.gcd x y = 1) (hm : m ≠ 0) (e : x * m = n * y) : n.fdiv (gS n m) = x ∧ m.fdiv (gS n m) = y := by
  have h1 : y ∣ x * m := ⟨n, by rw [e, Int.mul_comm]⟩
  have h2 : y ∣ m := dvd_cop h1 (by rw [Int.gcd_comm]; exact hg)
  obtain ⟨k, rfl⟩ := h2
  have hk : k ≠ 0 := by intro z; subst z; simp at hm
  have hn : n = k * x := by
    have : n * y = (k * x) * y := by rw [← e]; grind
    exact Int.eq_of_mul_eq_mul_right (by omega) this
  subst hn
  have hgs : gS (k * x) (y * k) = k := by
    unfold gS
    rw [Int.mul_comm y k, Int.gcd_mul_left, hg, Nat.mul_one]
    split
    · rename_i h
      have : k < 0 := by
        by_cases hk' : k < 0
        · exact hk'
        · exact absurd h (Int.not_lt.mpr (Int.mul_nonneg (by omega) (by omega)))
      omega
    · rename_i h
      have : 0 ≤ k := by
        by_cases hk' : 0 ≤ k
        · exact hk'
        · exact absurd (Int.mul_neg_of_neg_of_pos (by omega) hy) h
      omega
  rw [hgs]
  exact ⟨fdiv_mul_self hk, by rw [Int.mul_comm]; exact fdiv_mul_self hk⟩
theorem gS_ne' {a b : Int} (h : b ≠ 0) : gS a b ≠ 0 := by
  have := Int.gcd_pos_of_ne_zero_right a h
  unfold gS; split <;> omega
/-- what it has -/
theorem low_has {n m : Int} (hm : m ≠ 0) : 0 < m.fdiv (gS n m) ∧ Int.gcd (n.fdiv (gS n m)) (m.fdiv (gS n m)) = 1 ∧ n.fdiv (gS n m) * m = n * m.fdiv (gS n m) := by
  have hp := Int.gcd_pos_of_ne_zero_right n hm
  obtain ⟨x, hx⟩ : gS n m ∣ n := by
    unfold gS; split
    · exact Int.neg_dvd.mpr (Int.gcd_dvd_left n m)
    · exact Int.gcd_dvd_left n m
  obtain ⟨y, hy⟩ : gS n m ∣ m := by
    unfold gS; split
    · exact Int.neg_dvd.mpr (Int.gcd_dvd_right n m)
    · exact Int.gcd_dvd_right n m
  have hg := gS_ne' (a := n) hm
  have e1 : n.fdiv (gS n m) = x := by
    conv => lhs; rw [hx]
    rw [← hx]
    conv => lhs; arg 1; rw [hx]
    exact fdiv_mul_self hg
  have e2 : m.fdiv (gS n m) = y := by
    conv => lhs; arg 1; rw [hy]
    exact fdiv_mul_self hg
  rw [e1, e2]
  have hab : (gS n m).natAbs = Int.gcd n m := by unfold gS; split <;> omega
  have hgcd : Int.gcd x y = 1 := by
    have : Int.gcd n m = Int.gcd (gS n m * x) (gS n m * y) := by rw [← hx, ← hy]
    rw [Int.gcd_mul_left, hab] at this
    have h1 : Int.gcd n m * 1 = Int.gcd n m * Int.gcd x y := by rw [Nat.mul_one]; exact this
    exact (Nat.eq_of_mul_eq_mul_left hp h1).symm
  refine ⟨?_, hgcd, ?_⟩
  · generalize hG : gS n m = G at *
    have hs : (m < 0 → G < 0) ∧ (¬ m < 0 → 0 < G) := by
      constructor
      · intro h
        rw [← hG]; unfold gS; rw [if_pos h]; omega
      · intro h
        rw [← hG]; unfold gS; rw [if_neg h]; omega
    by_cases h : m < 0
    · have h1 := hs.1 h
      by_cases h2 : 0 < y
      · exact h2
      · exfalso
        have := Int.mul_nonneg_of_nonpos_of_nonpos (a := G) (b := y) (by omega) (by omega)
        omega
    · have h1 := hs.2 h
      by_cases h2 : 0 < y
      · exact h2
      · exfalso
        have := Int.mul_nonpos_of_nonneg_of_nonpos (a := G) (b := y) (by omega) (by omega)
        omega
  · generalize hG : gS n m = G at *
    rw [hx, hy]
    grind
theorem low_le {n m : Int} (hm : m ≠ 0) : (n.fdiv (gS n m)).natAbs ≤ n.natAbs ∧ (m.fdiv (gS n m)).natAbs ≤ m.natAbs := by
  have hg := gS_ne' (a := n) hm
  have key : ∀ z, gS n m ∣ z → (z.fdiv (gS n m)).natAbs ≤ z.natAbs := by
    intro z hz
    obtain ⟨x, hx⟩ := hz
    have e : z.fdiv (gS n m) = x := by
      conv => lhs; arg 1; rw [hx]
      exact fdiv_mul_self hg
    rw [e, hx, Int.natAbs_mul]
    have h1 : 1 ≤ (gS n m).natAbs := by omega
    calc x.natAbs = 1 * x.natAbs := (Nat.one_mul _).symm
      _ ≤ (gS n m).natAbs * x.natAbs := Nat.mul_le_mul_right _ h1
  constructor
  · apply key
    unfold gS; split
    · exact Int.neg_dvd.mpr (Int.gcd_dvd_left n m)
    · exact Int.gcd_dvd_left n m
  · apply key
    unfold gS; split
    · exact Int.neg_dvd.mpr (Int.gcd_dvd_right n m)
    · exact Int.gcd_dvd_right n m
end L2

set_option linter.all false
namespace L2
/-! ### points of the plane by three numbers -/
structure Pt3 where
  x : Int
  y : Int
  z : Int
/-- in lowest terms at these homogeneous numbers -/
structure Is3 (A B C : Int) (r : Pt3) : Prop where
  pos : 0 < r.z
  cop : Int.gcd (Int.gcd r.z r.x) r.y = 1
  ex : ∃ d, 0 < d ∧ A = d * r.x ∧ B = d * r.y ∧ C = d * r.z
def Apart (p q : Pt3) : Prop := ¬ (p.x * q.z = q.x * p.z ∧ p.y * q.z = q.y * p.z)
theorem uniq3 {p q : Pt3} (hp : 0 < p.z) (hq : 0 < q.z) (gp : Int.gcd (Int.gcd p.z p.x) p.y = 1) (gq : Int.gcd (Int.gcd q.z q.x) q.y = 1) (h : ¬ Apart p q) : p.x = q.x ∧ p.y = q.y ∧ p.z = q.z := by
  have h' : p.x * q.z = q.x * p.z ∧ p.y * q.z = q.y * p.z := by
    unfold Apart at h; exact Decidable.of_not_not h
  have key : ∀ (a b : Pt3), Int.gcd (Int.gcd a.z a.x) a.y = 1 → a.x * b.z = b.x * a.z → a.y * b.z = b.y * a.z → a.z ∣ b.z := by
    intro a b g h1 h2
    have d1 : a.z ∣ ((Int.gcd a.z a.x : Nat) : Int) * b.z := by
      rw [← Int.dvd_natAbs, Int.natAbs_mul, Int.natAbs_natCast, ← Int.gcd_mul_right]
      exact Int.dvd_coe_gcd ⟨b.z, rfl⟩ ⟨b.x, by rw [h1, Int.mul_comm]⟩
    have d2 : a.z ∣ a.y * b.z := ⟨b.y, by rw [h2, Int.mul_comm]⟩
    have d3 : a.z ∣ ((Int.gcd ((Int.gcd a.z a.x : Nat) : Int) a.y : Nat) : Int) * b.z := by
      rw [← Int.dvd_natAbs, Int.natAbs_mul, Int.natAbs_natCast, ← Int.gcd_mul_right]
      exact Int.dvd_coe_gcd d1 d2
    rw [g] at d3
    simpa using d3
  have z1 := key p q gp h'.1 h'.2
  have z2 := key q p gq h'.1.symm h'.2.symm
  have ez : p.z = q.z := Int.dvd_antisymm (by omega) (by omega) z1 z2
  refine ⟨?_, ?_, ez⟩
  · have := h'.1
    rw [ez] at this
    exact Int.eq_of_mul_eq_mul_right (by omega) this
  · have := h'.2
    rw [ez] at this
    exact Int.eq_of_mul_eq_mul_right (by omega) this
theorem pt_has {a b c : Int} (hc : 0 < c) : let d : Int := Int.gcd (Int.gcd c a) b; Is3 a b c ⟨a.fdiv d, b.fdiv d, c.fdiv d⟩ ∧ 0 < d := by
  intro d
  have p1 : 0 < Int.gcd c a := Int.gcd_pos_of_ne_zero_left a (by omega)
  have p2 : 0 < Int.gcd ((Int.gcd c a : Nat) : Int) b := Int.gcd_pos_of_ne_zero_left b (by omega)
  have hd : 0 < d := by show 0 < ((Int.gcd ((Int.gcd c a : Nat) : Int) b : Nat) : Int); omega
  have dg : d ∣ ((Int.gcd c a : Nat) : Int) := Int.gcd_dvd_left _ _
  obtain ⟨z, hz⟩ : d ∣ c := Int.dvd_trans dg (Int.gcd_dvd_left c a)
  obtain ⟨x, hx⟩ : d ∣ a := Int.dvd_trans dg (Int.gcd_dvd_right c a)
  obtain ⟨y, hy⟩ : d ∣ b := Int.gcd_dvd_right _ _
  have ex : a.fdiv d = x := by
    conv => lhs; arg 1; rw [hx]
    exact fdiv_mul_self (by omega)
  have ey : b.fdiv d = y := by
    conv => lhs; arg 1; rw [hy]
    exact fdiv_mul_self (by omega)
  have ez : c.fdiv d = z := by
    conv => lhs; arg 1; rw [hz]
    exact fdiv_mul_self (by omega)
  rw [ex, ey, ez]
  refine ⟨⟨?_, ?_, d, hd, hx, hy, hz⟩, hd⟩
  · show 0 < z
    by_cases h : 0 < z
    · exact h
    · have := Int.mul_nonpos_of_nonneg_of_nonpos (a := d) (b := z) (by omega) (by omega)
      omega
  · show Int.gcd ((Int.gcd z x : Nat) : Int) y = 1
    have h1 : Int.gcd c a = d.natAbs * Int.gcd z x := by
      conv => lhs; rw [hz, hx]
      exact Int.gcd_mul_left d z x
    have h2 : d.natAbs = d.natAbs * Int.gcd ((Int.gcd z x : Nat) : Int) y := by
      have h3 : ((Int.gcd c a : Nat) : Int) = d * ((Int.gcd z x : Nat) : Int) := by
        rw [h1]
        have : ((d.natAbs : Nat) : Int) = d := by omega
        rw [Int.natCast_mul, this]
      have h4 : Int.gcd ((Int.gcd c a : Nat) : Int) b = d.natAbs * Int.gcd ((Int.gcd z x : Nat) : Int) y := by
        conv => lhs; rw [h3, hy]
        exact Int.gcd_mul_left d _ y
      exact h4
    have h5 : d.natAbs * 1 = d.natAbs * Int.gcd ((Int.gcd z x : Nat) : Int) y := by rw [Nat.mul_one]; exact h2
    exact (Nat.eq_of_mul_eq_mul_left (by omega) h5).symm
theorem Is3.le {A B C : Int} {r : Pt3} (h : Is3 A B C r) : r.x.natAbs ≤ A.natAbs ∧ r.y.natAbs ≤ B.natAbs ∧ r.z.natAbs ≤ C.natAbs := by
  obtain ⟨d, hd, e1, e2, e3⟩ := h.ex
  have key : ∀ z, z.natAbs ≤ (d * z).natAbs := fun z => by
    rw [Int.natAbs_mul]
    calc z.natAbs = 1 * z.natAbs := (Nat.one_mul _).symm
      _ ≤ d.natAbs * z.natAbs := Nat.mul_le_mul_right _ (by omega)
  exact ⟨by rw [e1]; exact key _, by rw [e2]; exact key _, by rw [e3]; exact key _⟩
end L2

set_option linter.all false
set_option maxRecDepth 100000
set_option maxHeartbeats 4000000
namespace L2
open PySem PySem.Spec PyProof.Rows
section
variable {X : Cx}
def rGetL (K : PySem.W.Frag) : V → V → Hp → VK → Prop := fun x y H Q => ∃ p xs i v, x = .ref p ∧ y = .int i ∧ 0 ≤ i ∧ SqL K H p xs ∧ atI xs i = some v ∧ Q v H
theorem get_list : PGet X (rGetL X.K) := by
  intro pins s σ H x y v u Q I rx ry h
  obtain ⟨p, xs, i, z, rfl, rfl, h0, hq, he, q⟩ := h
  cases rx
  obtain ⟨t, rfl⟩ := ry
  obtain ⟨its, r, pl, hz⟩ := I.list hq
  obtain ⟨j, h1, h2, h3, h4, h5⟩ := atI_get he
  obtain ⟨w, ew, rw'⟩ := r.get h2
  have hn := line63
  have hj : i.toNat = j := by
    rw [seqIndex_of h0 h5] at h1
    exact Option.some.inj h1
  exact wpAny_getItem_list pl.isList h0 (by omega) (by rw [hj]; simpa using ew) ⟨z, H, I, rw', q⟩
end
section
variable {σ : St} {H : Hp} {D : Ends} {rest : TS} {te to ti : TE} {v : V} {p : Addr} {xs : List V} {k i : Int} {j : Nat}
theorem st_put (h : Pu te σ H v) (ho : Pu to σ H (.ref p)) (hi : Pu ti σ H (.int k)) (hp : H p = some (.lst xs)) (hj : ixN xs.length k = some j) (q : rest D σ (upd H p (.lst (xs.set j v)))) : tSeq (tAsg te (gSub to ti rSetL)) rest D σ H :=
  h _ (ho _ (hi _ ⟨p, xs, k, j, rfl, rfl, hp, hj, q⟩))
theorem st_put1 (h : Pu te σ H v) (ho : Pu to σ H (.ref p)) (hi : Pu ti σ H (.int k)) (hp : H p = some (.lst xs)) (hj : ixN xs.length k = some j) (q : D.nx σ (upd H p (.lst (xs.set j v)))) : tAsg te (gSub to ti rSetL) D σ H :=
  h _ (ho _ (hi _ ⟨p, xs, k, j, rfl, rfl, hp, hj, q⟩))
theorem st_augI {K : PySem.W.Frag} {f : Int → Int → Int} {a b : Int} (ho : Pu to σ H (.ref p)) (hi : Pu ti σ H (.int k)) (h0 : 0 ≤ k) (hp : H p = some (.lst xs)) (ha : atI xs k = some (.int a)) (h : Pu te σ H (.int b)) (hj : ixN xs.length k = some j)
    (q : rest D σ (upd H p (.lst (xs.set j (.int (f a b)))))) : tSeq (tAugS to ti te (rGetL K) (ipI f) rSetL) rest D σ H :=
  ho _ (hi _ ⟨p, xs, k, .int a, rfl, rfl, h0, SqL.of hp, ha, h _ ⟨a, b, rfl, rfl, p, xs, k, j, rfl, rfl, hp, hj, q⟩⟩)
theorem st_while {c : TT} {tb : TS} (Pv : St → Hp → Prop) (μ : St → Hp → Nat) (h0 : Pv σ H)
    (hs : ∀ σ H, Pv σ H → ∃ b, PuT c σ H b ∧ (b = true → tb { D with nx := fun σ' H' => Pv σ' H' ∧ μ σ' H' < μ σ H, ct := fun σ' H' => Pv σ' H' ∧ μ σ' H' < μ σ H, bk := rest D } σ H) ∧ (b = false → rest D σ H)) :
    tSeq (tWhile c tb) rest D σ H := by
  refine ⟨fun m σ H => m = μ σ H ∧ Pv σ H, ⟨_, rfl, h0⟩, ?_⟩
  rintro m σ H ⟨rfl, p⟩
  obtain ⟨b, hb, h1, h2⟩ := hs σ H p
  refine hb _ ?_
  cases b with
  | true => rw [if_pos rfl]; exact ⟨_, fun σ' H' ⟨p', l⟩ => ⟨_, l, rfl, p'⟩, h1 rfl⟩
  | false => rw [if_neg Bool.false_ne_true]; exact h2 rfl
/-- for k in range(n) -/
theorem st_range {g : TG} {tb : TS} {ta : TA} {n : Int} (ha : PuA ta σ H [.int n]) (h1 : -(2 ^ 62) ≤ n) (h2 : n < 2 ^ 62) (Pv : Nat → St → Hp → Prop) (h0 : Pv 0 σ H)
    (hs : ∀ (i : Nat) σ H, i < n.toNat → Pv i σ H → g (.int (0 + i)) σ H fun σ2 H2 => tb { D with nx := Pv (i + 1), ct := Pv (i + 1), bk := rest D } σ2 H2) (hd : ∀ σ H, Pv n.toNat σ H → rest D σ H) :
    tSeq (tFor (iRng1 ta) g tb) rest D σ H :=
  ha _ ⟨n, rfl, h1, h2, for_range (D := { D with nx := rest D }) Pv h0 hs hd⟩
theorem st_rangeG {g : TG} {tb : TS} {ta : TA} {R : List V → Hp → Prop} (ha : GvA ta σ H R)
    (hr : ∀ vs H1, R vs H1 → ∃ n : Int, vs = [.int n] ∧ -(2 ^ 62) ≤ n ∧ n < 2 ^ 62 ∧ ∃ Pv : Nat → St → Hp → Prop, Pv 0 σ H1 ∧
    (∀ (i : Nat) σ H, i < n.toNat → Pv i σ H → g (.int (0 + i)) σ H fun σ2 H2 => tb { D with nx := Pv (i + 1), ct := Pv (i + 1), bk := rest D } σ2 H2) ∧ (∀ σ H, Pv n.toNat σ H → rest D σ H)) :
    tSeq (tFor (iRng1 ta) g tb) rest D σ H :=
  ha _ fun vs H1 r => by
    obtain ⟨n, rfl, h1, h2, Pv, h0, hs, hd⟩ := hr vs H1 r
    exact ⟨n, rfl, h1, h2, for_range (D := { D with nx := rest D }) Pv h0 hs hd⟩
/-- for x in xs -/
theorem st_list {K : PySem.W.Frag} {g : TG} {tb : TS} {a : Addr} (ha : Pu te σ H (.ref a)) (Pv : Nat → St → Hp → Prop) (h0 : Pv 0 σ H) (hl : ∀ i σ H, i ≤ xs.length → Pv i σ H → SqL K H a xs)
    (hs : ∀ (i : Nat) x σ H, xs[i]? = some x → Pv i σ H → g x σ H fun σ2 H2 => tb { D with nx := Pv (i + 1), ct := Pv (i + 1), bk := rest D } σ2 H2) (hd : ∀ σ H, Pv xs.length σ H → rest D σ H) :
    tSeq (tFor (iList K te) g tb) rest D σ H :=
  ha _ ⟨a, rfl, ⟨xs, hl 0 σ H (Nat.zero_le _) h0⟩, for_list (D := { D with nx := rest D }) Pv h0 hl hs hd⟩
end
theorem kit_int_bool {K : PySem.W.Frag} : PySem.W.kitOne K (.type "int") (.type "bool") = some false := by
  unfold PySem.W.kitOne
  rw [if_neg (by decide)]
  show (if PySem.W.kitMeta "bool" = true then (PySem.fastBuiltinMro "int").map (·.contains (Value.type "bool")) else none) = some false
  decide +kernel
/-- a tuple of ints that is tracked -/
def TupT (H : Hp) (v : V) (ns : List Int) : Prop := ∃ a, v = .ref a ∧ H a = some (.tup (ns.map V.int))
theorem TupT.same {H H' : Hp} {v : V} {ns : List Int} (h : TupT H v ns) (e : Same H H') : TupT H' v ns := by
  obtain ⟨a, rfl, h⟩ := h
  exact ⟨a, rfl, e _ _ h⟩
theorem TupT.sameB {H H' : Hp} {l : Addr} {ys : List V} {v : V} {ns : List Int} (h : TupT H v ns) (e : SameB l H H') (hl : H l = some (.lst ys)) : TupT H' v ns := by
  obtain ⟨a, rfl, h⟩ := h
  exact ⟨a, rfl, e _ _ h (ne_of h hl (by intro z; cases z))⟩
theorem TupT.of {H : Hp} {a : Addr} {ns : List Int} (h : H a = some (.tup (ns.map V.int))) : TupT H (.ref a) ns := ⟨a, rfl, h⟩
theorem Bd.small {i : Int} {n : Nat} (h : i.natAbs < 2 ^ 64 := by decide) (e : 64 ≤ n := by decide) : Bd n i := Bd.mono (m := 64) h e
/-! ### no cell in a block -/
theorem noCells {names : List (Str × NameKind)} {cl : List (Str × Addr)} (h : (names.all fun p => p.2 != .cell && p.2 != .free) = true) : ∀ y, (names.lookup y = some .cell ∨ names.lookup y = some .free) → ∃ c, cl.lookup y = some c := by
  intro y hy
  exfalso
  have key : ∀ (l : List (Str × NameKind)) (k : NameKind), l.lookup y = some k → ∃ p ∈ l, p.2 = k := by
    intro l k
    induction l with
    | nil => intro e; cases e
    | cons p r ih =>
      intro e
      rw [List.lookup_cons] at e
      split at e
      · exact ⟨p, List.mem_cons_self, Option.some.inj e⟩
      · obtain ⟨q, hq, eq⟩ := ih e
        exact ⟨q, List.mem_cons_of_mem _ hq, eq⟩
  rw [List.all_eq_true] at h
  rcases hy with e | e
  · obtain ⟨p, hp, eq⟩ := key _ _ e
    have := h p hp
    rw [eq] at this
    exact absurd this (by decide)
  · obtain ⟨p, hp, eq⟩ := key _ _ e
    have := h p hp
    rw [eq] at this
    exact absurd this (by decide)
/-! ### the greatest common divisor -/
theorem gcd_step {x y : Int} (h1 : 0 ≤ x) (h2 : 0 ≤ y) : Int.gcd y (x.fmod y) = Int.gcd x y := by
  rw [Int.fmod_eq_emod_of_nonneg _ h2]
  obtain ⟨m, rfl⟩ := Int.eq_ofNat_of_zero_le h1
  obtain ⟨n, rfl⟩ := Int.eq_ofNat_of_zero_le h2
  rw [← Int.natCast_emod]
  show Nat.gcd n (m % n) = Nat.gcd m n
  rw [Nat.gcd_comm, ← Nat.gcd_rec, Nat.gcd_comm]
theorem fmod_lt {x y : Int} (h2 : 0 < y) : 0 ≤ x.fmod y ∧ x.fmod y < y := by
  rw [Int.fmod_eq_emod_of_nonneg _ (Int.le_of_lt h2)]
  exact ⟨Int.emod_nonneg _ (by omega), Int.emod_lt_of_pos _ h2⟩
theorem gcd_zero (x : Int) (h : 0 ≤ x) : ((Int.gcd x 0 : Nat) : Int) = x := by
  rw [Int.gcd_zero_right]; omega
theorem gcd_pos {a b : Int} (h : b ≠ 0) : 0 < Int.gcd a b := Int.gcd_pos_of_ne_zero_right a h
theorem Bd.gcd_right {n : Nat} {a b : Int} (hb : b ≠ 0) (h : Bd n b) : Bd n (Int.gcd a b : Int) := by
  refine h.le ?_
  exact Nat.le_of_dvd (by omega) (Int.gcd_dvd_natAbs_right a b)
theorem gS_ne {a b : Int} (h : b ≠ 0) : gS a b ≠ 0 := by
  have := gcd_pos (a := a) h
  unfold gS; split <;> omega
theorem gS_bd {n : Nat} {a b : Int} (h : b ≠ 0) (hb : Bd n b) : Bd n (gS a b) := by
  have := Bd.gcd_right (a := a) h hb
  unfold gS; split
  · exact this.neg
  · exact this
/-! ### more statements -/
section
variable {σ : St} {H : Hp} {D : Ends} {rest : TS} {te : TE} {b : Bool} {k : Nat} {v0 : V}
theorem st_ifN {tc : TT} {t : TS} (h : PuT tc σ H b) (q1 : b = true → t { D with nx := rest D } σ H) (q2 : b = false → rest D σ H) : tSeq (tIfS tc t tNext) rest D σ H := st_if h q1 q2
theorem st_ifNG {tc : TT} {t : TS} {R : Bool → Hp → Prop} (h : GvT tc σ H R) (q1 : ∀ H', R true H' → t { D with nx := rest D } σ H') (q2 : ∀ H', R false H' → rest D σ H') : tSeq (tIfS tc t tNext) rest D σ H := st_ifG h q1 q2
theorem st_ifN1 {tc : TT} {t : TS} (h : PuT tc σ H b) (q1 : b = true → t D σ H) (q2 : b = false → D.nx σ H) : tIfS tc t tNext D σ H := st_if1 h q1 q2
theorem st_ifSet {tc : TT} {R : V → Hp → Prop} (hc : PuT tc σ H b) (he : b = true → Gv te σ H R) (h0 : σ.set k (some v0) = σ) (r0 : b = false → R v0 H) (q : ∀ v H', R v H' → rest D (σ.set k (some v)) H') :
    tSeq (tIfS tc (tAsg te (gName k)) tNext) rest D σ H := by
  refine st_if hc (fun e => st_setG1 (he e) q) fun e => ?_
  have := q v0 H (r0 e)
  rw [h0] at this
  exact this
end
section
variable {σ : St} {H : Hp} {D : Ends} {rest : TS} {te to : TE} {l : Addr} {xs : List V} {K : PySem.W.Frag}
theorem st_app1 {R : V → Hp → Prop} (ho : Pu to σ H (.ref l)) (hl : H l = some (.lst xs)) (he : Gv te σ H R) (q : ∀ v H', R v H' → ∃ ys, H' l = some (.lst ys) ∧ ys.length < sizeLine ∧ D.nx σ (upd H' l (.lst (ys ++ [v])))) :
    tDrop (tBM K "list" rAppend to (tCons te tNil)) D σ H :=
  ho _ ⟨.inl ⟨rfl, _, SqL.of hl⟩, he _ fun v H' r => by
    obtain ⟨ys, h1, h2, h3⟩ := q v H' r
    exact ⟨l, ys, v, rfl, rfl, h1, h2, h3⟩⟩
end
/-! ### comprehensions by what they give -/
section
variable {σ : St} {H : Hp} {te tl : TE} {fr : St → St} {k : Nat} {K : PySem.W.Frag}
/-- over a tuple, the element's value hangs on the item alone -/
theorem gv_compP {a : Addr} {xs : List V} (f : V → V) (hl : Pu tl σ H (.ref a)) (ha : SqT K H a xs) (hz : xs.length ≤ 1000) (hk : ∀ x, KeepS (fr σ) ((fr σ).set k (some x)))
    (hs : ∀ x ∈ xs, ∀ H', Same H H' → Pu te ((fr σ).set k (some x)) H' (f x)) : Gv (tComp (iTup K tl) fr (gName k) te) σ H (fun v H' => ∃ D, H D = none ∧ v = .ref D ∧ H' = upd H D (.lst (xs.map f))) := by
  intro Q g
  refine hl _ ⟨a, rfl, ⟨xs, ha⟩, fun D hD => ?_⟩
  refine ⟨fun i m ys H' => m = xs.length - i ∧ i ≤ xs.length ∧ ys = (xs.take i).map f ∧ H' = upd H D (.lst ys), ⟨_, rfl, Nat.zero_le _, rfl, rfl⟩, ?_⟩
  rintro i m ys H' ⟨rfl, hi, rfl, rfl⟩
  have s' : Same H (upd H D (.lst ((xs.take i).map f))) := Same.upd hD
  by_cases hlt : i < xs.length
  · refine .inr ⟨⟨xs, xs[i], s'.tup ha, by simp [hlt]⟩, ?_, fun x H3 y => ?_⟩
    · rw [List.length_map, List.length_take]; exact small1000 (by omega)
    obtain ⟨e, y⟩ := y
    subst e
    have ex := y xs (s'.tup ha)
    refine ⟨hk x, hs x (List.mem_of_getElem? ex) _ s' _ ⟨upd_same, xs.length - (i + 1), by omega, rfl, hlt, ?_, ?_⟩⟩
    · rw [List.take_succ, ex]; simp
    · rw [upd_upd]
  · have e : i = xs.length := by omega
    subst e
    refine .inl ⟨⟨xs, s'.tup ha, Nat.le_refl _⟩, g _ _ ⟨D, hD, rfl, by rw [List.take_length]⟩⟩
/-- over a range, by what holds between two turns -/
theorem gv_compR {ta : TA} {n : Int} (Pv : Addr → Nat → List V → Hp → Prop) (ha : PuA ta σ H [.int n]) (h1 : -(2 ^ 62) ≤ n) (h2 : n < 2 ^ 62) (hk : ∀ x, KeepS (fr σ) ((fr σ).set k (some x)))
    (h0 : ∀ D, H D = none → Pv D 0 [] (upd H D (.lst [])))
    (hs : ∀ D (i : Nat) ys H', H D = none → i < n.toNat → Pv D i ys H' → ys.length < sizeLine ∧ Gv te ((fr σ).set k (some (.int (0 + i)))) H' (fun y H4 => H4 D = some (.lst ys) ∧ Pv D (i + 1) (ys ++ [y]) (upd H4 D (.lst (ys ++ [y]))))) :
    Gv (tComp (iRng1 ta) fr (gName k) te) σ H (fun v H' => ∃ D ys, H D = none ∧ v = .ref D ∧ Pv D n.toNat ys H') := by
  intro Q g
  refine ha _ ⟨n, rfl, h1, h2, fun D hD => ?_⟩
  refine ⟨fun i m ys H' => m = n.toNat - i ∧ i ≤ n.toNat ∧ Pv D i ys H', ⟨_, rfl, Nat.zero_le _, h0 D hD⟩, ?_⟩
  rintro i m ys H' ⟨rfl, hi, p⟩
  by_cases hlt : i < n.toNat
  · obtain ⟨z1, z2⟩ := hs D i ys H' hD hlt p
    refine .inr ⟨hlt, z1, fun x H3 y => ?_⟩
    obtain ⟨e, y⟩ := y
    subst e y
    exact ⟨hk _, z2 _ fun v H4 r => ⟨r.1, n.toNat - (i + 1), by omega, rfl, hlt, r.2⟩⟩
  · have e : i = n.toNat := by omega
    subst e
    exact .inl ⟨Nat.le_refl _, g _ _ ⟨D, ys, hD, rfl, p⟩⟩
/-- all(..) of a list of bools, laid by the argument -/
theorem gv_all {R : V → Hp → Prop} (bs : List Bool) (h : Gv te σ H R) (f : ∀ v H', R v H' → ∃ p : Addr, v = .ref p ∧ SqL K H' p (bs.map V.bl)) :
    Gv (tCB (fun xs H Q => ∃ (p : Addr) (bs : List Bool), xs = [.ref p] ∧ SqL K H p (bs.map V.bl) ∧ Q (.bl (bs.all id)) H) (tCons te tNil)) σ H (fun v H' => (∃ p : Addr, R (.ref p) H') ∧ v = .bl (bs.all id)) := by
  intro Q g
  refine h _ fun v H' r => ?_
  obtain ⟨p, rfl, hp⟩ := f v H' r
  exact ⟨p, bs, rfl, hp, g _ _ ⟨⟨p, r⟩, rfl⟩⟩
theorem gv_andG {ta tb : TE} {R R' : V → Hp → Prop} (h : Gv ta σ H R) (f : ∀ v H', R v H' → ∃ c, v = .bl c ∧ (c = true → Gv tb σ H' R') ∧ (c = false → R' (.bl false) H')) : Gv (tAndV ta tb) σ H R' := by
  intro Q g
  refine h _ fun v H' r => ?_
  obtain ⟨c, rfl, h1, h2⟩ := f v H' r
  refine ⟨c, rfl, ?_⟩
  cases c with
  | true => rw [if_pos rfl]; exact h1 rfl Q g
  | false => rw [if_neg Bool.false_ne_true]; exact g _ _ (h2 rfl)
end
/-! ### tuples in lists -/
def TupsT (H : Hp) (vs : List V) (nss : List (List Int)) : Prop := Paired (TupT H) vs nss
theorem TupsT.mono {H H' : Hp} {vs : List V} {nss : List (List Int)} (h : TupsT H vs nss) (f : ∀ v ns, TupT H v ns → TupT H' v ns) : TupsT H' vs nss := Paired.mapP h f
theorem TupsT.snoc {H : Hp} {vs : List V} {nss : List (List Int)} {v : V} {ns : List Int} (h : TupsT H vs nss) (x : TupT H v ns) : TupsT H (vs ++ [v]) (nss ++ [ns]) := Paired.snoc h x
theorem TupsT.len {H : Hp} {vs : List V} {nss : List (List Int)} (h : TupsT H vs nss) : vs.length = nss.length := Paired.length h
/-! ### the hand of a law -/
def HandAt (H : Hp) (hd sc : Addr) : Prop := ∃ (ns : List Int) (i b c p q : Int), H hd = some (.lst [.ref sc, .int i, .int b, .int c, .int p, .int q]) ∧ H sc = some (.lst (ns.map V.int)) ∧ 0 ≤ i
theorem HandAt.ne {H : Hp} {hd sc : Addr} {ns : List Int} {i b c p q : Int} (h1 : H hd = some (.lst [.ref sc, .int i, .int b, .int c, .int p, .int q])) (h2 : H sc = some (.lst (ns.map V.int))) : sc ≠ hd := by
  intro e
  subst e
  rw [h1] at h2
  cases ns with
  | nil => simp at h2
  | cons n r => simp at h2
theorem HandAt.same {H H' : Hp} {hd sc : Addr} (h : HandAt H hd sc) (e : Same H H') : HandAt H' hd sc := by
  obtain ⟨ns, i, b, c, p, q, h1, h2, h0⟩ := h
  exact ⟨ns, i, b, c, p, q, e _ _ h1, e _ _ h2, h0⟩
theorem HandAt.ls {H : Hp} {hd sc : Addr} (h : HandAt H hd sc) : ∃ ys, H hd = some (.lst ys) := by
  obtain ⟨ns, i, b, c, p, q, h1, _⟩ := h
  exact ⟨_, h1⟩
theorem HandAt.fresh {H : Hp} {hd sc l : Addr} (h : HandAt H hd sc) (hl : H l = none) : l ≠ hd ∧ l ≠ sc := by
  obtain ⟨ns, i, b, c, p, q, h1, h2, _⟩ := h
  exact ⟨Ne.symm (ne_of_none h1 hl), Ne.symm (ne_of_none h2 hl)⟩
theorem HandAt.upd {H : Hp} {hd sc l : Addr} {o : HO} (h : HandAt H hd sc) (n : l ≠ hd ∧ l ≠ sc) : HandAt (upd H l o) hd sc := by
  obtain ⟨ns, i, b, c, p, q, h1, h2, h0⟩ := h
  exact ⟨ns, i, b, c, p, q, by rw [upd_ne (Ne.symm n.1)]; exact h1, by rw [upd_ne (Ne.symm n.2)]; exact h2, h0⟩
end L2

set_option linter.all false
set_option maxRecDepth 100000
set_option maxHeartbeats 4000000
namespace L2
open PySem PySem.Spec PyProof.Rows
/-- a point laid as a tuple; how long its numbers are -/
def AtP (H : Hp) (v : V) (p : Pt3) : Prop := TupT H v [p.x, p.y, p.z]
structure Sz (n : Nat) (p : Pt3) : Prop where
  x : Bd n p.x
  y : Bd n p.y
  z : Bd n p.z
theorem Sz.is3 {n : Nat} {A B C : Int} {r : Pt3} (h : Is3 A B C r) (a : Bd n A) (b : Bd n B) (c : Bd n C) : Sz n r := ⟨a.le h.le.1, b.le h.le.2.1, c.le h.le.2.2⟩
/-! ### sums of fractions -/
def L3 (p : Pt3) : List Int := [p.x, p.y, p.z]
/-! ### a comprehension that catches one name -/
theorem lookup_one {y y' : Str} {c c' : Addr} (h : List.lookup y' [(y, c)] = some c') : y' = y ∧ c' = c := by
  rw [List.lookup_cons] at h
  split at h
  · rename_i e
    exact ⟨eq_of_beq e, (Option.some.inj h).symm⟩
  · cases h
theorem lookup_mem {names : List (Str × NameKind)} {y : Str} {k : NameKind} (e : names.lookup y = some k) : (y, k) ∈ names := by
  induction names with
  | nil => cases e
  | cons p r ih =>
    rw [List.lookup_cons] at e
    split at e
    · rename_i h
      have h' : y = p.1 := eq_of_beq h
      have e' : p.2 = k := Option.some.inj e
      rw [h', ← e']
      exact List.mem_cons_self
    · exact List.mem_cons_of_mem _ (ih e)
/-! ### lists of points -/
/-- the list at l holds these points -/
def LP (H : Hp) (l : Addr) (ps : List Pt3) : Prop := ∃ ys, H l = some (.lst ys) ∧ TupsT H ys (ps.map L3)
theorem LP.same {H H' : Hp} {l : Addr} {ps : List Pt3} (h : LP H l ps) (s : Same H H') : LP H' l ps := by
  obtain ⟨ys, h1, h2⟩ := h
  exact ⟨ys, s _ _ h1, h2.mono fun _ _ x => x.same s⟩
end L2

set_option linter.all false
namespace L2
/-! ### what two sides share -/
theorem Pt3.ext' {p q : Pt3} (h1 : p.x = q.x) (h2 : p.y = q.y) (h3 : p.z = q.z) : p = q := by
  cases p; cases q; simp only at h1 h2 h3; subst h1 h2 h3; rfl
structure Lp (p : Pt3) : Prop where
  pos : 0 < p.z
  cop : Int.gcd (Int.gcd p.z p.x) p.y = 1
theorem Lp.eq {p q : Pt3} (hp : Lp p) (hq : Lp q) (h : ¬ Apart p q) : p = q := by
  obtain ⟨h1, h2, h3⟩ := uniq3 hp.pos hq.pos hp.cop hq.cop h
  exact Pt3.ext' h1 h2 h3
def gS3 (a b c : Int) : Int := if c < 0 then -(Int.gcd (Int.gcd a b) c : Int) else (Int.gcd (Int.gcd a b) c : Int)
def pbF (a b c : Int) : Pt3 := ⟨a.fdiv (gS3 a b c), b.fdiv (gS3 a b c), c.fdiv (gS3 a b c)⟩
theorem gS3_ne {a b c : Int} (h : c ≠ 0) : gS3 a b c ≠ 0 := by
  have := Int.gcd_pos_of_ne_zero_right ((Int.gcd a b : Nat) : Int) h
  unfold gS3; split <;> omega
theorem gcd3_rot (x y z : Int) : Int.gcd ((Int.gcd x y : Nat) : Int) z = Int.gcd ((Int.gcd z x : Nat) : Int) y := by
  rw [Int.gcd_comm, ← Int.gcd_assoc]
theorem pb_has {a b c : Int} (h : c ≠ 0) : Lp (pbF a b c) ∧ ∃ k, k ≠ 0 ∧ a = k * (pbF a b c).x ∧ b = k * (pbF a b c).y ∧ c = k * (pbF a b c).z := by
  have hg := gS3_ne (a := a) (b := b) h
  have hp := Int.gcd_pos_of_ne_zero_right ((Int.gcd a b : Nat) : Int) h
  have key : ∀ z, ((Int.gcd ((Int.gcd a b : Nat) : Int) c : Nat) : Int) ∣ z → z = gS3 a b c * z.fdiv (gS3 a b c) := by
    intro z hz
    have : gS3 a b c ∣ z := by
      unfold gS3; split
      · exact Int.neg_dvd.mpr hz
      · exact hz
    obtain ⟨w, hw⟩ := this
    have e : z.fdiv (gS3 a b c) = w := by
      conv => lhs; arg 1; rw [hw]
      exact fdiv_mul_self hg
    rw [e]; exact hw
  have dg : ((Int.gcd ((Int.gcd a b : Nat) : Int) c : Nat) : Int) ∣ ((Int.gcd a b : Nat) : Int) := Int.gcd_dvd_left _ _
  have ea := key a (Int.dvd_trans dg (Int.gcd_dvd_left a b))
  have eb := key b (Int.dvd_trans dg (Int.gcd_dvd_right a b))
  have ec := key c (Int.gcd_dvd_right _ _)
  refine ⟨⟨?_, ?_⟩, gS3 a b c, hg, ea, eb, ec⟩
  · show 0 < c.fdiv (gS3 a b c)
    by_cases hc : c < 0
    · have hG : gS3 a b c < 0 := by unfold gS3; rw [if_pos hc]; omega
      by_cases h2 : 0 < c.fdiv (gS3 a b c)
      · exact h2
      · have := Int.mul_nonneg_of_nonpos_of_nonpos (a := gS3 a b c) (b := c.fdiv (gS3 a b c)) (by omega) (by omega)
        omega
    · have hG : 0 < gS3 a b c := by unfold gS3; rw [if_neg hc]; omega
      by_cases h2 : 0 < c.fdiv (gS3 a b c)
      · exact h2
      · have := Int.mul_nonpos_of_nonneg_of_nonpos (a := gS3 a b c) (b := c.fdiv (gS3 a b c)) (by omega) (by omega)
        omega
  · show Int.gcd ((Int.gcd (c.fdiv (gS3 a b c)) (a.fdiv (gS3 a b c)) : Nat) : Int) (b.fdiv (gS3 a b c)) = 1
    rw [← gcd3_rot]
    generalize hx : a.fdiv (gS3 a b c) = x at *
    generalize hy : b.fdiv (gS3 a b c) = y at *
    generalize hz : c.fdiv (gS3 a b c) = z at *
    have hab : (gS3 a b c).natAbs = Int.gcd ((Int.gcd a b : Nat) : Int) c := by unfold gS3; split <;> omega
    generalize gS3 a b c = G at *
    have h1 : Int.gcd a b = G.natAbs * Int.gcd x y := by
      conv => lhs; rw [ea, eb]
      exact Int.gcd_mul_left G x y
    have h2 : Int.gcd ((Int.gcd a b : Nat) : Int) c = G.natAbs * Int.gcd ((Int.gcd x y : Nat) : Int) z := by
      have e1 : Int.gcd ((Int.gcd a b : Nat) : Int) c = Int.gcd (G * ((Int.gcd x y : Nat) : Int)) (G * z) := by
        rw [← ec]
        unfold Int.gcd
        rw [Int.natAbs_mul, Int.natAbs_natCast, Int.natAbs_natCast]
        congr 1
      rw [e1, Int.gcd_mul_left]
    rw [← hab] at h2
    have h5 : G.natAbs * 1 = G.natAbs * Int.gcd ((Int.gcd x y : Nat) : Int) z := by rw [Nat.mul_one]; exact h2
    exact (Nat.eq_of_mul_eq_mul_left (by omega) h5).symm
/-! ### the order of points -/
/-! ### on one line -/
end L2

set_option linter.all false
set_option maxRecDepth 100000
set_option maxHeartbeats 4000000
namespace L2
open PySem PySem.Spec PyProof.Rows
/-! ### tuples of points -/
section
variable {σ : St} {H : Hp} {ta tb te : TE} {K : PySem.W.Frag} {x y : V} {b : Bool} {D : Ends} {rest : TS}
theorem pu_ifE {tc : TT} (h : PuT tc σ H b) (h1 : b = true → Pu ta σ H x) (h2 : b = false → Pu tb σ H x) : Pu (tIf tc ta tb) σ H x := fun Q q => h _ (by
  cases b with
  | true => rw [if_pos rfl]; exact h1 rfl Q q
  | false => rw [if_neg Bool.false_ne_true]; exact h2 rfl Q q)
theorem st_tupl {g : TG} {tb : TS} {a : Addr} {xs : List V} (ha : Pu te σ H (.ref a)) (Pv : Nat → St → Hp → Prop) (h0 : Pv 0 σ H) (hl : ∀ i σ H, i ≤ xs.length → Pv i σ H → SqT K H a xs)
    (hs : ∀ (i : Nat) x σ H, xs[i]? = some x → Pv i σ H → g x σ H fun σ2 H2 => tb { D with nx := Pv (i + 1), ct := Pv (i + 1), bk := rest D } σ2 H2) (hd : ∀ σ H, Pv xs.length σ H → rest D σ H) :
    tSeq (tFor (iTup K te) g tb) rest D σ H :=
  ha _ ⟨a, rfl, ⟨xs, hl 0 σ H (Nat.zero_le _) h0⟩, for_tup (D := { D with nx := rest D }) Pv h0 hl hs hd⟩
/-- all([is_whole(part) for part in p]) of ints -/
theorem gv_allTrue {tl : TE} {sp : Sp} {ns : List Int} {v : V} (hl : Pu tl σ H v) (hv : TupT H v ns) (hz : ns.length ≤ 1000) (hs : ∀ (n : Int) H' Q, Q (.bl true) H' → sp [.int n] H' Q E0) :
    Gv (tCB (fun xs H Q => ∃ (p : Addr) (bs : List Bool), xs = [.ref p] ∧ SqL K H p (bs.map V.bl) ∧ Q (.bl (bs.all id)) H) (tCons (tComp (iTup K tl) (fun _ => [none]) (gName 0) (tCall sp [] E0 (tCons (tVar 0) tNil))) tNil)) σ H (fun v H' => v = .bl true ∧ Same H H') := by
  obtain ⟨a, rfl, ha⟩ := hv
  refine (gv_all (List.replicate ns.length true) (gv_compP (fun _ => .bl true) hl (SqT.of ha) (by rw [List.length_map]; exact hz) (fun _ => KeepS.none1) ?_) ?_).imp ?_
  · intro x hx H' _
    obtain ⟨n, _, rfl⟩ := List.mem_map.mp hx
    exact pu_call (pa_c (pu_v rfl) pa_n) (fun Q q => hs n H' Q q)
  · rintro v H' ⟨D, hD, rfl, rfl⟩
    exact ⟨D, rfl, SqL.of (by rw [upd_same, List.map_replicate, List.map_map]; congr 2; exact List.map_const' ..)⟩
  · rintro v H' ⟨⟨p, D, hD, e1, rfl⟩, rfl⟩
    exact ⟨by simp, Same.upd hD⟩
end
section
variable {σ : St} {H : Hp} {t : TA} {RA : List V → Hp → Prop} {R : V → Hp → Prop}
theorem gv_tupA (h : GvA t σ H RA) (f : ∀ vs H1, RA vs H1 → vs.length ≤ sizeLine ∧ ∀ p, H1 p = none → R (.ref p) (upd H1 p (.tup vs))) : Gv (tTup t) σ H R := fun Q q => h _ fun vs H1 r => ⟨(f vs H1 r).1, fun p hp => q _ _ ((f vs H1 r).2 p hp)⟩
theorem gv_lstA (h : GvA t σ H RA) (f : ∀ vs H1, RA vs H1 → vs.length ≤ sizeLine ∧ ∀ p, H1 p = none → R (.ref p) (upd H1 p (.lst vs))) : Gv (tLst t) σ H R := fun Q q => h _ fun vs H1 r => ⟨(f vs H1 r).1, fun p hp => q _ _ ((f vs H1 r).2 p hp)⟩
end
theorem pu_cast {t : TE} {σ : St} {H : Hp} {v w : V} (h : Pu t σ H v) (e : v = w) : Pu t σ H w := by rw [← e]; exact h
theorem st_notTru {σ : St} {H : Hp} {D : Ends} {rest t : TS} {te : TE} {R : Hp → Prop} (h : Gv te σ H (fun v H' => v = .bl true ∧ R H')) (q : ∀ H', R H' → rest D σ H') : tSeq (tIfS (tNot (tB te)) t tNext) rest D σ H :=
  st_ifNG (R := fun b H' => b = false ∧ R H') (fun Q f => h _ fun v H' r => ⟨true, r.1, f _ _ ⟨rfl, r.2⟩⟩) (fun H' r => by cases r.1) (fun H' r => q H' r.2)
/-! ### sizes of what is told -/
end L2

set_option linter.all false
namespace L2
/-! ### just what is shared -/
end L2

set_option linter.all false
set_option maxRecDepth 100000
set_option maxHeartbeats 4000000
namespace L2
open PySem PySem.Spec PyProof.Rows
/-! ### zip -/
/-! ### the invariant behind a turn of several objects -/
/-! ### zip walked -/
/-! ### zip made -/
end L2

set_option linter.all false
set_option maxRecDepth 100000
set_option maxHeartbeats 4000000
namespace L2
open PySem PySem.Spec PyProof.Rows
/-! ### how far a point lies, how long its bottom is -/
/-! ### more readings -/
/-! ### lists of sides -/
end L2

set_option linter.all false
namespace L2
/-! ### one place, one tuple -/
theorem one_place {p r : Pt3} {k d a b c : Int} (lp : Lp p) (lr : Lp r) (hk : k ≠ 0) (hd : d ≠ 0) (a1 : a = k * p.x) (b1 : b = k * p.y) (c1 : c = k * p.z) (a2 : a = d * r.x) (b2 : b = d * r.y) (c2 : c = d * r.z) : p = r := by
  refine lp.eq lr fun ap => ap ⟨?_, ?_⟩
  · have : (k * d) * (p.x * r.z) = (k * d) * (r.x * p.z) := by
      have h1 : (k * d) * (p.x * r.z) = (k * p.x) * (d * r.z) := by grind
      have h2 : (k * d) * (r.x * p.z) = (d * r.x) * (k * p.z) := by grind
      rw [h1, h2, ← a1, ← c1, ← a2, ← c2]
    exact Int.eq_of_mul_eq_mul_left (Int.mul_ne_zero hk hd) this
  · have : (k * d) * (p.y * r.z) = (k * d) * (r.y * p.z) := by
      have h1 : (k * d) * (p.y * r.z) = (k * p.y) * (d * r.z) := by grind
      have h2 : (k * d) * (r.y * p.z) = (d * r.y) * (k * p.z) := by grind
      rw [h1, h2, ← b1, ← c1, ← b2, ← c2]
    exact Int.eq_of_mul_eq_mul_left (Int.mul_ne_zero hk hd) this
theorem pb_is3 {a b c : Int} {r : Pt3} (hc : c ≠ 0) (h : Is3 a b c r) : pbF a b c = r := by
  obtain ⟨lp, k, hk, e1, e2, e3⟩ := pb_has (a := a) (b := b) hc
  obtain ⟨d, hd, f1, f2, f3⟩ := h.ex
  exact one_place lp ⟨h.pos, h.cop⟩ hk (by omega) e1 e2 e3 f1 f2 f3
end L2

set_option linter.all false
namespace L2
end L2

set_option linter.all false
set_option maxRecDepth 100000
set_option maxHeartbeats 4000000
namespace L2
open PySem PySem.Spec PyProof.Rows
/-! ### exceptions: how one lies behind a call -/
/-! ### own classes of exceptions: each straight under one that is straight under ValueError -/
/-! ### raise -/
/-! ### a def that may raise -/
/-! ### try: name = f(..) except C as n -/
/-! ### isinstance of an exception -/
section
open PySem.W PySem.Calls Builtin Builtin.ObjectAttr Builtin.Getset_descriptor
variable {K : PySem.W.Frag} {x C : Addr}
end
end L2

set_option linter.all false
set_option maxRecDepth 100000
set_option maxHeartbeats 4000000
namespace L2
open PySem PySem.Spec PyProof.Rows
/-! ### dict(a list of pairs), the keys tuples -/
end L2

set_option linter.all false
set_option maxRecDepth 100000
set_option maxHeartbeats 4000000
namespace L2
open PySem PySem.Spec PyProof.Rows
end L2

set_option linter.all false
set_option maxRecDepth 100000
set_option maxHeartbeats 4000000
namespace L2
open PySem PySem.Spec PyProof.Rows
end L2

set_option linter.all false
set_option maxRecDepth 100000
set_option maxHeartbeats 4000000
namespace L2
open PySem PySem.Spec PyProof.Rows
/-! ### the keys walked -/
end L2

set_option linter.all false
set_option maxRecDepth 100000
set_option maxHeartbeats 4000000
namespace L2
open PySem PySem.Spec PyProof.Rows
end L2

set_option linter.all false
set_option maxRecDepth 100000
set_option maxHeartbeats 4000000
namespace L2
open PySem PySem.Spec PyProof.Rows
end L2

set_option linter.all false
set_option maxRecDepth 100000
set_option maxHeartbeats 4000000
namespace L2
open PySem PySem.Spec PyProof.Rows
end L2

set_option linter.all false
set_option maxRecDepth 100000
set_option maxHeartbeats 4000000
namespace L2
open PySem PySem.Spec PyProof.Rows PySem.W
end L2

set_option linter.all false
set_option maxRecDepth 100000
set_option maxHeartbeats 4000000
namespace L2
open PySem PySem.Spec PyProof.Rows
end L2

set_option linter.all false
set_option maxRecDepth 100000
set_option maxHeartbeats 4000000
namespace L2
open PySem PySem.Spec PyProof.Rows
theorem TupsT.lstUpd {H : Hp} {r : Addr} {zs ws : List V} {vs : List V} {nss : List (List Int)} (h : TupsT H vs nss) (e : H r = some (.lst zs)) : TupsT (upd H r (.lst ws)) vs nss := h.mono fun v ns x => by
  obtain ⟨a, rfl, ha⟩ := x
  refine ⟨a, rfl, ?_⟩
  rw [upd_ne (fun z => by subst z; rw [e] at ha; cases ha)]
  exact ha
theorem same_updNew {H H' : Hp} {r : Addr} {o : HO} (s : Same H H') (h : H r = none) : Same H (L2.upd H' r o) := fun b u e => by
  rw [upd_ne (ne_of_none e h)]
  exact s b u e
section
variable {σ : St} {H : Hp} {D : Ends} {rest : TS} {te to : TE} {l : Addr} {xs : List V} {K : PySem.W.Frag}
theorem st_app {R : V → Hp → Prop} (ho : Pu to σ H (.ref l)) (hl : H l = some (.lst xs)) (he : Gv te σ H R) (q : ∀ v H', R v H' → ∃ ys, H' l = some (.lst ys) ∧ ys.length < sizeLine ∧ rest D σ (upd H' l (.lst (ys ++ [v])))) :
    tSeq (tDrop (tBM K "list" rAppend to (tCons te tNil))) rest D σ H := st_app1 (D := { D with nx := rest D }) ho hl he q
end
end L2

set_option linter.all false
set_option maxRecDepth 100000
set_option maxHeartbeats 4000000
namespace L2
open PySem PySem.Spec PyProof.Rows
end L2

set_option linter.all false
set_option maxRecDepth 100000
set_option maxHeartbeats 4000000
namespace L2
open PySem PySem.Spec PyProof.Rows
end L2

set_option linter.all false
set_option maxRecDepth 100000
set_option maxHeartbeats 4000000
namespace L2
open PySem PySem.Spec PyProof.Rows
end L2

set_option linter.all false
set_option maxRecDepth 100000
set_option maxHeartbeats 4000000
namespace L2
open PySem PySem.Spec PyProof.Rows
/-- what is known of laid things stays, whatever list else is changed -/
structure Stays (R : Hp → Nat → Addr → Prop) : Prop where
  same : ∀ {H1 H2 : Hp} {i : Nat} {p : Addr}, R H1 i p → Same H1 H2 → R H2 i p
  but : ∀ {H1 H2 : Hp} {i : Nat} {p D : Addr} {ys : List V}, R H1 i p → p ≠ D → H1 D = some (.lst ys) → SameB D H1 H2 → R H2 i p
  here : ∀ {H1 : Hp} {i : Nat} {p : Addr}, R H1 i p → H1 p ≠ none
section
variable {σ : St} {H : Hp} {te tl : TE} {fr : St → St} {k : Nat} {K : PySem.W.Frag} {R : Hp → Nat → Addr → Prop}
/-- what such a list of laid things is -/
def Laid (R : Hp → Nat → Addr → Prop) (H : Hp) (n : Nat) (v : V) (H' : Hp) : Prop := Same H H' ∧ ∃ (D : Addr) (ps : List Addr), v = .ref D ∧ H D = none ∧ H' D = some (.lst (ps.map V.ref)) ∧ ps.length = n ∧ (∀ i p, ps[i]? = some p → R H' i p ∧ p ≠ D ∧ H p = none)
theorem laid_step (S : Stays R) {H2 H3 H4 : Hp} {D p : Addr} {ps : List Addr} {i : Nat} (hD : H D = none) (s2 : Same H H2) (hD2 : H2 D = some (.lst (ps.map V.ref))) (hl : ps.length = i) (hp : ∀ i p, ps[i]? = some p → R H2 i p ∧ p ≠ D ∧ H p = none) (s3 : Same H2 H3) (s4 : Same H3 H4) (np : H3 p = none) (r : R H4 i p) :
    H4 D = some (.lst (ps.map V.ref)) ∧ Same H (upd H4 D (.lst ((ps ++ [p]).map V.ref))) ∧ (∀ i q, (ps ++ [p])[i]? = some q → R (upd H4 D (.lst ((ps ++ [p]).map V.ref))) i q ∧ q ≠ D ∧ H q = none) := by
  have d3 := s3 _ _ hD2
  have d4 := s4 _ _ d3
  have pD : p ≠ D := fun e => by subst e; rw [d3] at np; cases np
  have hpn : H p = none := by
    cases e : H p with
    | none => rfl
    | some o => rw [s3 _ _ (s2 _ _ e)] at np; cases np
  refine ⟨d4, same_updNew (s2.trans (s3.trans s4)) hD, fun j q hq => ?_⟩
  by_cases hj : j < ps.length
  · rw [List.getElem?_append_left hj] at hq
    obtain ⟨r1, n1, f1⟩ := hp j q hq
    exact ⟨S.but (S.same r1 (s3.trans s4)) n1 d4 SameB.upd, n1, f1⟩
  · rw [List.getElem?_append_right (by omega)] at hq
    have e : j - ps.length = 0 := by
      rcases Nat.eq_zero_or_pos (j - ps.length) with e | e
      · exact e
      · rw [List.getElem?_eq_none (by simp; omega)] at hq; cases hq
    rw [e] at hq
    have e2 : p = q := by simpa using hq
    subst e2
    have e3 : j = i := by omega
    subst e3
    exact ⟨S.but r pD d4 SameB.upd, pD, hpn⟩
/-- over a list, each turn lays a new thing -/
theorem gv_compLG (S : Stays R) {a : Addr} {xs : List V} (hl : Pu tl σ H (.ref a)) (ha : H a = some (.lst xs)) (hz : xs.length ≤ 1000) (hk : ∀ x, KeepS (fr σ) ((fr σ).set k (some x)))
    (hs : ∀ i x H', xs[i]? = some x → Same H H' → Gv te ((fr σ).set k (some x)) H' (fun v H'' => Same H' H'' ∧ ∃ p, v = .ref p ∧ H' p = none ∧ R H'' i p)) :
    Gv (tComp (iList K tl) fr (gName k) te) σ H (Laid R H xs.length) := by
  intro Q g
  refine hl _ ⟨a, rfl, ⟨xs, SqL.of ha⟩, fun D hD => ?_⟩
  refine ⟨fun i m ys H2 => m = xs.length - i ∧ i ≤ xs.length ∧ Same H H2 ∧ ∃ ps : List Addr, ys = ps.map V.ref ∧ H2 D = some (.lst ys) ∧ ps.length = i ∧ ∀ i p, ps[i]? = some p → R H2 i p ∧ p ≠ D ∧ H p = none, ⟨_, rfl, Nat.zero_le _, Same.upd hD, [], rfl, upd_same, rfl, fun i p h => by simp at h⟩, ?_⟩
  rintro i m ys H2 ⟨rfl, hi, s2, ps, rfl, hD2, hpl, hps⟩
  by_cases hlt : i < xs.length
  · refine .inr ⟨⟨xs, xs[i], SqL.of (s2 _ _ ha), by simp [hlt]⟩, ?_, fun x H3 y => ?_⟩
    · rw [List.length_map]; exact small1000 (by omega)
    obtain ⟨e, y⟩ := y
    subst e
    have ex := y xs (SqL.of (s2 _ _ ha))
    refine ⟨hk x, hs i x _ ex s2 _ fun v H4 ⟨s4, p, e, np, r⟩ => ?_⟩
    subst e
    obtain ⟨d4, s5, h5⟩ := laid_step S hD s2 hD2 hpl hps (fun _ _ z => z) s4 np r
    exact ⟨d4, xs.length - (i + 1), by omega, rfl, hlt, by simpa using s5, ps ++ [p], by simp, upd_same, by simp [hpl], by simpa using h5⟩
  · have e : i = xs.length := by omega
    subst e
    exact .inl ⟨⟨xs, SqL.of (s2 _ _ ha), Nat.le_refl _⟩, g _ _ ⟨s2, D, ps, rfl, hD, hD2, hpl, hps⟩⟩
end
/-! ### rows of points, laid -/
theorem stays_row (rows : List (List Pt3)) : Stays (fun H i p => ∃ r, rows[i]? = some r ∧ LP H p r) where
  same := fun ⟨r, e, h⟩ s => ⟨r, e, h.same s⟩
  but := fun {H1 H2 i p D ys} ⟨r, e, zs, h1, h2⟩ n d s => ⟨r, e, zs, s _ _ h1 n, h2.mono fun v ns x => by
    obtain ⟨a, rfl, ha⟩ := x
    exact ⟨a, rfl, s _ _ ha (fun z => by subst z; rw [d] at ha; cases ha)⟩⟩
  here := fun ⟨r, e, zs, h1, h2⟩ z => by rw [h1] at z; cases z
end L2

set_option linter.all false
set_option maxRecDepth 100000
set_option maxHeartbeats 4000000
namespace L2
open PySem PySem.Spec PyProof.Rows
section
variable {α β : Type} {F : α → β → Prop}
theorem paired_of : ∀ {as : List α} {bs : List β}, as.length = bs.length → (∀ (i : Nat) a, as[i]? = some a → ∃ b, bs[i]? = some b ∧ F a b) → Paired F as bs
  | [], [], _, _ => .nil
  | [], b :: bs, h, _ => by simp at h
  | a :: as, [], h, _ => by simp at h
  | a :: as, b :: bs, h, g => by
    obtain ⟨c, hc, r⟩ := g 0 a rfl
    have e : b = c := by simpa using hc
    subst e
    exact .cons r (paired_of (by simpa using h) fun i x hx => by
      obtain ⟨y, hy, r⟩ := g (i + 1) x (by simpa using hx)
      exact ⟨y, by simpa using hy, r⟩)
theorem paired_get : ∀ {as : List α} {bs : List β} {i : Nat} {a : α}, Paired F as bs → as[i]? = some a → ∃ b, bs[i]? = some b ∧ F a b
  | _, _, _, _, .nil, h => by simp at h
  | _, _, 0, a, .cons r t, h => by
    simp only [List.getElem?_cons_zero, Option.some.injEq] at h
    subst h
    exact ⟨_, rfl, r⟩
  | _, _, i + 1, a, .cons r t, h => by
    obtain ⟨y, hy, r⟩ := paired_get (i := i) t (by simpa using h)
    exact ⟨y, by simpa using hy, r⟩
theorem paired_len : ∀ {as : List α} {bs : List β}, Paired F as bs → as.length = bs.length
  | _, _, .nil => rfl
  | _, _, .cons r t => by simp [paired_len t]
theorem paired_mono {G : α → β → Prop} : ∀ {as : List α} {bs : List β}, Paired F as bs → (∀ a b, F a b → G a b) → Paired G as bs
  | _, _, .nil, _ => .nil
  | _, _, .cons r t, f => .cons (f _ _ r) (paired_mono t f)
end
theorem LP.but {H1 H2 : Hp} {p D : Addr} {ys : List V} {r : List Pt3} (h : LP H1 p r) (n : p ≠ D) (d : H1 D = some (.lst ys)) (s : SameB D H1 H2) : LP H2 p r := by
  obtain ⟨zs, h1, h2⟩ := h
  refine ⟨zs, s _ _ h1 n, h2.mono fun v ns x => ?_⟩
  obtain ⟨a, rfl, ha⟩ := x
  exact ⟨a, rfl, s _ _ ha (fun z => by subst z; rw [d] at ha; cases ha)⟩
end L2

set_option linter.all false
set_option maxRecDepth 100000
set_option maxHeartbeats 4000000
namespace L2
open PySem PySem.Spec PyProof.Rows
section
variable {X : Cx}
/-- a comprehension's reading, whatever is done with its list at the end (a name may take it before the block is left) -/
def CompR (X : Cx) (e : Expr) (scope : Scope) (iter : Expr) (t : TE) : Prop := ∀ (pins : List (Addr × Obj)) (s : Shared) (σ : St) (H : Hp) (Q : VK) (use : Option (Value → Sem Unit)) (Q' : Value → Shared → Prop) (fpos : Pos), Inv X pins σ H s → t σ H Q →
  (∀ D C m s5 H4 r, s5.heap.Ns C m → FpOk X pins H4 C → Inv X pins σ H4 s5 → Q (.ref D) H4 → compPost (model X.prog X.w) X.A X.xe use Q' (.ref D) C (.ok r) s5) →
  wpAny (model X.prog X.w) X.A (comprehension e scope X.env fpos (newList []) false (eval iter X.env) use) Q' X.xe s
theorem cr_lcomp {tg elt iter : Expr} {scope : Scope} {cl : List (Str × Addr)} {pos : Pos} {N' : List Str} {wi : TI} {fr : St → St} {g : TG} {te : TE}
    (hc : X.calm = true) (hi : PI X tg iter wi)
    (hg : ∀ C fp s0 H0, PG (blk X N' scope cl C fp s0 H0) tg g) (he : ∀ C fp s0 H0, PE (blk X N' scope cl C fp s0 H0) elt te)
    (hclos : closureFor scope X.env = pure cl) (hkind : scope.kind = .function) (hnames : ∀ x ∈ scope.names, x.2 = .local → scope.names.lookup x.1 = some .local) (hcell : ∀ y ∈ scope.names, y.2 ≠ .cell)
    (hcl : ∀ y c, cl.lookup y = some c → X.env.cells.lookup y = some c) (hhas : ∀ y, ((relabel scope X.env).names.lookup y = some .cell ∨ (relabel scope X.env).names.lookup y = some .free) → ∃ c, cl.lookup y = some c)
    (hfl : ∀ σ : St, σ.length = X.N.length → (fr σ).length = N'.length)
    (hfr : ∀ (σ : St) (i : Nat) (y : Str) (v : V), N'[i]? = some y → (fr σ)[i]? = some (some v) → ∃ j : Nat, X.N[j]? = some y ∧ σ[j]? = some (some v) ∧ X.env.kindOf y = some .cell ∧ (relabel scope X.env).names.lookup y = some .cell)
    (hs : ∀ x, foldedSetIterable iter X.env x = pure x := by intro _; rfl) :
    CompR X (.ListComp elt [⟨tg, iter, [], 0⟩] scope pos) scope iter (tComp wi fr g te) := by
  intro pins s σ H Q use Q' fpos I h fin
  refine wpAny_comprehension_free (use := use) rfl hs hclos hkind hnames ?_
  refine thn (hi pins s σ H _ I h) fun v s1 h1 => thn h1 fun itv s2 h2 => ?_
  obtain ⟨it, fp, tn, J, H2, rfl, I2, T, st2, f2, q2⟩ := h2
  have D0 : H2 s2.heap.objs.size = none := I2.hok.fresh (Nat.le_refl _)
  obtain ⟨W, ⟨m0, w0⟩, turn⟩ := q2 _ D0
  refine wpAny_newObj_type (wpAny_newFunctionEnv hcell (by intro y hy; simp at hy) (fun h₁ hns₁ hsb₁ => ?_) hkind)
  dsimp only at hns₁ hsb₁ ⊢
  have I3 : Inv X pins σ (upd H2 s2.heap.objs.size (.lst [])) { s2 with heap := s2.heap.push { cls := .type "list", dict := none, data := .seq ([] : List Value).toArray } } :=
    I2.laid (t' := s2.toks) (fun b u e => Heap.get?_push_of_some _ e) (Nat.le_refl _) ⟨Nat.zero_le _, [], _, .nil, Heap.get?_push_size _ rfl⟩
  generalize hH3 : upd H2 s2.heap.objs.size (.lst []) = H3 at I3 w0
  generalize hs3 : ({ s2 with heap := s2.heap.push { cls := .type "list", dict := none, data := .seq ([] : List Value).toArray } } : Shared) = s3 at I3
  have eh : s3.heap = s2.heap.push { cls := .type "list", dict := none, data := .seq ([] : List Value).toArray } := by rw [← hs3]
  have fl : ∀ b ∈ fp, b < s2.heap.objs.size := fun b hb => by
    obtain ⟨o, e, _⟩ := T.obj 0 _ st2 b hb
    exact Heap.lt_size e
  have fn : ∀ b ∈ fp, H3 b = none := fun b hb => by
    rw [← hH3, upd_ne (Nat.ne_of_lt (fl b hb))]; exact (f2 b hb).1
  have f3 : ∀ b ∈ fp, FpOk X pins H3 b := fun b hb => ⟨fn b hb, (f2 b hb).2⟩
  have old : ∀ b u, s3.heap.get? b = some u → h₁.get? b = some u := fun b u e => by
    refine hsb₁.extBut b u ?_ (Heap.get?_push_of_some _ (by rw [← eh]; exact e))
    have := Heap.lt_size e
    rw [eh] at this
    exact Nat.ne_of_lt this
  have up : ∀ b u, s2.heap.get? b = some u → s3.heap.get? b = some u := fun b u e => by rw [eh]; exact Heap.get?_push_of_some _ e
  have ok := blk_ok (N' := N') (scope := scope) (cl := cl) (fp := fp) I3 hkind hcl hhas f3 fun b hb => by rw [eh, Heap.size_push]; exact Nat.lt_succ_of_lt (fl b hb)
  rw [← eh] at hns₁ ⊢
  have IB : Inv (blk X N' scope cl s3.heap.objs.size fp s3 H3) [] (fr σ) H3 { s3 with heap := h₁, toks := s2.toks + ([] : List (Str × Value)).length } := by
    refine ⟨ok, rfl, I3.bare, Un.kept old, ⟨_, hns₁, fun i y v e1 e2 e3 => ?_⟩, fun x c e => ?_, I3.hok.fresh (Nat.le_refl _), fun x c e => I3.freeC x c (hcl x c e), fun p hp => by simp [blk] at hp, I3.hok.kept old, hfl σ I3.len⟩
    · obtain ⟨j, n1, n2, n3, n4⟩ := hfr σ i y v e1 e2
      obtain ⟨m, _, hl⟩ := I3.loc
      obtain ⟨u, r, l⟩ := hl j y v n1 n2 (.inr (.inl n3))
      refine ⟨u, r, .inr ⟨.inl n4, ?_⟩⟩
      rcases l with ⟨k, _⟩ | ⟨_, c, e, ic⟩
      · rw [n3] at k; cases k
      · obtain ⟨c', e'⟩ := hhas y (.inl n4)
        have e'' := hcl y c' e'
        rw [e] at e''; cases e''
        obtain ⟨o, ho, hd⟩ := ic
        exact ⟨c, e', o, old c o ho, hd⟩
    · obtain ⟨v, o, ho, hd⟩ := I3.cell x c (hcl x c e)
      exact ⟨v, o, old c o ho, hd⟩
  have stB : tn 0 h₁ := T.keep _ _ _ st2 fun b hb o e => old b o (up b o e)
  have D2 : s2.heap.objs.size < s3.heap.objs.size := by rw [eh, Heap.size_push]; exact Nat.lt_succ_self _
  have stat : ∀ {H' : Hp}, (∀ b ∈ fp, H' b = none) → ∀ b ∈ fp, FpOk (blk X N' scope cl s3.heap.objs.size fp s3 H3) [] H' b := fun hn b hb =>
    ⟨hn b hb, Nat.ne_of_lt (Nat.lt_trans (fl b hb) D2), ok.exfs b hb, .inl hb, fun x c e => (ok.exf b hb).2 x c e, fun p hp => by simp [blk] at hp⟩
  have loop : codeAny (model X.prog X.w) X.A (.compLoop (.ListComp elt [⟨tg, iter, [], 0⟩] scope pos) 0 (.ref it) (.ref s2.heap.objs.size) (compEnvC scope cl s3.heap.objs.size X.env))
      (compPost (model X.prog X.w) X.A X.xe use Q' (.ref s2.heap.objs.size) s3.heap.objs.size) { s3 with heap := h₁, toks := s2.toks + ([] : List (Str × Value)).length } := by
    refine codeAny_loop rfl (fun n s' => ∃ i ys H', Inv (blk X N' scope cl s3.heap.objs.size fp s3 H3) [] (fr σ) H' s' ∧ tn i s'.heap ∧ (∀ b ∈ fp, H' b = none) ∧ W i n ys H') ?_ m0 ⟨0, [], H3, IB, stB, fn, w0⟩
    rintro n s4 ⟨i, ys, H4, I4, st4, fr4, w4⟩
    show wpAny _ _ ((compTurn (.ListComp elt [⟨tg, iter, [], 0⟩] scope pos) 0 (.ref it) (.ref s2.heap.objs.size) (compEnvC scope cl s3.heap.objs.size X.env)).onRaise (fun x => do noteFrame x (compEnvC scope cl s3.heap.objs.size X.env); theTreesLotGoes x)) _ _ s4
    refine wpAny_noted ?_
    rw [compTurn_list1]
    refine wpAny_bind (wpAny_standAt (wpAny_bind ?_))
    rcases turn i n ys H4 w4 with ⟨stop, qn⟩ | ⟨go, hz, step⟩
    · refine thn (T.done (blk X N' scope cl s3.heap.objs.size fp s3 H3) rfl rfl rfl hc i [] s4 (fr σ) H4 _ I4 (stat fr4) st4 stop) fun r s5 ⟨hr, I5⟩ => ?_
      subst hr
      refine wpAny_pure ?_
      obtain ⟨m, hn, _⟩ := I5.loc
      have hlt : ∀ b u, s3.heap.get? b = some u → b ≠ s3.heap.objs.size := fun b u e => Nat.ne_of_lt (Heap.lt_size e)
      have B := I5.base
      refine fin _ _ m s5 H4 _ hn (I3.fpOk (Nat.le_refl _) I5.free) ?_ qn
      refine I3.call' (s' := s5) (ch := fp) I5.os ⟨fun b o e n1 n2 n3 => B.keep b o e n1 n2 n3, fun b o e n1 n2 n3 => B.slot b o e n1 n2 n3, B.free, fun b o e n1 => B.there b o e n1, B.tups, B.frzs, B.tbls⟩ (fun a o e => I5.hok a o e) I5.bare (fun b hb' => ?_)
      exact ⟨(f2 b hb').2.2.2.1, (f2 b hb').2.1, (f2 b hb').2.2.2.2.1, (f2 b hb').2.2.2.2.2⟩
    · refine thn (T.item (blk X N' scope cl s3.heap.objs.size fp s3 H3) rfl rfl rfl hc i [] s4 (fr σ) H4 _ I4 (stat fr4) st4 go) fun r s5 ⟨u, hr, h5⟩ => ?_
      subst hr
      refine wpAny_bind (thn h5 fun _ s6 ⟨x, H6, I6, r6, y6, st6, fr6⟩ => ?_)
      have I6' := I6.pinned (stat fr6) (T.obj _ _ st6)
      refine wpAny_bind (wpAny_mono (hg s3.heap.objs.size fp s3 H3 _ s6 (fr σ) H6 x u _ I6' r6 (step x H6 y6)) (fun _ s7 ⟨σ7, H7, I7, kp, q7⟩ => ?_) fun _ _ z => z.elim)
      refine wpAny_bind (wpAny_bind (wpAny_mono (he s3.heap.objs.size fp s3 H3 _ s7 σ7 H7 _ I7 q7) (fun v8 s8 ⟨y8, H8, I8, r8, hD, m', hm, w8⟩ => ?_) fun _ _ z => z.elim))
      have ap := mt_append (X := blk X N' scope cl s3.heap.objs.size fp s3 H3) _ s8 σ7 H8 (.ref s2.heap.objs.size) [y8] (.ref s2.heap.objs.size) [v8] (fun _ H9 => W (i + 1) m' (ys ++ [y8]) H9) I8 rfl (.cons r8 .nil) ⟨_, ys, y8, rfl, rfl, hD, hz, w8⟩
      refine wpAny_bind (wpAny_mono ap (fun _ s9 ⟨_, H9, I9, _, w9⟩ => wpAny_pure (wpAny_pure ⟨rfl, m', hm, i + 1, ys ++ [y8], H9, ?_, ?_, ?_, w9⟩)) fun _ _ z => z.elim)
      · exact I9.unpinned.weak (by rw [kp.1]) kp.2
      · exact T.keep _ _ _ st6 fun b hb o e => (I9.pin (b, o) (List.mem_append_right _ (List.mem_append_right _ (mem_pinsAt hb e)))).1
      · intro b hb
        obtain ⟨o, e, d⟩ := T.obj _ _ st6 b hb
        exact (I9.pin (b, o) (List.mem_append_right _ (List.mem_append_right _ (mem_pinsAt hb e)))).2.1
  subst hs3
  exact codeAny_compStart_list loop (T.self X.A 0 _ _ _ stB loop)
/-- a name takes a comprehension's list -/
theorem ps_setC {i : Nat} {y : Str} {py spos : Pos} {elt iter tg : Expr} {scope : Scope} {pos : Pos} {t : TE} (hN : X.N.Nodup) (hi : X.N[i]? = some y) (hx : X.env.scope.names.lookup y = some .local) (h : CompR X (.ListComp elt [⟨tg, iter, [], 0⟩] scope pos) scope iter t)
    (hsw : swapsWith (.ListComp elt [⟨tg, iter, [], 0⟩] scope pos) (some (.Name y py)) spos.line X.env = pure true := by rfl) : PS X (.Assign [.Name y py] (.ListComp elt [⟨tg, iter, [], 0⟩] scope pos) spos) (tAsg t (gName i)) := by
  intro pins s σ H D I hw
  rw [exec_Assign_Name_used _ _ _ _ hsw]
  refine wpAny_bind (wpAny_standAt (wpAny_bind ?_))
  show wpAny _ _ (do let _ ← comprehension (.ListComp elt [⟨tg, iter, [], 0⟩] scope pos) scope X.env _ (newList []) false (eval iter X.env) (some (assign (.Name y py) X.env))) _ _ _
  refine wpAny_bind (wpAny_mono (h pins { s with } σ H _ (some (assign (.Name y py) X.env)) (fun _ s' => SP X pins D .next s') _ I hw fun D' C m s5 H4 r hn f I5 q => ?_) (fun _ s' hq => wpAny_pure (wpAny_pure hq)) fun _ _ e => e)
  refine wpAny_assign_Name (store_ok2 I5 hN hi (Or.inl hx) (v := .ref D') rfl (fun s6 I6 ⟨a, sb, ha⟩ => ?_) (.inr hx))
  have na : C ≠ a := by
    rcases ha with e | e
    · rw [e]; exact f.2.1
    · exact Ne.symm (f.2.2.2.2.1 y a e)
  refine ⟨m, hn.sameBut sb na, fun h' sb' => ⟨_, H4, ?_, q⟩⟩
  exact I6.turned (t' := s6.toks) (fun b o hb e => sb'.extBut b o hb e) f.1 f.2.1 f.2.2.2.1 f.2.2.2.2.1 f.2.2.2.2.2
theorem cr_lcompC {x y : Str} {px : Pos} {elt iter : Expr} {scope : Scope} {c : Addr} {pos : Pos} {wi : TI} {te : TE} (j : Nat)
    (hc : X.calm = true) (hi : PI X (.Name x px) iter wi)
    (hg : ∀ C fp s0 H0, PG (blk X [x, y] scope [(y, c)] C fp s0 H0) (.Name x px) (gName 0)) (he : ∀ C fp s0 H0, PE (blk X [x, y] scope [(y, c)] C fp s0 H0) elt te)
    (hclos : closureFor scope X.env = pure [(y, c)]) (hkind : scope.kind = .function) (hnames : ∀ x ∈ scope.names, x.2 = .local → scope.names.lookup x.1 = some .local) (hcell : ∀ y ∈ scope.names, y.2 ≠ .cell)
    (hcy : X.env.cells.lookup y = some c) (hNj : X.N[j]? = some y) (hk : X.env.kindOf y = some .cell) (hrel : (relabel scope X.env).names.lookup y = some .cell)
    (hall : ((relabel scope X.env).names.all fun p => (p.2 != .cell && p.2 != .free) || p.1 == y) = true)
    (hs : ∀ x, foldedSetIterable iter X.env x = pure x := by intro _; rfl) :
    CompR X (.ListComp elt [⟨.Name x px, iter, [], 0⟩] scope pos) scope iter (tComp wi (fun σ => [none, (σ[j]?).join]) (gName 0) te) := by
  refine cr_lcomp (N' := [x, y]) (cl := [(y, c)]) hc hi hg he hclos hkind hnames hcell (fun y' c' h => ?_) (fun y' h => ?_) (fun _ _ => rfl) (fun σ i y' v e1 e2 => ?_) hs
  · obtain ⟨rfl, rfl⟩ := lookup_one h
    exact hcy
  · rw [List.all_eq_true] at hall
    have key : ∀ k, (k = .cell ∨ k = .free) → (relabel scope X.env).names.lookup y' = some k → y' = y := fun k hk e => by
      have := hall _ (lookup_mem e)
      rcases hk with rfl | rfl
      · simpa using this
      · simpa using this
    have e : y' = y := by
      rcases h with h | h
      · exact key _ (.inl rfl) h
      · exact key _ (.inr rfl) h
    subst e
    exact ⟨c, by rw [List.lookup_cons, beq_self_eq_true]⟩
  · match i, e1, e2 with
    | 0, _, e2 => cases e2
    | 1, e1, e2 =>
      have e1' : y = y' := by simpa using e1
      subst e1'
      have e2' : (σ[j]?).join = some v := by simpa using e2
      refine ⟨j, hNj, ?_, hk, hrel⟩
      cases h : σ[j]? with
      | none => rw [h] at e2'; cases e2'
      | some o => rw [h] at e2'; have : o = some v := e2'; rw [this]
    | i + 2, e1, _ => simp at e1
end
end L2

set_option linter.all false
set_option maxRecDepth 100000
set_option maxHeartbeats 4000000
namespace L2
open PySem PySem.Spec PyProof.Rows
theorem gv_cb1 {σ : St} {H : Hp} {r : List V → Hp → VK → Prop} {te : TE} {R R' : V → Hp → Prop} (h : Gv te σ H R) (f : ∀ v H', R v H' → ∀ Q : VK, (∀ w H'', R' w H'' → Q w H'') → r [v] H' Q) : Gv (tCB r (tCons te tNil)) σ H R' := fun Q q => h _ fun v H' rv => f v H' rv Q q
end L2

set_option linter.all false
set_option maxRecDepth 100000
set_option maxHeartbeats 4000000
namespace L2
open PySem PySem.Spec PyProof.Rows
section
variable {σ : St} {H : Hp} {D : Ends} {rest : TS} {ta tb te to : TE} {b : Bool} {k : Nat} {v0 : V} {i j : Int} {l : Addr} {xs : List V} {K : PySem.W.Frag} {t : TA}
theorem st_ifRG {tc : TT} {u : TS} {RB : Bool → Hp → Prop} (R : St → Hp → Prop) (hc : GvT tc σ H RB) (h1 : ∀ H1, RB true H1 → ∀ D' : Ends, (∀ σ' H', R σ' H' → D'.nx σ' H') → D'.rt = D.rt → u D' σ H1) (h0 : ∀ H1, RB false H1 → R σ H1) (q : ∀ σ' H', R σ' H' → rest D σ' H') : tSeq (tIfS tc u tNext) rest D σ H :=
  st_ifNG hc (fun H1 e => h1 H1 e _ q rfl) (fun H1 e => q _ _ (h0 H1 e))
end
end L2

set_option linter.all false
set_option maxRecDepth 100000
set_option maxHeartbeats 4000000
namespace L2
open PySem PySem.Spec PyProof.Rows
/-! ### {} -/
/-! ### try: f(..) except C as n: .., with return -/
/-! ### isinstance of an exception with a tuple of classes -/
end L2

set_option linter.all false
set_option maxRecDepth 100000
set_option maxHeartbeats 4000000
namespace L2
open PySem PySem.Spec PyProof.Rows
section
variable {es : List Expr} {env : Env}
theorem star_tup {a b c} : starEach (.Tuple a b c :: es) env = (false, eval (.Tuple a b c) env) :: starEach es env := rfl
theorem star_lst {a b} : starEach (.List a b :: es) env = (false, eval (.List a b) env) :: starEach es env := rfl
theorem star_con {a b c} : starEach (.Constant a b c :: es) env = (false, eval (.Constant a b c) env) :: starEach es env := rfl
theorem star_un {a b c} : starEach (.UnaryOp a b c :: es) env = (false, eval (.UnaryOp a b c) env) :: starEach es env := rfl
theorem star_bin {a b c d} : starEach (.BinOp a b c d :: es) env = (false, eval (.BinOp a b c d) env) :: starEach es env := rfl
theorem star_name {a b} : starEach (.Name a b :: es) env = (false, eval (.Name a b) env) :: starEach es env := rfl
theorem star_call {a b c d} : starEach (.Call a b c d :: es) env = (false, eval (.Call a b c d) env) :: starEach es env := rfl
theorem star_sub {a b c} : starEach (.Subscript a b c :: es) env = (false, eval (.Subscript a b c) env) :: starEach es env := rfl
theorem star_lc {a b c d} : starEach (.ListComp a b c d :: es) env = (false, eval (.ListComp a b c d) env) :: starEach es env := rfl
end
end L2

set_option linter.all false
set_option maxHeartbeats 4000000
namespace L2
/-! ### rounds -/

/-! ### sums round a ring -/
end L2

set_option linter.all false
set_option maxRecDepth 100000
set_option maxHeartbeats 4000000
namespace L2
open PySem PySem.Spec PyProof.Rows

/-! ### sides, laid -/
/-- a list of rings -/
def RgL (H : Hp) (l : Addr) (rs : List (List Pt3)) : Prop := ∃ as : List Addr, H l = some (.lst (as.map V.ref)) ∧ Paired (LP H) as rs
theorem RgL.same {H H' : Hp} {l : Addr} {rs : List (List Pt3)} (h : RgL H l rs) (s : Same H H') : RgL H' l rs := by
  obtain ⟨as, h1, h2⟩ := h
  exact ⟨as, s _ _ h1, paired_mono h2 fun _ _ x => x.same s⟩
end L2

set_option linter.all false
set_option maxRecDepth 100000
set_option maxHeartbeats 4000000
namespace L2
open PySem PySem.Spec PyProof.Rows
end L2

set_option linter.all false
set_option maxRecDepth 100000
set_option maxHeartbeats 4000000
namespace L2
open PySem PySem.Spec PyProof.Rows
/-! ### plain data, laid -/
mutual
inductive Dat (K : PySem.W.Frag) (H : Hp) : Nat → V → PyData → Prop
  | int {k : Nat} (n : Int) : Dat K H k (.int n) (.int n)
  | tup {k : Nat} {a : Addr} {vs : List V} {ds : List PyData} : SqT K H a vs → Dats K H k vs ds → Dat K H (k + 1) (.ref a) (.tuple ds)
  | lst {k : Nat} {a : Addr} {vs : List V} {ds : List PyData} : SqL K H a vs → Dats K H k vs ds → Dat K H (k + 1) (.ref a) (.list ds)
inductive Dats (K : PySem.W.Frag) (H : Hp) : Nat → List V → List PyData → Prop
  | nil {k : Nat} : Dats K H k [] []
  | cons {k : Nat} {v : V} {vs : List V} {d : PyData} {ds : List PyData} : Dat K H k v d → Dats K H k vs ds → Dats K H k (v :: vs) (d :: ds)
end
section
open PySem.SeqAt PyProof.V
variable {K : PySem.W.Frag} {H : Hp}
mutual
theorem Dat.can : ∀ {k : Nat} {v : V} {d : PyData}, Dat K H k v d → d.canLay0 = true ∧ d.depth ≤ k ∧ noMix d d = true
  | _, _, _, .int n => by simp [PyData.canLay0, PyData.depth, noMix]
  | _, _, _, .tup h t => by
    have := Dats.can t
    simp only [PyData.canLay0, PyData.depth, noMix]
    exact ⟨this.1, by omega, this.2.2⟩
  | _, _, _, .lst h t => by
    have := Dats.can t
    simp only [PyData.canLay0, PyData.depth, noMix]
    exact ⟨this.1, by omega, this.2.2⟩
theorem Dats.can : ∀ {k : Nat} {vs : List V} {ds : List PyData}, Dats K H k vs ds → PyData.canLayAll0 ds = true ∧ PyData.depthAll ds ≤ k ∧ noMixAll ds ds = true
  | _, _, _, .nil => by simp [PyData.canLayAll0, PyData.depthAll, noMixAll]
  | _, _, _, .cons h t => by
    have h1 := Dat.can h
    have h2 := Dats.can t
    simp only [PyData.canLayAll0, PyData.depthAll, noMixAll, Bool.and_eq_true]
    exact ⟨⟨h1.1, h2.1⟩, by omega, h1.2.2, h2.2.2⟩
end
theorem Dat.shaped {k : Nat} {v : V} {d : PyData} (h : Dat K H k v d) (hk : k ≤ 64) : PySem.SeqAt.shaped d = true := by
  have := h.can
  show (PyData.canLay0 d && decide (PyData.depth d ≤ 64)) = true
  rw [Bool.and_eq_true]
  exact ⟨this.1, decide_eq_true (by omega)⟩
end
section
open PySem.SeqAt PyProof.V
variable {X : Cx} {pins : List (Addr × Obj)} {σ : St} {H : Hp} {s : Shared}
mutual
theorem Inv.dat {K : PySem.W.Frag} (hK : X.K = K) (I : Inv X pins σ H s) : ∀ {k : Nat} {v : V} {d : PyData}, Dat K H k v d → ∀ u, RelV v u → ∃ as, Reads s.heap u d as
  | _, _, _, .int n, _, r => by
    obtain ⟨t, rfl⟩ := (show ∃ t, _ = Value.int n t from r)
    exact ⟨_, Reads.int n t⟩
  | _, _, _, .tup h t, _, r => by
    cases r
    obtain ⟨its, rv, p, _⟩ := I.tuple (hK ▸ h)
    obtain ⟨o, ho, hc, n, hd⟩ := p
    obtain ⟨as, ra⟩ := Inv.dats hK I t _ rv
    exact ⟨_, Reads.tuple ho hc hd (by simpa using ra)⟩
  | _, _, _, .lst h t, _, r => by
    cases r
    obtain ⟨its, rv, pl, _⟩ := I.list (hK ▸ h)
    obtain ⟨o, ho, hc, n, hd⟩ := pl.isList
    obtain ⟨as, ra⟩ := Inv.dats hK I t _ rv
    exact ⟨_, Reads.list ho hc hd (by simpa using ra)⟩
theorem Inv.dats {K : PySem.W.Frag} (hK : X.K = K) (I : Inv X pins σ H s) : ∀ {k : Nat} {vs : List V} {ds : List PyData}, Dats K H k vs ds → ∀ us, Vals vs us → ∃ as, ReadsAll s.heap us ds as
  | _, _, _, .nil, _, .nil => ⟨_, .nil⟩
  | _, _, _, .cons p q, _, .cons r t => by
    obtain ⟨as, h1⟩ := Inv.dat hK I p _ r
    obtain ⟨bs, h2⟩ := Inv.dats hK I q _ t
    exact ⟨_, .cons h1 h2⟩
end
/-- == and != of the same data -/
def rEqS (K : PySem.W.Frag) (neg : Bool) : R2 := fun x y H Q => ∃ d, Dat K H 8 x d ∧ Dat K H 8 y d ∧ Q (.bl (!neg)) H
theorem op_eqS (hu : X.A.units + 64 < cLine) : OpR X (compareOp .Eq) (rEqS X.K false) := by
  intro pins s σ H x y v u Q I rx ry h
  obtain ⟨d, h1, h2, q⟩ := h
  obtain ⟨as, r1⟩ := I.dat rfl h1 _ rx
  obtain ⟨bs, r2⟩ := I.dat rfl h2 _ ry
  refine eq_dataH_same r1 r2 (h1.shaped (by decide)) (h1.shaped (by decide)) hu h1.can.2.2 (fin_bl I q ?_)
  rw [same_self]
  all_goals rfl
theorem op_neS (hu : X.A.units + 64 < cLine) : OpR X (compareOp .NotEq) (rEqS X.K true) := by
  intro pins s σ H x y v u Q I rx ry h
  obtain ⟨d, h1, h2, q⟩ := h
  obtain ⟨as, r1⟩ := I.dat rfl h1 _ rx
  obtain ⟨bs, r2⟩ := I.dat rfl h2 _ ry
  refine ne_dataH_same r1 r2 (h1.shaped (by decide)) (h1.shaped (by decide)) hu h1.can.2.2 (fin_bl I q ?_)
  rw [same_self]
  all_goals rfl
end
section
variable {K : PySem.W.Frag} {H : Hp}
theorem dats_ints : ∀ {k : Nat} (ns : List Int), Dats K H k (ns.map V.int) (ns.map PyData.int)
  | _, [] => .nil
  | _, n :: ns => .cons (.int n) (dats_ints ns)
theorem TupT.dat {v : V} {ns : List Int} {k : Nat} (h : TupT H v ns) : Dat K H (k + 1) v (.tuple (ns.map PyData.int)) := by
  obtain ⟨a, rfl, h⟩ := h
  exact .tup (SqT.of h) (dats_ints ns)
theorem TupsT.dats : ∀ {vs : List V} {nss : List (List Int)} {k : Nat}, TupsT H vs nss → Dats K H (k + 1) vs (nss.map fun ns => .tuple (ns.map PyData.int))
  | _, _, _, .nil => .nil
  | _, _, _, .cons h t => .cons h.dat (TupsT.dats t)
theorem dats_of {α : Type} {F : V → α → Prop} {g : α → PyData} {k : Nat} (hF : ∀ v x, F v x → Dat K H k v (g x)) : ∀ {as : List Addr} {xs : List α}, Paired (fun a x => F (.ref a) x) as xs → Dats K H k (as.map V.ref) (xs.map g)
  | _, _, .nil => .nil
  | _, _, .cons h t => .cons (hF _ _ h) (dats_of hF t)
def dR (rs : List (List Pt3)) : PyData := .list (rs.map fun r => .list ((r.map L3).map fun ns => .tuple (ns.map PyData.int)))
theorem RgL.dat {l : Addr} {rs : List (List Pt3)} (h : RgL H l rs) : Dat K H 8 (.ref l) (dR rs) := by
  obtain ⟨as, h1, h2⟩ := h
  refine .lst (SqL.of h1) (dats_of (F := fun v r => ∃ a, v = .ref a ∧ LP H a r) (k := 7) (fun v r ⟨a, e, h⟩ => ?_) (paired_mono h2 fun a x h => ⟨a, rfl, h⟩))
  subst e
  obtain ⟨ys, h, t⟩ := h
  exact .lst (SqL.of h) (TupsT.dats (k := 5) t)
theorem pu_eqS {σ : St} {ta tb : TE} {x y : V} {d : PyData} (ha : Pu ta σ H x) (hb : Pu tb σ H y) (h1 : Dat K H 8 x d) (h2 : Dat K H 8 y d) : Pu (tOp (rEqS K false) ta tb) σ H (.bl true) := fun _ q => ha _ (hb _ ⟨d, h1, h2, q⟩)
theorem pu_neS {σ : St} {ta tb : TE} {x y : V} {d : PyData} (ha : Pu ta σ H x) (hb : Pu tb σ H y) (h1 : Dat K H 8 x d) (h2 : Dat K H 8 y d) : Pu (tOp (rEqS K true) ta tb) σ H (.bl false) := fun _ q => ha _ (hb _ ⟨d, h1, h2, q⟩)
end
/-! ### [::-1] -/
end L2

set_option linter.all false
set_option maxHeartbeats 4000000
namespace L2
/-! ### points that are drawn, one after another -/
end L2

set_option linter.all false
set_option maxRecDepth 100000
set_option maxHeartbeats 4000000
namespace L2
open PySem PySem.Spec PyProof.Rows
section
variable {X : Cx}
theorem call_list_ofK {K : PySem.W.Frag} (h : X.K = K) : CallR X (.type "list") (fun xs H Q => ∃ p ys, xs = [.ref p] ∧ (SqL K H p ys ∨ SqT K H p ys) ∧ ∀ l, H l = none → Q (.ref l) (upd H l (.lst ys))) := by
  subst h; exact call_list_of
end
end L2

set_option linter.all false
set_option maxRecDepth 100000
set_option maxHeartbeats 4000000
namespace L2
open PySem PySem.Spec PyProof.Rows
section
variable {H H1 H2 : Hp} {a b c l : Addr}
/-- one more point behind -/
theorem LP.snoc {ps : List Pt3} {v : V} {p : Pt3} (h : LP H l ps) (t : AtP H v p) : ∃ ys, H l = some (.lst ys) ∧ ys.length = ps.length ∧ LP (upd H l (.lst (ys ++ [v]))) l (ps ++ [p]) := by
  obtain ⟨ys, h, ty⟩ := h
  refine ⟨ys, h, by rw [ty.len, List.length_map], _, upd_same, ?_⟩
  rw [List.map_append]
  exact (ty.snoc t).lstUpd h
theorem LP.ls {ps : List Pt3} (h : LP H l ps) : ∃ ys, H l = some (.lst ys) ∧ ys.length = ps.length := by
  obtain ⟨ys, h, ty⟩ := h
  exact ⟨ys, h, by rw [ty.len, List.length_map]⟩
end
end L2

set_option linter.all false
set_option maxRecDepth 100000
set_option maxHeartbeats 4000000
namespace L2
open PySem PySem.Spec PyProof.Rows
section
variable {σ : St} {H : Hp} {te tl : TE} {K : PySem.W.Frag} {l : Addr} {rs : List (List Pt3)}
/-- rows of a list from rows of a list, each laid anew -/
theorem gv_rowsF (f : List Pt3 → List Pt3) (hl : Pu tl σ H (.ref l)) (ha : RgL H l rs) (hz : rs.length ≤ 1000)
    (hs : ∀ a r H', r ∈ rs → LP H' a r → Gv te [some (.ref a)] H' (fun v H'' => Same H' H'' ∧ ∃ p, v = .ref p ∧ H' p = none ∧ LP H'' p (f r))) :
    Gv (tComp (iList K tl) (fun _ => [none]) (gName 0) te) σ H (fun v H' => Same H H' ∧ ∃ D, v = .ref D ∧ H D = none ∧ RgL H' D (rs.map f)) := by
  obtain ⟨as, ha, pr⟩ := ha
  have hal := paired_len pr
  refine (gv_compLG (stays_row (rs.map f)) hl ha (by rw [List.length_map]; omega) (fun _ => KeepS.none1) ?_).imp ?_
  · intro i x H' hx s
    rw [List.getElem?_map] at hx
    cases hai : as[i]? with
    | none => rw [hai] at hx; cases hx
    | some a =>
      rw [hai] at hx
      have ex : V.ref a = x := Option.some.inj hx
      subst ex
      obtain ⟨r, hri, hlp⟩ := paired_get pr hai
      exact (hs a r H' (List.mem_of_getElem? hri) (hlp.same s)).imp fun v H'' ⟨s', p, e, n, h⟩ => ⟨s', p, e, n, f r, by rw [List.getElem?_map, hri]; rfl, h⟩
  · rintro _ H' ⟨s, D, ps, rfl, hD, hD', hpl, hps⟩
    rw [List.length_map] at hpl
    exact ⟨s, D, rfl, hD, ps, hD', paired_of (by rw [List.length_map]; omega) fun i p hp => (hps i p hp).1⟩
/-- [list(r) for r in rings] -/
theorem gv_lists (hl : Pu tl σ H (.ref l)) (ha : RgL H l rs) (hz : rs.length ≤ 1000) :
    Gv (tComp (iList K tl) (fun _ => [none]) (gName 0) (tCB (fun xs H Q => ∃ p ys, xs = [.ref p] ∧ (SqL K H p ys ∨ SqT K H p ys) ∧ ∀ l, H l = none → Q (.ref l) (upd H l (.lst ys))) (tCons (tVar 0) tNil))) σ H (fun v H' => Same H H' ∧ ∃ D, v = .ref D ∧ H D = none ∧ RgL H' D rs) :=
  (gv_rowsF id hl ha hz fun a r H' hr ⟨xs, h1, tx⟩ => fun Q f => (pa_c (pu_v rfl) pa_n : PuA (tCons (tVar 0) tNil) _ _ [.ref a]) _ ⟨a, xs, rfl, .inl (SqL.of h1), fun p hp => f _ _ ⟨Same.upd hp, p, rfl, hp, xs, upd_same, tx.mono fun _ _ x => x.same (Same.upd hp)⟩⟩).imp fun v H' ⟨s, D, e, n, h⟩ => ⟨s, D, e, n, by rw [List.map_id] at h; exact h⟩
end
end L2

set_option linter.all false
set_option maxRecDepth 100000
namespace L2
open PySem PySem.StrLaws PySem.Builtin PySem.Builtin.Str
/-! ### texts: what is joined is split again -/
theorem str_ext {x y : Str} (h : x.cps.toList = y.cps.toList) : x = y := by
  cases x; cases y
  simp only at h
  rw [Array.toList_inj.mp h]
theorem len_list (x : Str) : x.cps.toList.length = x.length := by simp [Str.length]
/-- a mark: a sign that stands in the separator, not ahead of its place there -/
structure Mark (y : Str) (m c : Nat) : Prop where
  at_ : y.cps.toList[m]? = some c
  no : ∀ d, d < m → y.cps.toList[d]? ≠ some c
theorem at_sign {x y : Str} {n k m c : Nat} (hm : Mark y m c) (h : At x y n k) (d : Nat) (hd : d < y.length) : x.cps.toList[k + d]? = y.cps.toList[d]? := by
  have := h.2
  rw [subAt_eq] at this
  have e := eq_of_beq this
  rw [← e, List.getElem?_take_of_lt hd, List.getElem?_drop]
theorem Mark.lt {y : Str} {m c : Nat} (h : Mark y m c) : m < y.length := by
  have := (List.getElem?_eq_some_iff.mp h.at_).1
  rwa [len_list] at this
theorem split_core {y : Str} {m c : Nat} (hm : Mark y m c) {x : Str} : ∀ (parts : List Str) (pre : List Nat) (cuts : List Nat) (f : Nat), parts ≠ [] → (∀ p ∈ parts, c ∉ p.cps.toList) → x.cps.toList = pre ++ (Str.join y parts).cps.toList →
    ChainG x y x.length pre.length cuts f → (∀ k, f ≤ k → ¬ At x y x.length k) → partsFrom x y.length pre.length cuts = parts
  | [], _, _, _, h, _, _, _, _ => absurd rfl h
  | [p], pre, cuts, f, _, hf, hx, hc, ht => by
    have hp := hf p (by simp)
    have hx' : x.cps.toList = pre ++ p.cps.toList := hx
    have hl : x.length = pre.length + p.length := by
      rw [← len_list, hx', List.length_append, len_list]
    cases cuts with
    | nil =>
      show [strSub x pre.length x.length] = [p]
      congr 1
      apply str_ext
      rw [strSub_toList, hx', List.drop_left, hl, Nat.add_sub_cancel_left, ← len_list, List.take_length]
    | cons d r =>
      obtain ⟨h1, h2, _⟩ := hc
      have := at_sign hm h2 m hm.lt
      rw [hm.at_, hx', List.getElem?_append_right (by omega)] at this
      exact absurd (List.mem_of_getElem? this) hp
  | p :: q :: r, pre, cuts, f, _, hf, hx, hc, ht => by
    have hp := hf p (by simp)
    have hx' : x.cps.toList = pre ++ p.cps.toList ++ y.cps.toList ++ (Str.join y (q :: r)).cps.toList := by
      rw [hx]
      show pre ++ (p ++ y ++ Str.join y (q :: r)).cps.toList = _
      simp [Str.cps_append]
    have hl : x.length = pre.length + p.length + y.length + (Str.join y (q :: r)).length := by
      rw [← len_list, hx', List.length_append, List.length_append, List.length_append, len_list, len_list, len_list]
    have hA : At x y x.length (pre.length + p.length) := by
      refine ⟨by omega, ?_⟩
      rw [subAt_eq, hx']
      have : (pre ++ p.cps.toList ++ y.cps.toList ++ (Str.join y (q :: r)).cps.toList).drop (pre.length + p.length) = y.cps.toList ++ (Str.join y (q :: r)).cps.toList := by
        rw [List.append_assoc (pre ++ p.cps.toList)]
        have e : pre.length + p.length = (pre ++ p.cps.toList).length := by rw [List.length_append, len_list]
        rw [e, List.drop_left]
      rw [this, ← len_list y, List.take_left]
      simp
    cases cuts with
    | nil =>
      have e : f = pre.length := hc
      exact absurd hA (ht _ (by omega))
    | cons d cs =>
      obtain ⟨h1, h2, h3, h4⟩ := hc
      have hd1 : d ≤ pre.length + p.length := by
        rcases Nat.lt_or_ge (pre.length + p.length) d with z | z
        · exact absurd hA (h3 _ (by omega) z)
        · exact z
      have hd2 : pre.length + p.length ≤ d := by
        rcases Nat.lt_or_ge d (pre.length + p.length) with z | z
        · have e := at_sign hm h2 m hm.lt
          rw [hm.at_] at e
          rcases Nat.lt_or_ge (d + m) (pre.length + p.length) with z2 | z2
          · have e2 : x.cps.toList = pre ++ (p.cps.toList ++ (y.cps.toList ++ (Str.join y (q :: r)).cps.toList)) := by rw [hx']; simp
            rw [e2, List.getElem?_append_right (by omega), List.getElem?_append_left (by rw [len_list]; omega)] at e
            exact absurd (List.mem_of_getElem? e) hp
          · have e2 : x.cps.toList = (pre ++ p.cps.toList) ++ (y.cps.toList ++ (Str.join y (q :: r)).cps.toList) := by rw [hx']; simp
            have e3 : (pre ++ p.cps.toList).length = pre.length + p.length := by rw [List.length_append, len_list]
            have hml := hm.lt
            rw [e2, List.getElem?_append_right (by omega), e3, List.getElem?_append_left (by rw [len_list]; omega)] at e
            exact absurd e (hm.no _ (by omega))
        · exact z
      have hd : d = pre.length + p.length := by omega
      subst hd
      show strSub x pre.length (pre.length + p.length) :: partsFrom x y.length (pre.length + p.length + y.length) cs = p :: q :: r
      congr 1
      · apply str_ext
        rw [strSub_toList, hx', List.append_assoc, List.append_assoc, List.drop_left, Nat.add_sub_cancel_left, ← len_list, List.take_left]
      · have ih := split_core hm (x := x) (q :: r) (pre ++ p.cps.toList ++ y.cps.toList) cs f (by simp) (fun z hz => hf z (List.mem_cons_of_mem _ hz)) hx' (by
          have e : (pre ++ p.cps.toList ++ y.cps.toList).length = pre.length + p.length + y.length := by rw [List.length_append, List.length_append, len_list, len_list]
          rw [e]
          exact h4) ht
        have e : (pre ++ p.cps.toList ++ y.cps.toList).length = pre.length + p.length + y.length := by rw [List.length_append, List.length_append, len_list, len_list]
        rw [e] at ih
        exact ih
theorem len_join_ge (y : Str) : ∀ (p q : Str) (r : List Str), y.length ≤ (Str.join y (p :: q :: r)).length := fun p q r => by
  show y.length ≤ (p ++ y ++ Str.join y (q :: r)).length
  rw [← len_list, ← len_list]
  simp [Str.cps_append]
  omega
theorem kind_pos (x : Str) : 1 ≤ Builtin.Str.strKind x := by
  unfold Builtin.Str.strKind
  split
  · decide
  · split <;> decide
/-- what is joined is split again -/
theorem split_join {y : Str} {m c : Nat} (hm : Mark y m c) (hk : Builtin.Str.strKind y = 1) {parts : List Str} (h0 : parts ≠ []) (hf : ∀ p ∈ parts, c ∉ p.cps.toList) : Txt.split (Str.join y parts) y = parts := by
  have hw : 1 ≤ y.length := by have := hm.lt; omega
  obtain ⟨f, h1, h2⟩ := occ_tight (Str.join y parts) y hw
  have key := split_core hm parts [] _ f h0 hf rfl h1 h2
  unfold Txt.split
  split
  · rename_i e
    rw [Bool.or_eq_true, decide_eq_true_iff, decide_eq_true_iff] at e
    rcases e with e | e
    · match parts, h0 with
      | [p], _ => rfl
      | p :: q :: r, _ =>
        have := len_join_ge y p q r
        omega
    · have := kind_pos (Str.join y parts)
      omega
  · split
    · rename_i e
      rw [List.isEmpty_iff.mp e] at key
      have k2 : [strSub (Str.join y parts) 0 (Str.join y parts).length] = parts := key
      rw [← k2]
      congr 1
    · rw [partsBetween_eq]
      exact key
end L2

set_option linter.all false
set_option maxRecDepth 100000
namespace L2
open PySem PySem.StrLaws PySem.Builtin PySem.Builtin.Str PySem.NumText PyProof.Rows
/-! ### numbers as texts -/
def tx (n : Int) : Str := Str.ofString (toString n)
def Dg (m : Nat) : List Nat := (Nat.toDigits 10 m).map Char.toNat
theorem Dg_all (m : Nat) : AllDigits (Dg m) := by
  intro c hc
  obtain ⟨ch, hch, e⟩ := List.mem_map.mp hc
  have r := digit_range (Nat.isDigit_of_mem_toDigits (by decide) (by decide) hch)
  rw [← e]
  exact r
theorem Dg_len (m : Nat) : 1 ≤ (Dg m).length := by
  unfold Dg
  rw [List.length_map]
  exact PyProof.Rows.tDigits_len_ge 10 m
theorem Dg_ne (m : Nat) : Dg m ≠ [] := fun e => by
  have := Dg_len m
  rw [e] at this
  exact absurd this (by decide)
theorem Dg_le {m k : Nat} (hk : 1 ≤ k) (h : m < 10 ^ k) : (Dg m).length ≤ k := by
  unfold Dg
  rw [List.length_map]
  exact digits10_le hk h
theorem Dg_val (m : Nat) : digitsVal (Dg m) = m := PySem.W.KIN.val_back m
theorem val_lt : ∀ (cs : List Nat) (a : Nat), AllDigits cs → cs.foldl (fun acc c => acc * 10 + (c - 48)) a < (a + 1) * 10 ^ cs.length
  | [], a, _ => by simp
  | c :: cs, a, h => by
    have hc := h.head
    have ih := val_lt cs (a * 10 + (c - 48)) h.tail
    refine Nat.lt_of_lt_of_le ih ?_
    rw [List.length_cons, Nat.pow_succ, Nat.mul_comm (10 ^ cs.length) 10, ← Nat.mul_assoc]
    refine Nat.mul_le_mul_right _ ?_
    omega
/-- no zero leads -/
theorem Dg_lead {m : Nat} (h : (Dg m)[0]? = some 48) : m = 0 := by
  have hv := Dg_val m
  have hd := Dg_all m
  match e : Dg m, h, hd, hv with
  | c :: cs, h, hd, hv =>
    have hc : c = 48 := by simpa using h
    subst hc
    have hv' : cs.foldl (fun acc c => acc * 10 + (c - 48)) 0 = m := hv
    have lt := val_lt cs 0 hd.tail
    rw [hv', Nat.zero_add, Nat.one_mul] at lt
    rcases Nat.eq_zero_or_pos cs.length with z | z
    · rw [z] at lt
      simpa using lt
    · have := Dg_le z lt
      rw [e, List.length_cons] at this
      omega
theorem tx_pos (m : Nat) : (tx (m : Int)).cps.toList = Dg m := PySem.W.KIN.signs_num m
theorem tx_neg (m : Nat) (h : 0 < m) : (tx (-(m : Int))).cps.toList = 45 :: Dg m := by
  obtain ⟨k, rfl⟩ : ∃ k, m = k + 1 := ⟨m - 1, by omega⟩
  unfold tx
  rw [signs_ofString]
  show (toString (Int.negSucc k)).toList.map Char.toNat = _
  have e : toString (Int.negSucc k) = "-" ++ Nat.repr (k + 1) := rfl
  rw [e, String.toList_append, List.map_append, Nat.toList_repr]
  rfl
theorem tx_reads (n : Int) (h : n.natAbs < 10 ^ 60) : PySem.intText? (tx n) = some n ∧ (tx n).length ≤ 61 := by
  have hl := Dg_le (k := 60) (by decide) h
  rcases Int.lt_or_le n 0 with z | z
  · obtain ⟨m, hm, rfl⟩ : ∃ m : Nat, 0 < m ∧ n = -(m : Int) := ⟨n.natAbs, by omega, by omega⟩
    have e := tx_neg m hm
    have el : (tx (-(m : Int))).length ≤ 61 := by
      rw [← len_list, e, List.length_cons]
      have : (-(m : Int)).natAbs = m := by omega
      rw [this] at hl
      omega
    refine ⟨?_, el⟩
    have := intText_neg e (Dg_all m) (Dg_ne m) (by omega)
    rw [Dg_val] at this
    exact this
  · obtain ⟨m, rfl⟩ := Int.eq_ofNat_of_zero_le z
    have e := tx_pos m
    have el : (tx (m : Int)).length ≤ 61 := by
      rw [← len_list, e]
      have : (m : Int).natAbs = m := by omega
      rw [this] at hl
      omega
    refine ⟨?_, el⟩
    have := intText_digits (x := tx (m : Int)) (by rw [e]; exact Dg_all m) (by rw [e]; exact Dg_ne m) (by omega)
    rw [e, Dg_val] at this
    exact this
theorem tx_free {n : Int} {k : Nat} (h : k ≠ 45 ∧ (k < 48 ∨ 57 < k)) : k ∉ (tx n).cps.toList := int_text_free' k h n
/-- a fraction's text -/
def shF (f : Int × Int) : Str := if f.2 = 1 then tx f.1 else tx f.1 ++ Str.ofString "/" ++ tx f.2
theorem app_list (x y : Str) : (x ++ y).cps.toList = x.cps.toList ++ y.cps.toList := by simp [Str.cps_append]
theorem shF_free {f : Int × Int} {k : Nat} (h : k ≠ 45 ∧ k ≠ 47 ∧ (k < 48 ∨ 57 < k)) : k ∉ (shF f).cps.toList := by
  have h' : k ≠ 45 ∧ (k < 48 ∨ 57 < k) := ⟨h.1, h.2.2⟩
  unfold shF
  split
  · exact tx_free h'
  · rw [app_list, app_list]
    intro z
    rcases List.mem_append.mp z with z | z
    · rcases List.mem_append.mp z with z | z
      · exact tx_free h' z
      · have : k = 47 := by simpa using (show k ∈ [47] from z)
        exact h.2.1 this
    · exact tx_free h' z
theorem mk_slash : Mark (Str.ofString "/") 0 47 := ⟨by decide +kernel, fun d h => absurd h (by omega)⟩
theorem mk_comma : Mark (Str.ofString ",") 0 44 := ⟨by decide +kernel, fun d h => absurd h (by omega)⟩
theorem mk_blank : Mark (Str.ofString " ") 0 32 := ⟨by decide +kernel, fun d h => absurd h (by omega)⟩
theorem mk_bar : Mark (Str.ofString " | ") 1 124 := ⟨by decide +kernel, fun d h => by
  have : d = 0 := by omega
  subst this
  decide +kernel⟩
theorem split_shF (f : Int × Int) : Txt.split (shF f) (Str.ofString "/") = if f.2 = 1 then [tx f.1] else [tx f.1, tx f.2] := by
  have fr : ∀ n, (47 : Nat) ∉ (tx n).cps.toList := fun n => tx_free ⟨by decide, by decide⟩
  unfold shF
  split
  · exact split_join mk_slash (by decide +kernel) (parts := [tx f.1]) (by simp) (fun p hp => by rw [List.mem_singleton.mp hp]; exact fr _)
  · refine split_join mk_slash (by decide +kernel) (parts := [tx f.1, tx f.2]) (by simp) (fun p hp => ?_)
    rcases List.mem_cons.mp hp with rfl | hp
    · exact fr _
    · rw [List.mem_singleton.mp hp]
      exact fr _
/-- a point's text, by its fractions -/
def shP (x y : Int × Int) : Str := Str.join (Str.ofString ",") [shF x, shF y]
theorem shP_free {x y : Int × Int} {k : Nat} (h : k ≠ 45 ∧ k ≠ 47 ∧ k ≠ 44 ∧ (k < 48 ∨ 57 < k)) : k ∉ (shP x y).cps.toList := by
  show k ∉ (shF x ++ Str.ofString "," ++ shF y).cps.toList
  rw [app_list, app_list]
  intro z
  rcases List.mem_append.mp z with z | z
  · rcases List.mem_append.mp z with z | z
    · exact shF_free ⟨h.1, h.2.1, h.2.2.2⟩ z
    · have : k = 44 := by simpa using (show k ∈ [44] from z)
      exact h.2.2.1 this
  · exact shF_free ⟨h.1, h.2.1, h.2.2.2⟩ z
theorem split_shP (x y : Int × Int) : Txt.split (shP x y) (Str.ofString ",") = [shF x, shF y] := by
  refine split_join mk_comma (by decide +kernel) (parts := [shF x, shF y]) (by simp) (fun p hp => ?_)
  rcases List.mem_cons.mp hp with rfl | hp
  · exact shF_free ⟨by decide, by decide, by decide⟩
  · rw [List.mem_singleton.mp hp]
    exact shF_free ⟨by decide, by decide, by decide⟩
/-- a ring's text: its points by their fractions -/
def shR (r : List ((Int × Int) × (Int × Int))) : Str := Str.join (Str.ofString " ") (r.map fun p => shP p.1 p.2)
def shRs (rs : List (List ((Int × Int) × (Int × Int)))) : Str := Str.join (Str.ofString " | ") (rs.map shR)
theorem split_shR {r : List ((Int × Int) × (Int × Int))} (h : r ≠ []) : Txt.split (shR r) (Str.ofString " ") = r.map fun p => shP p.1 p.2 := by
  refine split_join mk_blank (by decide +kernel) (by simpa using h) (fun p hp => ?_)
  obtain ⟨q, _, rfl⟩ := List.mem_map.mp hp
  exact shP_free ⟨by decide, by decide, by decide, by decide⟩
theorem join_free {y : Str} {k : Nat} (hy : k ∉ y.cps.toList) : ∀ {ps : List Str}, (∀ p ∈ ps, k ∉ p.cps.toList) → k ∉ (Str.join y ps).cps.toList
  | [], _ => by show k ∉ (Str.empty).cps.toList; simp [Str.empty]
  | [p], h => h p (by simp)
  | p :: q :: r, h => by
    show k ∉ (p ++ y ++ Str.join y (q :: r)).cps.toList
    rw [app_list, app_list]
    intro z
    rcases List.mem_append.mp z with z | z
    · rcases List.mem_append.mp z with z | z
      · exact h p (by simp) z
      · exact hy z
    · exact join_free hy (fun u hu => h u (List.mem_cons_of_mem _ hu)) z
theorem split_shRs {rs : List (List ((Int × Int) × (Int × Int)))} (h : rs ≠ []) : Txt.split (shRs rs) (Str.ofString " | ") = rs.map shR := by
  refine split_join mk_bar (by decide +kernel) (by simpa using h) (fun p hp => ?_)
  obtain ⟨q, _, rfl⟩ := List.mem_map.mp hp
  refine join_free (by decide +kernel) (fun u hu => ?_)
  obtain ⟨z, _, rfl⟩ := List.mem_map.mp hu
  exact shP_free ⟨by decide, by decide, by decide, by decide⟩
end L2

set_option linter.all false
set_option maxRecDepth 100000
namespace L2
open PySem PySem.Spec PyProof.Rows
/-! texts: methods, slices, f-strings, iteration -/
section
variable {X : Cx}
/-- a module's constant -/
theorem pe_konS {x : Str} {v : Str} {pos : Pos} (hm : ∃ tk, X.mg x = some (.str v tk)) (hg : Gl X x := by rfl) (hd : (x == ("__debug__" : Str)) = false := by decide) : PE X (.Name x pos) (tC (.str v)) := by
  obtain ⟨tk, hm⟩ := hm
  exact pe_glob hg hm ⟨tk, rfl⟩ hd
theorem pe_konI {x : Str} {v : Int} {pos : Pos} (hm : ∃ tk, X.mg x = some (.int v tk)) (hg : Gl X x := by rfl) (hd : (x == ("__debug__" : Str)) = false := by decide) : PE X (.Name x pos) (tC (.int v)) := by
  obtain ⟨tk, hm⟩ := hm
  exact pe_glob hg hm ⟨tk, rfl⟩ hd
theorem mt_starts : MtR X "str.startswith" (fun x xs H Q => ∃ a b, x = .str a ∧ xs = [.str b] ∧ Q (.bl (decide (0 + b.length ≤ a.length) && Builtin.Str.subAt a b 0)) H) := by
  intro pins s σ H x xs v us Q I rx rs h
  obtain ⟨a, b, rfl, rfl, q⟩ := h
  obtain ⟨t, rfl⟩ := rx
  obtain ⟨u, rfl, t', rfl⟩ := vals1 rs
  exact call_gives PySem.F.slot_str_startswith (typeIs_str _ _ _) PySem.F.entry_str_startswith (PySem.F.args_str_startswith_2 _ _) (gives_str_startswith a b t t') ⟨V.bl _, H, I, rfl, q⟩
theorem strs_vals : ∀ (l : List Str) (k : Nat), Vals (l.map V.str) (strsFrom k l)
  | [], k => .nil
  | x :: r, k => .cons ⟨k, rfl⟩ (strs_vals r (k + 1))
theorem mt_split : MtR X "str.split" (fun x xs H Q => ∃ a b, x = .str a ∧ xs = [.str b] ∧ 1 ≤ b.length ∧ a.length ≤ sizeLine ∧ (Txt.split a b).length ≤ sizeLine ∧ ∀ p, H p = none → Q (.ref p) (upd H p (.lst ((Txt.split a b).map V.str)))) := by
  intro pins s σ H x xs v us Q I rx rs h
  obtain ⟨a, b, rfl, rfl, hb, ha, hn, q⟩ := h
  obtain ⟨t, rfl⟩ := rx
  obtain ⟨u, rfl, t', rfl⟩ := vals1 rs
  have hq := q _ (I.hok.fresh (Nat.le_refl _))
  have hb' : (b.length == 0) = false := by
    rw [beq_eq_false_iff_ne]
    omega
  have fin : ∀ (l : List Value) (tk : Nat), Vals ((Txt.split a b).map V.str) l → EP X pins σ Q (.ref s.heap.objs.size) { s with toks := tk, heap := s.heap.push { cls := .type "list", data := .seq l.toArray } } := fun l tk hl =>
    ⟨.ref s.heap.objs.size, _, I.laid (t' := tk) (o := .lst ((Txt.split a b).map V.str)) (fun b ob q => Heap.get?_push_of_some _ q) (Nat.le_refl _) ⟨by rw [List.length_map]; exact hn, l, 0, hl, Heap.get?_push_size _ rfl⟩, rfl, hq⟩
  cases h1 : (decide (a.length < b.length) || decide (Builtin.Str.strKind a < Builtin.Str.strKind b))
  · cases hf : (Builtin.Str.occurrences a b 0 a.length (a.length + 1)).isEmpty
    · have e : Txt.split a b = Builtin.Str.partsBetween a (Builtin.Str.occurrences a b 0 a.length (a.length + 1)) b.length := (if_neg (ne_true_of_eq_false h1)).trans (if_neg (ne_true_of_eq_false hf))
      refine call_meets PySem.F.slot_str_split (typeIs_str _ _ _) PySem.F.entry_str_split (PySem.F.args_str_split_2 _ _) (meets_str_split_sep a b t t' h1 hb' hf ha (by rw [← e]; exact hn)) ?_
      rw [← e]
      exact fin _ _ (strs_vals _ _)
    · have e : Txt.split a b = [a] := (if_neg (ne_true_of_eq_false h1)).trans (if_pos hf)
      refine call_meets PySem.F.slot_str_split (typeIs_str _ _ _) PySem.F.entry_str_split (PySem.F.args_str_split_2 _ _) (meets_str_split_not_found a b t t' h1 hb' hf) ?_
      refine fin [.str a t] s.toks ?_
      rw [e]
      exact .cons ⟨t, rfl⟩ .nil
  · have e : Txt.split a b = [a] := if_pos h1
    refine call_meets PySem.F.slot_str_split (typeIs_str _ _ _) PySem.F.entry_str_split (PySem.F.args_str_split_2 _ _) (meets_str_split_cannot_occur a b t t' h1) ?_
    refine fin [.str a t] s.toks ?_
    rw [e]
    exact .cons ⟨t, rfl⟩ .nil
theorem vals_strs : ∀ {xs : List Str} {us : List Value}, Vals (xs.map V.str) us → ∃ l : List (Str × Tok), us = strValues l ∧ l.map (·.1) = xs
  | [], _, .nil => ⟨[], rfl, rfl⟩
  | x :: r, _, .cons h t => by
    obtain ⟨tk, rfl⟩ := h
    obtain ⟨l, e1, e2⟩ := vals_strs t
    exact ⟨(x, tk) :: l, by rw [e1]; rfl, by rw [List.map_cons, e2]⟩
theorem mt_join : MtR X "str.join" (fun x xs H Q => ∃ a l ys, x = .str a ∧ xs = [.ref l] ∧ SqL X.K H l (ys.map V.str) ∧ PySem.JoinOk a ys = true ∧ Q (.str (Str.join a ys)) H) := by
  intro pins s σ H x xs v us Q I rx rs h
  obtain ⟨a, l, ys, rfl, rfl, hl, hok, q⟩ := h
  obtain ⟨t, rfl⟩ := rx
  obtain ⟨u, rfl, e⟩ := vals1 rs
  cases e
  obtain ⟨its, r, p, _⟩ := I.list hl
  obtain ⟨ls, rfl, e2⟩ := vals_strs r
  subst e2
  have hok' := hok
  unfold PySem.JoinOk at hok'
  rw [Bool.not_eq_true'] at hok'
  refine call_meets PySem.F.slot_str_join (typeIs_str _ _ _) PySem.F.entry_str_join (PySem.F.args_str_join_2 _ _) (meets_str_join_list a t l ls hok') ⟨p.isList, post_join ls ⟨joinFit_length hok', fun t' k => ?_⟩⟩
  have e3 : Txt.join a (ls.map (·.1)) = Str.join a (ls.map (·.1)) := StrLaws.glued_eq_join _ _
  rw [e3]
  exact ⟨V.str _, H, I.tok _, ⟨_, rfl⟩, q⟩
theorem call_intS : CallR X (.type "int") (fun xs H Q => ∃ x n, xs = [.str x] ∧ PySem.intText? x = some n ∧ x.length ≤ 640 ∧ Q (.int n) H) := by
  intro pins s σ H xs us Q I r h
  obtain ⟨x, n, rfl, hn, hl, q⟩ := h
  obtain ⟨u, rfl, t, rfl⟩ := vals1 r
  exact PySem.W.KIN.call_text hn hl ⟨.int n, H, I.tok _, ⟨_, rfl⟩, q⟩
/-- text[1:] -/
theorem cut1_ix {n : Nat} (h : 1 ≤ n) : Builtin.Str.strSliceIndices (some 1) none 1 n = List.range' 1 (n - 1) := by
  unfold Builtin.Str.strSliceIndices PySem.sliceRange
  have e1 : max 0 (min (1 : Int) (n : Int)) = 1 := by omega
  simp only [show ((1 : Int) > 0) = True from by simp, if_true, show ¬ ((1 : Int) < 0) by decide, if_false, e1, Int.ediv_one]
  have e2 : (if (1 : Int) < (n : Int) then (n : Int) - 1 + 1 - 1 else 0).toNat = n - 1 := by
    split <;> omega
  rw [e2, List.range'_eq_map_range]
  refine List.map_congr_left fun k _ => ?_
  omega
theorem pick_all {α : Type} : ∀ (xs pre : List α), (List.range' pre.length xs.length).filterMap (fun i => (pre ++ xs)[i]?) = xs
  | [], pre => by simp
  | x :: r, pre => by
    rw [List.length_cons, List.range'_succ, List.filterMap_cons]
    have e : (pre ++ x :: r)[pre.length]? = some x := by simp
    rw [e]
    have ih := pick_all r (pre ++ [x])
    rw [List.length_append, List.append_assoc] at ih
    exact congrArg (x :: ·) ih
theorem drop1_map {α : Type} (xs : List α) : (List.range' 1 (xs.length - 1)).filterMap (fun i => xs[i]?) = xs.drop 1 := by
  cases xs with
  | nil => rfl
  | cons x r => exact pick_all r [x]
def rSl1 : V → Option Int → Option Int → Hp → VK → Prop := fun x lo hi H Q => ∃ a, x = .str a ∧ lo = some 1 ∧ hi = none ∧ 1 ≤ a.length ∧ a.length ≤ sizeLine ∧ Q (.str ⟨(a.cps.toList.drop 1).toArray⟩) H
theorem sl_str1 : SlR X rSl1 := by
  intro pins s σ H x v vl vu lo hi sl Q I rx hs pl pu h
  obtain ⟨a, rfl, rfl, rfl, h1, h2, q⟩ := h
  obtain ⟨t, rfl⟩ := rx
  cases pl with
  | int i tk =>
    cases pu
    refine ⟨"str", _, PySem.F.slot_str_getitem.lookup, typeIs_str _ _ _, ?_⟩
    refine wpAny_getItem_str_slice (l := some (1, tk)) (u := none) (st := none) hs rfl ?_
    have e : slicePicked a (some (1, tk)) none none = List.range' 1 (a.length - 1) := cut1_ix h1
    unfold sliceMade
    rw [if_neg (by rw [e, List.length_range']; simp; omega), e]
    have e2 : (List.range' 1 (a.length - 1)).filterMap (fun i => a.cps[i]?) = a.cps.toList.drop 1 := by
      rw [← drop1_map, len_list]
      congr 1
      funext i
      simp
    rw [e2]
    refine ⟨?_, V.str _, H, I.tok _, ⟨_, rfl⟩, q⟩
    show (a.cps.toList.drop 1).toArray.size ≤ sizeLine
    rw [List.size_toArray, List.length_drop, len_list]
    omega
/-- f'{a}' of an int -/
theorem pe_f1 {e : Expr} {te : TE} {p1 pos : Pos} (he : PE X e te) : PE X (.JoinedStr [.FormattedValue e (-1) none p1] pos) (fun σ H Q => te σ H fun x H1 => ∃ i, x = .int i ∧ i.natAbs.log2 < 1920 ∧ Q (.str (tx i)) H1) := by
  intro pins s σ H Q I h
  refine JoinedStr_one (FormattedValue_plain (thn (he pins s σ H _ I h) fun v s1 ⟨x, H1, I1, r1, i, e, hb, q⟩ => ?_))
  subst e
  obtain ⟨t, rfl⟩ := r1
  exact formatField_int_small hb ⟨V.str _, H1, I1.tok _, ⟨_, rfl⟩, q⟩
theorem tx_len {i : Int} (h : i.natAbs.log2 < 1920) : (tx i).length ≤ 1921 := int_text_len_1921 h
theorem app_len (x y : Str) : (x ++ y).length = x.length + y.length := by
  rw [← len_list, ← len_list, ← len_list, app_list, List.length_append]
theorem empty_app (x : Str) : Str.empty ++ x = x := by
  apply str_ext
  rw [app_list]
  rfl
/-- f'{a}/{b}' of ints -/
theorem pe_f3 {e e' : Expr} {z : Str} {te te' : TE} {j : Nat} {p1 p2 p3 pos : Pos} (he : PE X e te) (he' : PE X e' te') (hz : z.length ≤ 100 := by decide +kernel) : PE X (.JoinedStr [.FormattedValue e (-1) none p1, .Constant (.str z) j p2, .FormattedValue e' (-1) none p3] pos)
    (fun σ H Q => te σ H fun x H1 => ∃ i, x = .int i ∧ i.natAbs.log2 < 1920 ∧ te' σ H1 fun x' H2 => ∃ i', x' = .int i' ∧ i'.natAbs.log2 < 1920 ∧ Q (.str (tx i ++ z ++ tx i')) H2) := by
  intro pins s σ H Q I h
  have big : 5000 ≤ sizeLine := by decide
  refine JoinedStr_many (joinParts_cons (FormattedValue_plain (thn (he pins s σ H _ I h) fun v s1 ⟨x, H1, I1, r1, i, e, hb, q⟩ => ?_)))
  subst e
  obtain ⟨t, rfl⟩ := r1
  have l1 := tx_len hb
  refine formatField_int_small hb ⟨by rw [empty_app]; exact Nat.le_trans l1 (by omega), ?_⟩
  have I1' := I1.tok (s1.toks + 1 + 1)
  refine joinParts_cons (Calls.Constant_str ⟨by rw [empty_app, app_len]; exact Nat.le_trans (Nat.add_le_add l1 hz) (by omega), ?_⟩)
  refine joinParts_cons (FormattedValue_plain (thn (he' pins _ σ H1 _ (I1'.tok _) q) fun v' s2 ⟨x', H2, I2, r2, i', e', hb', q2⟩ => ?_))
  subst e'
  obtain ⟨t', rfl⟩ := r2
  have l2 := tx_len hb'
  have l3 : (Str.empty ++ tx i ++ z ++ tx i').length ≤ sizeLine := by
    rw [empty_app, app_len, app_len]
    omega
  have e4 : Str.empty ++ tx i ++ z ++ tx i' = tx i ++ z ++ tx i' := by rw [empty_app]
  refine formatField_int_small hb' ⟨l3, ?_⟩
  show wpAny _ _ (joinParts (Str.empty ++ tx i ++ z ++ tx i') []) _ _ _
  rw [e4]
  rw [e4] at l3
  exact joinParts_nil ⟨V.str _, H2, I2.tok _, ⟨_, rfl⟩, q2⟩ l3
/-- the signs of a text, one by one -/
def Its (x : Str) : It := ⟨fun i _ => i < x.length, fun i H v H' => H' = H ∧ ∃ c, x.cps.toList[i]? = some c ∧ v = .str ⟨#[c]⟩, fun i _ => x.length ≤ i⟩
theorem turn_str {P : Program} {w : World} {K : PySem.W.Frag} {tg : Expr} (x : Str) (t : Tok) (it : Addr) : Turn P w K tg (Its x) [it] it (fun i h => h.IsStrIter it "str_ascii_iterator" x t i) where
  mem := by simp
  obj := fun i h st b hb => by
    have e : b = it := by simpa using hb
    subst e
    obtain ⟨o, e, c, d⟩ := st
    exact ⟨o, e, fun v z => by rw [d] at z; cases z⟩
  keep := fun i h h' st k => by
    obtain ⟨o, e, r⟩ := st
    exact ⟨o, k it (by simp) o e, r⟩
  item := by
    intro X hP hw hK hc i pins s σ H E I hf st hg
    subst hP hw hK
    have hi : i < x.cps.toList.length := by rw [len_list]; exact hg
    obtain ⟨f0, f1, f2, f3, f4, f5⟩ := hf it (by simp)
    have hx : x.cps[i]? = some x.cps.toList[i] := by
      rw [← Array.getElem?_toList]
      exact List.getElem?_eq_getElem hi
    refine wpAny_pyNext_ascii_item st hx fun h' st' sb => ?_
    have I1 : Inv X pins σ H { s with heap := h', toks := s.toks + 1 } := I.turned (t' := s.toks + 1) (fun b o hb e => (sb.2 b hb).trans e) f0 f1 f3 f4 f5
    obtain ⟨o, e, c, d⟩ := id st'
    exact ⟨_, rfl, go_of (s := { s with heap := h', toks := s.toks + 1 }) e c d (by decide) ⟨V.str ⟨#[x.cps.toList[i]]⟩, H, I1, ⟨_, rfl⟩, ⟨rfl, _, List.getElem?_eq_getElem hi, rfl⟩, st', fun b hb => (hf b hb).1⟩⟩
  done := by
    intro X hP hw hK hc i pins s σ H E I hf st hg
    subst hP hw hK
    obtain ⟨f0, f1, f2, f3, f4, f5⟩ := hf it (by simp)
    have hx : x.cps[i]? = none := by
      rw [← Array.getElem?_toList, List.getElem?_eq_none_iff, len_list]
      exact hg
    exact wpAny_pyNext_ascii_end (I.ok.hd hc) st hx fun h' eb => ⟨rfl, I.turned (t' := s.toks) (fun b o hb e => eb b o hb e) f0 f1 f3 f4 f5⟩
  self := fun _ _ _ _ _ st h => wpAny_pyIter_striter_ascii st h
def iStr (tl : TE) : TI := fun σ H R => tl σ H fun x H1 => ∃ a, x = .str a ∧ (∀ c ∈ a.cps.toList, c < 128) ∧ R (Its a) H1
theorem pi_str {tg l : Expr} {tl : TE} (hl : PE X l tl) : PI X tg l (iStr tl) := by
  intro pins s σ H R I h
  refine thn (hl pins s σ H _ I h) fun v s1 ⟨x, H1, I1, r1, a, e, ha, q⟩ => ?_
  subst e
  obtain ⟨t, rfl⟩ := r1
  have hal : a.cps.all (· < 128) = true := by
    rw [← Array.all_toList, List.all_eq_true]
    intro c hc
    simpa using ha c hc
  refine wpAny_pyIter_ascii hal ?_
  refine ⟨s1.heap.objs.size, [s1.heap.objs.size], _, _, H1, rfl, I1.kept (t' := s1.toks) fun b o e => Heap.get?_push_of_some _ e, turn_str a t _, ⟨_, Heap.get?_push_size _ rfl, rfl, rfl⟩, fun b hb => ?_, q⟩
  have e : b = s1.heap.objs.size := by simpa using hb
  subst e
  exact I1.fpOk (Nat.le_refl _) (I1.hok.fresh (Nat.le_refl _))
end
end L2

set_option linter.all false
set_option maxRecDepth 100000
namespace L2
open PySem PySem.Spec PyProof.Rows
section
variable {σ : St} {H : Hp} {te tl : TE} {fr : St → St} {k : Nat} {K : PySem.W.Frag}
/-- [.. for x in what is laid] -/
theorem gv_compOf {g : TG} {RL R : V → Hp → Prop} (hl : Gv tl σ H RL) (hr : ∀ v H1, RL v H1 → Gv (tComp (iList K (tC v)) fr g te) σ H1 R) : Gv (tComp (iList K tl) fr g te) σ H R := fun Q q => hl _ fun v H1 r => hr v H1 r Q q
/-- over a text's signs -/
theorem gv_compS {a : Str} (f : Nat → V) (hl : Pu tl σ H (.str a)) (ha : ∀ c ∈ a.cps.toList, c < 128) (hz : a.length ≤ 1000) (hk : ∀ x, KeepS (fr σ) ((fr σ).set k (some x)))
    (hs : ∀ c ∈ a.cps.toList, ∀ H', Same H H' → Pu te ((fr σ).set k (some (.str ⟨#[c]⟩))) H' (f c)) : Gv (tComp (iStr tl) fr (gName k) te) σ H (fun v H' => ∃ D, H D = none ∧ v = .ref D ∧ H' = upd H D (.lst (a.cps.toList.map f))) := by
  intro Q g
  refine hl _ ⟨a, rfl, ha, fun D hD => ?_⟩
  refine ⟨fun i m ys H' => m = a.length - i ∧ i ≤ a.length ∧ ys = (a.cps.toList.take i).map f ∧ H' = upd H D (.lst ys), ⟨_, rfl, Nat.zero_le _, rfl, rfl⟩, ?_⟩
  rintro i m ys H' ⟨rfl, hi, rfl, rfl⟩
  have s' : Same H (upd H D (.lst ((a.cps.toList.take i).map f))) := Same.upd hD
  by_cases hlt : i < a.length
  · refine .inr ⟨hlt, ?_, fun x H3 y => ?_⟩
    · rw [List.length_map, List.length_take]; exact small1000 (by omega)
    obtain ⟨e, c, ex, e2⟩ := y
    subst e e2
    refine ⟨hk _, hs c (List.mem_of_getElem? ex) _ s' _ ⟨upd_same, a.length - (i + 1), by omega, rfl, hlt, ?_, ?_⟩⟩
    · rw [List.take_succ, ex]; simp
    · rw [upd_upd]
  · have e : i = a.length := by omega
    subst e
    refine .inl ⟨Nat.le_refl _, g _ _ ⟨D, hD, rfl, ?_⟩⟩
    rw [← len_list, List.take_length]
/-- the same, by places -/
theorem gv_compLI {a : Addr} {xs ws : List V} (hl : Pu tl σ H (.ref a)) (ha : H a = some (.lst xs)) (hz : xs.length ≤ 1000) (hx : xs.length = ws.length) (hk : ∀ x, KeepS (fr σ) ((fr σ).set k (some x)))
    (hs : ∀ (i : Nat) x w H', xs[i]? = some x → ws[i]? = some w → Same H H' → Gv te ((fr σ).set k (some x)) H' (fun v H'' => v = w ∧ Same H' H'')) : Gv (tComp (iList K tl) fr (gName k) te) σ H (fun v H' => Same H H' ∧ ∃ D, v = .ref D ∧ H D = none ∧ H' D = some (.lst ws)) := by
  intro Q g
  refine hl _ ⟨a, rfl, ⟨xs, SqL.of ha⟩, fun D hD => ?_⟩
  refine ⟨fun i m ys H' => m = xs.length - i ∧ i ≤ xs.length ∧ ys = ws.take i ∧ Same H H' ∧ H' D = some (.lst ys), ⟨_, rfl, Nat.zero_le _, rfl, Same.upd hD, upd_same⟩, ?_⟩
  rintro i m ys H' ⟨rfl, hi, rfl, s', hD'⟩
  by_cases hlt : i < xs.length
  · refine .inr ⟨⟨xs, xs[i], SqL.of (s' _ _ ha), by simp [hlt]⟩, ?_, fun x H3 y => ?_⟩
    · rw [List.length_take]; exact small1000 (by omega)
    obtain ⟨e, y⟩ := y
    subst e
    have ex := y xs (SqL.of (s' _ _ ha))
    have ew : ws[i]? = some ws[i] := List.getElem?_eq_getElem (by omega)
    refine ⟨hk x, hs i x _ _ ex ew s' _ fun v H4 ⟨e4, s4⟩ => ⟨s4 _ _ hD', xs.length - (i + 1), by omega, rfl, hlt, ?_, ?_, upd_same⟩⟩
    · rw [List.take_succ, ew, e4]; simp
    · exact same_updNew (s'.trans s4) hD
  · have e : i = xs.length := by omega
    subst e
    exact .inl ⟨⟨xs, SqL.of (s' _ _ ha), Nat.le_refl _⟩, g _ _ ⟨s', D, rfl, hD, by rw [hD', hx, List.take_length]⟩⟩
/-- over a list, each turn lays a point -/
theorem gv_compPt {a : Addr} {xs : List V} {pts : List Pt3} (hl : Pu tl σ H (.ref a)) (ha : H a = some (.lst xs)) (hz : xs.length ≤ 1000) (hx : xs.length = pts.length) (hk : ∀ x, KeepS (fr σ) ((fr σ).set k (some x)))
    (hs : ∀ (i : Nat) x p H', xs[i]? = some x → pts[i]? = some p → Same H H' → Gv te ((fr σ).set k (some x)) H' (fun w H'' => Same H' H'' ∧ AtP H'' w p)) : Gv (tComp (iList K tl) fr (gName k) te) σ H (fun v H' => Same H H' ∧ ∃ D, v = .ref D ∧ H D = none ∧ LP H' D pts) := by
  intro Q g
  refine hl _ ⟨a, rfl, ⟨xs, SqL.of ha⟩, fun D hD => ?_⟩
  refine ⟨fun i m ys H' => m = xs.length - i ∧ i ≤ xs.length ∧ Same H H' ∧ H' D = some (.lst ys) ∧ TupsT H' ys ((pts.take i).map L3), ⟨_, rfl, Nat.zero_le _, Same.upd hD, upd_same, .nil⟩, ?_⟩
  rintro i m ys H' ⟨rfl, hi, s', hD', ty⟩
  have hyl : ys.length = i := by
    rw [ty.len, List.length_map, List.length_take]
    omega
  by_cases hlt : i < xs.length
  · refine .inr ⟨⟨xs, xs[i], SqL.of (s' _ _ ha), by simp [hlt]⟩, small1000 (by omega), fun x H3 y => ?_⟩
    obtain ⟨e, y⟩ := y
    subst e
    have ex := y xs (SqL.of (s' _ _ ha))
    have hp : pts[i]? = some pts[i] := List.getElem?_eq_getElem (by omega)
    refine ⟨hk x, hs i x _ _ ex hp s' _ fun v H4 ⟨s4, t4⟩ => ⟨s4 _ _ hD', xs.length - (i + 1), by omega, rfl, hlt, same_updNew (s'.trans s4) hD, upd_same, ?_⟩⟩
    rw [List.take_succ, hp, List.map_append]
    exact TupsT.snoc (ty.mono fun _ _ z => (z.same s4).sameB SameB.upd (s4 _ _ hD')) (TupT.sameB t4 SameB.upd (s4 _ _ hD'))
  · have e : i = xs.length := by omega
    subst e
    refine .inl ⟨⟨xs, SqL.of (s' _ _ ha), Nat.le_refl _⟩, g _ _ ⟨s', D, rfl, hD, ys, hD', ?_⟩⟩
    rw [hx, List.take_length] at ty
    exact ty
end
end L2

set_option linter.all false
set_option maxRecDepth 100000
namespace L2
open PySem PySem.StrLaws PySem.Builtin PySem.Builtin.Str PyProof.Rows
/-! ### fractions, points and their texts -/
structure FrL (f : Int × Int) : Prop where
  pos : 0 < f.2
  cop : Int.gcd f.1 f.2 = 1
  b1 : Bd 400 f.1
  b2 : Bd 400 f.2
/-- short enough to be read -/
def FrS (f : Int × Int) : Prop := f.1.natAbs < 10 ^ 60 ∧ f.2.natAbs < 10 ^ 60
def ptF (x y : Int × Int) : Pt3 := pbF (x.1 * y.2) (y.1 * x.2) (x.2 * y.2)
theorem ptF_z {x y : Int × Int} (hx : FrL x) (hy : FrL y) : 0 < x.2 * y.2 := Int.mul_pos hx.pos hy.pos
theorem ptF_pos {x y : Int × Int} (hx : FrL x) (hy : FrL y) : 0 < (ptF x y).z := by
  obtain ⟨lp, _⟩ := pb_has (a := x.1 * y.2) (b := y.1 * x.2) (Int.ne_of_gt (ptF_z hx hy))
  exact lp.1
theorem ptF_x {x y : Int × Int} (hx : FrL x) (hy : FrL y) : (ptF x y).x.fdiv (gS (ptF x y).x (ptF x y).z) = x.1 ∧ (ptF x y).z.fdiv (gS (ptF x y).x (ptF x y).z) = x.2 := by
  have hz := ptF_z hx hy
  obtain ⟨lp, k, hk, e1, e2, e3⟩ := pb_has (a := x.1 * y.2) (b := y.1 * x.2) (Int.ne_of_gt hz)
  have h0 := ptF_pos hx hy
  refine low_one hx.pos hx.cop (Int.ne_of_gt h0) ?_
  refine Int.eq_of_mul_eq_mul_left (Int.mul_ne_zero hk (Int.ne_of_gt hy.pos)) ?_
  have f1 : k * y.2 * (x.1 * (ptF x y).z) = (x.1 * y.2) * (k * (ptF x y).z) := by grind
  have f2 : k * y.2 * ((ptF x y).x * x.2) = (k * (ptF x y).x) * (x.2 * y.2) := by grind
  rw [f1, f2]
  show x.1 * y.2 * (k * (pbF (x.1 * y.2) (y.1 * x.2) (x.2 * y.2)).z) = k * (pbF (x.1 * y.2) (y.1 * x.2) (x.2 * y.2)).x * (x.2 * y.2)
  rw [← e3, ← e1]
theorem ptF_y {x y : Int × Int} (hx : FrL x) (hy : FrL y) : (ptF x y).y.fdiv (gS (ptF x y).y (ptF x y).z) = y.1 ∧ (ptF x y).z.fdiv (gS (ptF x y).y (ptF x y).z) = y.2 := by
  have hz := ptF_z hx hy
  obtain ⟨lp, k, hk, e1, e2, e3⟩ := pb_has (a := x.1 * y.2) (b := y.1 * x.2) (Int.ne_of_gt hz)
  have h0 := ptF_pos hx hy
  refine low_one hy.pos hy.cop (Int.ne_of_gt h0) ?_
  refine Int.eq_of_mul_eq_mul_left (Int.mul_ne_zero hk (Int.ne_of_gt hx.pos)) ?_
  have f1 : k * x.2 * (y.1 * (ptF x y).z) = (y.1 * x.2) * (k * (ptF x y).z) := by grind
  have f2 : k * x.2 * ((ptF x y).y * y.2) = (k * (ptF x y).y) * (x.2 * y.2) := by grind
  rw [f1, f2]
  show y.1 * x.2 * (k * (pbF (x.1 * y.2) (y.1 * x.2) (x.2 * y.2)).z) = k * (pbF (x.1 * y.2) (y.1 * x.2) (x.2 * y.2)).y * (x.2 * y.2)
  rw [← e3, ← e2]
theorem ptF_sz {x y : Int × Int} (hx : FrL x) (hy : FrL y) : Sz 900 (ptF x y) := by
  have h := (pt_has (a := x.1 * y.2) (b := y.1 * x.2) (c := x.2 * y.2) (ptF_z hx hy)).1
  have e := pb_is3 (Int.ne_of_gt (ptF_z hx hy)) h
  unfold ptF
  rw [e]
  exact Sz.is3 h ((hx.b1.mul hy.b2).mono (by decide)) ((hy.b1.mul hx.b2).mono (by decide)) ((hx.b2.mul hy.b2).mono (by decide))
theorem bd_log {n : Int} (h : Bd 1000 n) : n.natAbs.log2 < 1920 := Nat.lt_trans (h.log (by decide)) (by decide)
theorem tx_len4 {n : Int} (h : Bd 400 n) : (tx n).length ≤ 450 := by
  have : n.natAbs < 10 ^ 400 := Nat.lt_trans h (by decide +kernel)
  have := int_text_length_le10 (a := n) (k := 400) (by decide) this
  have e : (tx n).length = (toString n).length := by
    rw [← len_list]
    unfold tx
    rw [signs_ofString, List.length_map]
    rfl
  omega
theorem shF_len {f : Int × Int} (h1 : Bd 400 f.1) (h2 : Bd 400 f.2) : (shF f).length ≤ 901 := by
  have l1 := tx_len4 h1
  have l2 := tx_len4 h2
  unfold shF
  split
  · omega
  · rw [app_len, app_len]
    have : (Str.ofString "/").length = 1 := by decide +kernel
    omega
theorem shP_len {x y : Int × Int} (hx : FrL x) (hy : FrL y) : (shP x y).length ≤ 1803 := by
  have l1 := shF_len hx.b1 hx.b2
  have l2 := shF_len hy.b1 hy.b2
  show (shF x ++ Str.ofString "," ++ shF y).length ≤ 1803
  rw [app_len, app_len]
  have : (Str.ofString ",").length = 1 := by decide +kernel
  omega
/-- joined texts are not too long -/
theorem fold_le {sep : Str} {b : Nat} : ∀ (ts : List Str) (a : Nat), (∀ t ∈ ts, t.length ≤ b) → ts.foldl (fun n t => n + t.length + sep.length) a ≤ a + ts.length * (b + sep.length)
  | [], a, _ => by simp
  | t :: r, a, h => by
    have ih := fold_le (sep := sep) (b := b) r (a + t.length + sep.length) fun u hu => h u (List.mem_cons_of_mem _ hu)
    have ht := h t (by simp)
    rw [List.foldl_cons, List.length_cons, Nat.succ_mul]
    omega
theorem joinOk_of {sep : Str} {ts : List Str} {b m : Nat} (h : ∀ t ∈ ts, t.length ≤ b) (hm : ts.length ≤ m) (hb : m * (b + sep.length) ≤ 16000000) : PySem.JoinOk sep ts = true := by
  have h1 := fold_le (sep := sep) ts 0 h
  have h2 : ts.length * (b + sep.length) ≤ m * (b + sep.length) := Nat.mul_le_mul_right _ hm
  unfold PySem.JoinOk Builtin.Str.tooLong
  rw [List.foldl_toArray']
  · rw [Bool.not_eq_true', decide_eq_false_iff_not]
    have : sizeLine = 16777216 := by decide
    omega
  · rfl
theorem join_len {sep : Str} {b : Nat} : ∀ (ts : List Str), (∀ t ∈ ts, t.length ≤ b) → (Str.join sep ts).length ≤ ts.length * (b + sep.length)
  | [], _ => by show Str.empty.length ≤ _; exact Nat.zero_le _
  | [t], h => by
    have := h t (by simp)
    show t.length ≤ _
    simp only [List.length_cons, List.length_nil]
    omega
  | t :: u :: r, h => by
    have ih := join_len (sep := sep) (b := b) (u :: r) fun z hz => h z (List.mem_cons_of_mem _ hz)
    have ht := h t (by simp)
    show (t ++ sep ++ Str.join sep (u :: r)).length ≤ _
    rw [app_len, app_len, List.length_cons (a := t), Nat.succ_mul]
    omega
/-! ### readings of texts -/
section
variable {σ : St} {H : Hp} {te tl to : TE} {K : PySem.W.Frag}
/-- sep.join(what is laid) -/
theorem gv_join {a : Str} {R R' : V → Hp → Prop} (ho : ∀ H', Pu to σ H' (.str a)) (h : Gv tl σ H R) (hr : ∀ v H', R v H' → ∃ l ys, v = .ref l ∧ H' l = some (.lst (ys.map V.str)) ∧ PySem.JoinOk a ys = true ∧ R' (.str (Str.join a ys)) H') :
    Gv (tBM K "str" (fun x xs H Q => ∃ a l ys, x = .str a ∧ xs = [.ref l] ∧ SqL K H l (ys.map V.str) ∧ PySem.JoinOk a ys = true ∧ Q (.str (Str.join a ys)) H) to (tCons tl tNil)) σ H R' := fun Q q =>
  ho H _ ⟨rfl, h _ fun v H' r => by
    obtain ⟨l, ys, rfl, h1, h2, h3⟩ := hr v H' r
    exact ⟨a, l, ys, rfl, rfl, SqL.of h1, h2, q _ _ h3⟩⟩
/-- x.split(y) -/
theorem gv_split {a b : Str} {ts : List Str} {tb : TE} (ho : Pu to σ H (.str a)) (hb : Pu tb σ H (.str b)) (h1 : 1 ≤ b.length) (h2 : a.length ≤ sizeLine) (e : Txt.split a b = ts) (h3 : ts.length ≤ sizeLine) :
    Gv (tBM K "str" (fun x xs H Q => ∃ a b, x = .str a ∧ xs = [.str b] ∧ 1 ≤ b.length ∧ a.length ≤ sizeLine ∧ (Txt.split a b).length ≤ sizeLine ∧ ∀ p, H p = none → Q (.ref p) (upd H p (.lst ((Txt.split a b).map V.str)))) to (tCons tb tNil)) σ H (fun v H' => ∃ p, H p = none ∧ v = .ref p ∧ H' = upd H p (.lst (ts.map V.str))) := fun Q q =>
  ho _ ⟨rfl, hb _ ⟨a, b, rfl, rfl, h1, h2, by rw [e]; exact h3, fun p hp => by rw [e]; exact q _ _ ⟨p, hp, rfl, rfl⟩⟩⟩
/-- x.startswith(y) -/
theorem pu_starts {a b : Str} {tb : TE} (ho : Pu to σ H (.str a)) (hb : Pu tb σ H (.str b)) : Pu (tBM K "str" (fun x xs H Q => ∃ a b, x = .str a ∧ xs = [.str b] ∧ Q (.bl (decide (0 + b.length ≤ a.length) && Builtin.Str.subAt a b 0)) H) to (tCons tb tNil)) σ H (.bl (decide (0 + b.length ≤ a.length) && Builtin.Str.subAt a b 0)) := fun Q q =>
  ho _ ⟨rfl, hb _ ⟨a, b, rfl, rfl, q⟩⟩
theorem starts_one (a : Str) (c : Nat) : (decide (0 + (⟨#[c]⟩ : Str).length ≤ a.length) && Builtin.Str.subAt a ⟨#[c]⟩ 0) = decide (a.cps.toList[0]? = some c) := by
  rw [Bool.eq_iff_iff, Bool.and_eq_true, decide_eq_true_iff, decide_eq_true_iff]
  exact subAt_one a c 0
theorem pu_addS {ta tb : TE} {x y : Str} (ha : Pu ta σ H (.str x)) (hb : Pu tb σ H (.str y)) (hz : x.length + y.length ≤ sizeLine) : Pu (tOp (fun x y H Q => ∃ i j, x = .str i ∧ y = .str j ∧ i.length + j.length ≤ sizeLine ∧ Q (.str (i ++ j)) H) ta tb) σ H (.str (x ++ y)) := fun _ q => ha _ (hb _ ⟨x, y, rfl, rfl, hz, q⟩)
theorem pu_neStr {ta tb : TE} {x y : Str} (ha : Pu ta σ H (.str x)) (hb : Pu tb σ H (.str y)) : Pu (tOp rNe ta tb) σ H (.bl (!decide (x = y))) := fun _ q => ha _ (hb _ ⟨rfl, by
  have e : decide (V.str x = V.str y) = decide (x = y) := by
    by_cases z : x = y
    · simp [z]
    · simp [z]
  rw [e]
  exact q⟩)
theorem pu_lenS {t : TA} {z : Str} (ha : PuA t σ H [.str z]) (hz : z.length ≤ sizeLine) : Pu (tCB (fun xs H Q => ∃ z, xs = [.str z] ∧ z.length ≤ sizeLine ∧ Q (.int z.length) H) t) σ H (.int z.length) := fun _ q => ha _ ⟨z, rfl, hz, q⟩
theorem pu_strI {t : TA} {i : Int} (ha : PuA t σ H [.int i]) (hb : Bd 1000 i) : Pu (tCB (fun xs H Q => ∃ i, xs = [.int i] ∧ i.natAbs.log2 < 1920 ∧ Q (.str (toString i)) H) t) σ H (.str (tx i)) := fun _ q => ha _ ⟨i, rfl, bd_log hb, q⟩
theorem pu_inS {ta tb : TE} {c : Nat} {y : Str} (ha : Pu ta σ H (.str ⟨#[c]⟩)) (hb : Pu tb σ H (.str y)) : Pu (tOp (fun x y H Q => ∃ i j, x = .str i ∧ y = .str j ∧ Q (.bl (!(Builtin.Str.occurrences j i 0 j.length 1).isEmpty)) H) ta tb) σ H (.bl (decide (c ∈ y.cps.toList))) := fun _ q => ha _ (hb _ ⟨_, _, rfl, rfl, by rw [found_one]; exact q⟩)
theorem pu_cut1 {a : Str} {tn : TO} (ho : Pu to σ H (.str a)) (h1 : 1 ≤ a.length) (h2 : a.length ≤ sizeLine) : Pu (tSl rSl1 to (tPart (tC (.int 1))) tNoPart) σ H (.str ⟨(a.cps.toList.drop 1).toArray⟩) := fun Q q =>
  ho _ ⟨1, rfl, a, rfl, rfl, rfl, h1, h2, q⟩
end
theorem gt_nt {te : TE} {σ : St} {H : Hp} {R : Hp → Prop} (h : Gv te σ H (fun v H' => v = .bl true ∧ R H')) : GvT (tNot (tB te)) σ H (fun b H' => b = false ∧ R H') := fun Q q => h _ fun v H' r => ⟨true, r.1, q _ _ ⟨rfl, r.2⟩⟩
theorem st_list1 {K : PySem.W.Frag} {σ : St} {H : Hp} {D : Ends} {g : TG} {tb : TS} {te : TE} {a : Addr} {xs : List V} (ha : Pu te σ H (.ref a)) (Pv : Nat → St → Hp → Prop) (h0 : Pv 0 σ H) (hl : ∀ i σ H, i ≤ xs.length → Pv i σ H → SqL K H a xs)
    (hs : ∀ (i : Nat) x σ H, xs[i]? = some x → Pv i σ H → g x σ H fun σ2 H2 => tb { D with nx := Pv (i + 1), ct := Pv (i + 1), bk := D.nx } σ2 H2) (hd : ∀ σ H, Pv xs.length σ H → D.nx σ H) : tFor (iList K te) g tb D σ H :=
  ha _ ⟨a, rfl, ⟨xs, hl 0 σ H (Nat.zero_le _) h0⟩, for_list (D := D) Pv h0 hl hs hd⟩
/-! ### reading a number -/
theorem s_minus : Str.ofString "-" = ⟨#[45]⟩ := by decide +kernel
theorem s_zero : Str.ofString "0" = ⟨#[48]⟩ := by decide +kernel
def fig (n : Int) : Str := ⟨(Dg n.natAbs).toArray⟩
theorem fig_list (n : Int) : (fig n).cps.toList = Dg n.natAbs := rfl
theorem fig_len {n : Int} (h : n.natAbs < 10 ^ 60) : 1 ≤ (fig n).length ∧ (fig n).length ≤ 60 := by
  rw [← len_list, fig_list]
  exact ⟨Dg_len _, Dg_le (by decide) h⟩
theorem tx_neg' {n : Int} (h : n < 0) : (tx n).cps.toList = 45 :: Dg n.natAbs := by
  obtain ⟨m, hm, rfl⟩ : ∃ m : Nat, 0 < m ∧ n = -(m : Int) := ⟨n.natAbs, by omega, by omega⟩
  rw [tx_neg m hm]
  have : (-(m : Int)).natAbs = m := by omega
  rw [this]
theorem tx_pos' {n : Int} (h : 0 ≤ n) : (tx n).cps.toList = Dg n.natAbs := by
  obtain ⟨m, rfl⟩ := Int.eq_ofNat_of_zero_le h
  exact tx_pos m
theorem tx_fig {n : Int} (h : 0 ≤ n) : tx n = fig n := str_ext (tx_pos' h)
theorem Dg_head (m : Nat) : (Dg m)[0]? ≠ some 45 := fun e => by
  have := Dg_all m 45 (List.mem_of_getElem? e)
  omega
theorem tx_starts (n : Int) : decide ((tx n).cps.toList[0]? = some 45) = decide (n < 0) := by
  rcases Int.lt_or_le n 0 with h | h
  · rw [tx_neg' h]
    simp [h]
  · rw [tx_pos' h]
    have := Dg_head n.natAbs
    simp [this, h]
theorem fig_ascii (n : Int) : ∀ c ∈ (fig n).cps.toList, c < 128 := fun c hc => by
  have := Dg_all _ c hc
  omega
theorem fig_digit (n : Int) : ∀ c ∈ (fig n).cps.toList, c ∈ (Str.ofString "0123456789").cps.toList := fun c hc => by
  obtain ⟨h1, h2⟩ := Dg_all _ c hc
  have : (Str.ofString "0123456789").cps.toList = [48, 49, 50, 51, 52, 53, 54, 55, 56, 57] := by decide +kernel
  rw [this]
  simp only [List.mem_cons, List.not_mem_nil, or_false]
  omega
theorem fig_zero {n : Int} (h : (fig n).cps.toList[0]? = some 48) : tx n = Str.ofString "0" := by
  have : n.natAbs = 0 := Dg_lead h
  have e : n = 0 := by omega
  subst e
  decide +kernel
end L2

set_option linter.all false
set_option maxRecDepth 100000
namespace L2
open PySem PySem.Spec PyProof.Rows
/-! ### rings that are drawn -/
theorem paired_keep {α β : Type} {F G : α → β → Prop} : ∀ {as : List α} {bs : List β}, Paired F as bs → (∀ a ∈ as, ∀ b, F a b → G a b) → Paired G as bs
  | _, _, .nil, _ => .nil
  | _, _, .cons h t, k => .cons (k _ (by simp) _ h) (paired_keep t fun a ha b => k a (List.mem_cons_of_mem _ ha) b)
theorem paired_add {α β : Type} {F : α → β → Prop} : ∀ {as : List α} {bs : List β} {a : α} {b : β}, Paired F as bs → F a b → Paired F (as ++ [a]) (bs ++ [b])
  | _, _, _, _, .nil, h => .cons h .nil
  | _, _, _, _, .cons g t, h => .cons g (paired_add t h)
/-- fractions in a list -/
def FrsAt (H : Hp) (l : Addr) (fs : List (Int × Int)) : Prop := ∃ ys, H l = some (.lst ys) ∧ TupsT H ys (fs.map fun f => [f.1, f.2])
theorem FrsAt.but {H H' : Hp} {l D : Addr} {fs : List (Int × Int)} {ys : List V} (h : FrsAt H l fs) (n : l ≠ D) (d : H D = some (.lst ys)) (s : SameB D H H') : FrsAt H' l fs := by
  obtain ⟨zs, h1, h2⟩ := h
  exact ⟨zs, s _ _ h1 n, h2.mono fun _ _ x => TupT.sameB x s d⟩
theorem FrsAt.same {H H' : Hp} {l : Addr} {fs : List (Int × Int)} (h : FrsAt H l fs) (s : Same H H') : FrsAt H' l fs := by
  obtain ⟨zs, h1, h2⟩ := h
  exact ⟨zs, s _ _ h1, h2.mono fun _ _ x => TupT.same x s⟩
/-- rings and their texts in two lists -/
abbrev Fp := (Int × Int) × (Int × Int)
def ptsOf (r : List Fp) : List Pt3 := r.map fun f => ptF f.1 f.2
def Bk (H : Hp) (lr lt hd : Addr) (rs : List (List Fp)) : Prop := ∃ as : List Addr, H lr = some (.lst (as.map V.ref)) ∧ Paired (LP H) as (rs.map ptsOf) ∧ (∀ a ∈ as, a ≠ lr ∧ a ≠ lt ∧ a ≠ hd) ∧ H lt = some (.lst ((rs.map shR).map V.str))
theorem Bk.hand {H H' : Hp} {lr lt hd sc : Addr} {rs : List (List Fp)} (h : Bk H lr lt hd rs) (hh : HandAt H hd sc) (s : SameB hd H H') (n1 : lr ≠ hd) (n2 : lt ≠ hd) : Bk H' lr lt hd rs := by
  obtain ⟨as, h1, h2, h3, h4⟩ := h
  obtain ⟨ys, hy⟩ := hh.ls
  exact ⟨as, s _ _ h1 n1, paired_keep h2 fun a ha r g => LP.but g (h3 a ha).2.2 hy s, h3, s _ _ h4 n2⟩
theorem Bk.same {H H' : Hp} {lr lt hd : Addr} {rs : List (List Fp)} (h : Bk H lr lt hd rs) (s : Same H H') : Bk H' lr lt hd rs := by
  obtain ⟨as, h1, h2, h3, h4⟩ := h
  exact ⟨as, s _ _ h1, paired_mono h2 fun _ _ x => x.same s, h3, s _ _ h4⟩
theorem Bk.rows {H : Hp} {lr lt hd : Addr} {rs : List (List Fp)} (h : Bk H lr lt hd rs) : RgL H lr (rs.map ptsOf) := by
  obtain ⟨as, h1, h2, _, _⟩ := h
  exact ⟨as, h1, h2⟩
/-- a ring put behind, then its text -/
theorem Bk.add {H : Hp} {lr lt hd a : Addr} {rs : List (List Fp)} {r : List Fp} (h : Bk H lr lt hd rs) (n : lr ≠ lt) (ha : LP H a (ptsOf r)) (n1 : a ≠ lr) (n2 : a ≠ lt) (n3 : a ≠ hd) :
    ∃ xs, H lr = some (.lst xs) ∧ xs.length = rs.length ∧ ∀ H2, H2 = upd H lr (.lst (xs ++ [.ref a])) → ∃ ts, H2 lt = some (.lst ts) ∧ ts.length = rs.length ∧ Bk (upd H2 lt (.lst (ts ++ [.str (shR r)]))) lr lt hd (rs ++ [r]) := by
  obtain ⟨as, h1, h2, h3, h4⟩ := h
  have hlen := paired_len h2
  rw [List.length_map] at hlen
  refine ⟨_, h1, by rw [List.length_map]; exact hlen, fun H2 e => ?_⟩
  subst e
  have h4' : (upd H lr (.lst (as.map V.ref ++ [.ref a]))) lt = some (.lst ((rs.map shR).map V.str)) := by rw [upd_ne n.symm]; exact h4
  refine ⟨_, h4', by rw [List.length_map, List.length_map], as ++ [a], ?_, ?_, ?_, ?_⟩
  · rw [upd_ne n, upd_same, List.map_append]
    rfl
  · rw [List.map_append]
    refine paired_add (paired_keep h2 fun b hb q g => ?_) ?_
    · exact LP.but (LP.but g (h3 b hb).1 h1 SameB.upd) (h3 b hb).2.1 h4' SameB.upd
    · exact LP.but (LP.but ha n1 h1 SameB.upd) n2 h4' SameB.upd
  · intro b hb
    rcases List.mem_append.mp hb with hb | hb
    · exact h3 b hb
    · rw [List.mem_singleton.mp hb]
      exact ⟨n1, n2, n3⟩
  · rw [upd_same, List.map_append, List.map_append]
    rfl
theorem st_rangeG1 {σ : St} {H : Hp} {D : Ends} {g : TG} {tb : TS} {ta : TA} {R : List V → Hp → Prop} (ha : GvA ta σ H R)
    (hr : ∀ vs H1, R vs H1 → ∃ n : Int, vs = [.int n] ∧ -(2 ^ 62) ≤ n ∧ n < 2 ^ 62 ∧ ∃ Pv : Nat → St → Hp → Prop, Pv 0 σ H1 ∧
    (∀ (i : Nat) σ H, i < n.toNat → Pv i σ H → g (.int (0 + i)) σ H fun σ2 H2 => tb { D with nx := Pv (i + 1), ct := Pv (i + 1), bk := D.nx } σ2 H2) ∧ (∀ σ H, Pv n.toNat σ H → D.nx σ H)) : tFor (iRng1 ta) g tb D σ H :=
  ha _ fun vs H1 r => by
    obtain ⟨n, rfl, h1, h2, Pv, h0, hs, hd⟩ := hr vs H1 r
    exact ⟨n, rfl, h1, h2, for_range (D := D) Pv h0 hs hd⟩
section
variable {σ : St} {H : Hp} {te : TE} {K : PySem.W.Frag}
/-- [.. for x in range(what is drawn)] -/
theorem gv_compRG {ta : TA} {fr : St → St} {g : TG} {RA : List V → Hp → Prop} {R : V → Hp → Prop} (ha : GvA ta σ H RA) (hr : ∀ vs H1, RA vs H1 → ∃ n : Int, vs = [.int n] ∧ -(2 ^ 62) ≤ n ∧ n < 2 ^ 62 ∧ Gv (tComp (iRng1 (tCons (tC (.int n)) tNil)) fr g te) σ H1 R) : Gv (tComp (iRng1 ta) fr g te) σ H R := fun Q q =>
  ha _ fun vs H1 r => by
    obtain ⟨n, rfl, h1, h2, g⟩ := hr vs H1 r
    exact g Q q
end
section
variable {σ : St} {H : Hp} {te tl to : TE} {fr : St → St} {k : Nat} {K : PySem.W.Frag}
/-- over a list, each turn lays a row; the rows are new and unlike -/
theorem gv_compRow {a : Addr} {xs : List V} {rows : List (List Pt3)} (hl : Pu tl σ H (.ref a)) (ha : H a = some (.lst xs)) (hz : xs.length ≤ 1000) (hx : xs.length = rows.length) (hk : ∀ x, KeepS (fr σ) ((fr σ).set k (some x)))
    (hs : ∀ (i : Nat) x r H', xs[i]? = some x → rows[i]? = some r → Same H H' → Gv te ((fr σ).set k (some x)) H' (fun v H'' => Same H' H'' ∧ ∃ p, v = .ref p ∧ H' p = none ∧ LP H'' p r)) :
    Gv (tComp (iList K tl) fr (gName k) te) σ H (fun v H' => Same H H' ∧ ∃ (D : Addr) (as : List Addr), v = .ref D ∧ H D = none ∧ H' D = some (.lst (as.map V.ref)) ∧ Paired (LP H') as rows ∧ as.Nodup ∧ ∀ b ∈ as, b ≠ D ∧ H b = none) := by
  intro Q g
  refine hl _ ⟨a, rfl, ⟨xs, SqL.of ha⟩, fun D hD => ?_⟩
  refine ⟨fun i m ys H' => m = xs.length - i ∧ i ≤ xs.length ∧ Same H H' ∧ H' D = some (.lst ys) ∧ ∃ as : List Addr, ys = as.map V.ref ∧ Paired (LP H') as (rows.take i) ∧ as.Nodup ∧ ∀ b ∈ as, b ≠ D ∧ H b = none, ⟨_, rfl, Nat.zero_le _, Same.upd hD, upd_same, [], rfl, .nil, List.nodup_nil, fun b hb => (nomatch hb)⟩, ?_⟩
  rintro i m ys H' ⟨rfl, hi, s', hD', as, rfl, pr, nd, hb⟩
  have hal : as.length = i := by
    rw [paired_len pr, List.length_take]
    omega
  by_cases hlt : i < xs.length
  · refine .inr ⟨⟨xs, xs[i], SqL.of (s' _ _ ha), by simp [hlt]⟩, small1000 (by rw [List.length_map]; omega), fun x H3 y => ?_⟩
    obtain ⟨e, y⟩ := y
    subst e
    have ex := y xs (SqL.of (s' _ _ ha))
    have hr : rows[i]? = some rows[i] := List.getElem?_eq_getElem (by omega)
    refine ⟨hk x, hs i x _ _ ex hr s' _ fun v H4 ⟨s4, p, e4, hp, lp⟩ => ?_⟩
    subst e4
    have hD4 := s4 _ _ hD'
    have pD : p ≠ D := (ne_of_none hD' hp).symm
    refine ⟨hD4, xs.length - (i + 1), by omega, rfl, hlt, same_updNew (s'.trans s4) hD, upd_same, as ++ [p], by rw [List.map_append]; rfl, ?_, ?_, ?_⟩
    · rw [List.take_succ, hr]
      exact paired_add (paired_keep pr fun b hb' q z => LP.but (z.same s4) (hb b hb').1 hD4 SameB.upd) (LP.but lp pD hD4 SameB.upd)
    · rw [List.nodup_append]
      refine ⟨nd, by simp, fun b hb' c hc => ?_⟩
      rw [List.mem_singleton.mp hc]
      intro z
      subst z
      obtain ⟨j, hj⟩ := List.getElem?_of_mem hb'
      obtain ⟨r, _, zs, hz', _⟩ := paired_get pr hj
      rw [hz'] at hp
      cases hp
    · intro b hb'
      rcases List.mem_append.mp hb' with hb' | hb'
      · exact hb b hb'
      · rw [List.mem_singleton.mp hb']
        exact ⟨pD, s'.free hp⟩
  · have e : i = xs.length := by omega
    subst e
    rw [hx, List.take_length] at pr
    exact .inl ⟨⟨xs, SqL.of (s' _ _ ha), Nat.le_refl _⟩, g _ _ ⟨s', D, as, rfl, hD, hD', pr, nd, hb⟩⟩
/-- xs[:-1] -/
theorem gv_init {l : Addr} {xs : List V} {v : V} (ho : Pu to σ H (.ref l)) (hl : H l = some (.lst (xs ++ [v]))) : Gv (tSl (rSlL K) to tNoPart (tPart (tUn (rU fun i => .int (-i)) (tC (.int 1))))) σ H (fun w H' => ∃ p, H p = none ∧ w = .ref p ∧ H' = upd H p (.lst xs)) := fun Q q =>
  ho _ ⟨1, rfl, -1, rfl, l, _, rfl, SqL.of hl, fun p hp => by
    have e : cutV (xs ++ [v]) none (some (-1)) = xs := by
      unfold cutV
      have e1 : HT.sIx (xs ++ [v]).length 0 none = 0 := rfl
      have e2 : HT.sIx (xs ++ [v]).length (xs ++ [v]).length (some (-1)) = xs.length := by
        show (if (-1 : Int) < 0 then (-1 + ((xs ++ [v]).length : Int)).toNat else min (-1 : Int).toNat (xs ++ [v]).length) = xs.length
        rw [if_pos (by decide), List.length_append]
        simp only [List.length_cons, List.length_nil]
        omega
      rw [e1, e2, List.drop_zero, Nat.sub_zero, List.take_left]
    rw [e]
    exact q _ _ ⟨p, hp, rfl, rfl⟩⟩
end
theorem paired_unsnoc {α β : Type} {F : α → β → Prop} : ∀ {as : List α} {a : α} {bs : List β}, Paired F (as ++ [a]) bs → ∃ cs c, bs = cs ++ [c] ∧ Paired F as cs ∧ F a c
  | [], _, _, .cons h .nil => ⟨[], _, rfl, .nil, h⟩
  | x :: as, _, _, .cons h t => by
    obtain ⟨cs, c, rfl, p, f⟩ := paired_unsnoc t
    exact ⟨_ :: cs, c, rfl, .cons h p, f⟩
theorem paired_unsnoc' {α β : Type} {F : α → β → Prop} : ∀ {as : List α} {bs : List β} {b : β}, Paired F as (bs ++ [b]) → ∃ cs c, as = cs ++ [c] ∧ Paired F cs bs ∧ F c b
  | _, [], _, .cons h .nil => ⟨[], _, rfl, .nil, h⟩
  | _, x :: bs, _, .cons h t => by
    obtain ⟨cs, c, rfl, p, f⟩ := paired_unsnoc' t
    exact ⟨_ :: cs, c, rfl, .cons h p, f⟩
theorem hand_noLP {H : Hp} {hd sc : Addr} {r : List Pt3} (hh : HandAt H hd sc) (h : LP H hd r) : False := by
  obtain ⟨ns, i, b, c, p, q, h1, _, _⟩ := hh
  obtain ⟨ys, h2, t⟩ := h
  rw [h1] at h2
  cases h2
  generalize r.map L3 = zs at t
  cases t with
  | cons a t =>
    cases t with
    | cons a' t' =>
      obtain ⟨z, e, _⟩ := a'
      cases e
theorem RgL.hand {H H' : Hp} {hd sc l : Addr} {rows : List (List Pt3)} (h : RgL H l rows) (hh : HandAt H hd sc) (s : SameB hd H H') : RgL H' l rows := by
  obtain ⟨as, h1, h2⟩ := h
  obtain ⟨ys, hy⟩ := hh.ls
  have nl : l ≠ hd := by
    intro z
    obtain ⟨ns, i, b, c, p, q, g1, _, _⟩ := hh
    rw [z, g1] at h1
    match as, h1 with
    | [], h1 => cases h1
    | [_], h1 => cases h1
    | _ :: _ :: _, h1 => cases h1
  refine ⟨as, s _ _ h1 nl, paired_keep h2 fun a ha r g => LP.but g (fun z => ?_) hy s⟩
  subst z
  exact hand_noLP hh g
theorem far_pt (N : Int) : ptF (N, 1) (-1, 7) = ⟨N * 7, -1, 7⟩ := by
  refine pb_is3 (a := N * 7) (b := -1 * 1) (c := 1 * 7) (by decide) ⟨show (0 : Int) < 7 by decide, ?_, 1, by decide, by simp, show (-1 * 1 : Int) = 1 * -1 by decide, show (1 * 7 : Int) = 1 * 7 by decide⟩
  show Int.gcd (Int.gcd 7 (N * 7)) (-1) = 1
  simp
theorem far_text (N : Int) (t : Str) : Str.join (Str.ofString " | ") [shR [((N, 1), (-1, 7))], t] = tx N ++ Str.ofString ",-1/7 | " ++ t := by
  have e1 : shF (N, 1) = tx N := by unfold shF; rw [if_pos rfl]
  have e2 : shF (-1, 7) = Str.ofString "-1/7" := by decide +kernel
  have e3 : shR [((N, 1), (-1, 7))] = tx N ++ Str.ofString "," ++ Str.ofString "-1/7" := by
    show shF (N, 1) ++ Str.ofString "," ++ shF (-1, 7) = _
    rw [e1, e2]
  have e4 : (Str.ofString ",").cps.toList ++ ((Str.ofString "-1/7").cps.toList ++ (Str.ofString " | ").cps.toList) = (Str.ofString ",-1/7 | ").cps.toList := by decide +kernel
  show shR [((N, 1), (-1, 7))] ++ Str.ofString " | " ++ t = _
  rw [e3]
  apply str_ext
  rw [app_list, app_list, app_list, app_list, app_list, app_list, ← e4]
  simp only [List.append_assoc]
theorem gv_addS {σ : St} {H : Hp} {ta tb : TE} {x : Str} {R R' : V → Hp → Prop} (ha : Pu ta σ H (.str x)) (hb : Gv tb σ H R) (hr : ∀ v H', R v H' → ∃ y, v = .str y ∧ x.length + y.length ≤ sizeLine ∧ R' (.str (x ++ y)) H') :
    Gv (tOp (fun x y H Q => ∃ i j, x = .str i ∧ y = .str j ∧ i.length + j.length ≤ sizeLine ∧ Q (.str (i ++ j)) H) ta tb) σ H R' := fun Q q => ha _ (hb _ fun v H' r => by
  obtain ⟨y, rfl, h1, h2⟩ := hr v H' r
  exact ⟨x, y, rfl, rfl, h1, q _ _ h2⟩)
theorem gv_ixG {K : PySem.W.Frag} {σ : St} {H : Hp} {tl : TE} {n : Int} {R R' : V → Hp → Prop} (hl : Gv tl σ H R) (hr : ∀ v H', R v H' → ∃ p xs w, v = .ref p ∧ H' p = some (.lst xs) ∧ atI xs n = some w ∧ R' w H') : Gv (tOp (rIxL K) tl (tC (.int n))) σ H R' := fun Q q => hl _ fun v H' r => by
  obtain ⟨p, xs, w, rfl, h1, h2, h3⟩ := hr v H' r
  exact ⟨p, xs, n, w, rfl, rfl, SqL.of h1, h2, q _ _ h3⟩
end L2

set_option maxHeartbeats 4000000
namespace My
open PySem PySem.Spec PyProof.Rows L2
def top (i : Nat) : Stmt := PySem.Challenge.pw_plymap_k92_rings.main.body.getD i (.Pass ⟨0, 0, 0, 0⟩)
def s_is_whole : Stmt := top 6
def s_divisor_of : Stmt := top 7
def s_fraction : Stmt := top 8
def s_is_fraction : Stmt := top 9
def s_point_by : Stmt := top 11
def s_point_of : Stmt := top 12
def s_x_of : Stmt := top 13
def s_y_of : Stmt := top 14
def s_show_fraction : Stmt := top 18
def s_show_point : Stmt := top 19
def s_show_ring : Stmt := top 20
def s_show_rings : Stmt := top 21
def s_check_text : Stmt := top 22
def s_read_whole : Stmt := top 23
def s_read_fraction : Stmt := top 24
def s_read_point : Stmt := top 25
def s_read_ring : Stmt := top 26
def s_read_rings : Stmt := top 27
def s_l_hand : Stmt := top 29
def s_l_next : Stmt := top 30
def s_l_take : Stmt := top 31
def s_l_draw : Stmt := top 32
def s_l_divisor : Stmt := top 33
def s_l_point : Stmt := top 34
def s_l_whole : Stmt := top 35
def s_l_number : Stmt := top 36
def s_l_fraction : Stmt := top 37
def s_l_text : Stmt := top 38
def s_l_point_by : Stmt := top 39
def s_l_all_whole : Stmt := top 40
def s_l_drawn : Stmt := top 41
def s_l_told : Stmt := top 42
def s_law : Stmt := top 43
structure Adr where
  f_is_whole : Addr
  d_is_whole : FuncData
  f_divisor_of : Addr
  d_divisor_of : FuncData
  f_fraction : Addr
  d_fraction : FuncData
  f_is_fraction : Addr
  d_is_fraction : FuncData
  f_point_by : Addr
  d_point_by : FuncData
  f_point_of : Addr
  d_point_of : FuncData
  f_x_of : Addr
  d_x_of : FuncData
  f_y_of : Addr
  d_y_of : FuncData
  f_show_fraction : Addr
  d_show_fraction : FuncData
  f_show_point : Addr
  d_show_point : FuncData
  f_show_ring : Addr
  d_show_ring : FuncData
  f_show_rings : Addr
  d_show_rings : FuncData
  f_check_text : Addr
  d_check_text : FuncData
  f_read_whole : Addr
  d_read_whole : FuncData
  f_read_fraction : Addr
  d_read_fraction : FuncData
  f_read_point : Addr
  d_read_point : FuncData
  f_read_ring : Addr
  d_read_ring : FuncData
  f_read_rings : Addr
  d_read_rings : FuncData
  f_l_hand : Addr
  d_l_hand : FuncData
  f_l_next : Addr
  d_l_next : FuncData
  f_l_take : Addr
  d_l_take : FuncData
  f_l_draw : Addr
  d_l_draw : FuncData
  f_l_divisor : Addr
  d_l_divisor : FuncData
  f_l_point : Addr
  d_l_point : FuncData
  f_l_whole : Addr
  d_l_whole : FuncData
  f_l_number : Addr
  d_l_number : FuncData
  f_l_fraction : Addr
  d_l_fraction : FuncData
  f_l_text : Addr
  d_l_text : FuncData
  f_l_point_by : Addr
  d_l_point_by : FuncData
  f_l_all_whole : Addr
  d_l_all_whole : FuncData
  f_l_drawn : Addr
  d_l_drawn : FuncData
  f_l_told : Addr
  d_l_told : FuncData
  f_law : Addr
  d_law : FuncData
structure Txt (K : PySem.W.Frag) (mg : Str → Option Value) (t : Adr) : Prop where
  is_whole : Fn K mg "is_whole" s_is_whole t.f_is_whole t.d_is_whole ["thing"]
  divisor_of : Fn K mg "divisor_of" s_divisor_of t.f_divisor_of t.d_divisor_of ["one", "other"]
  fraction : Fn K mg "fraction" s_fraction t.f_fraction t.d_fraction ["top", "bottom"]
  is_fraction : Fn K mg "is_fraction" s_is_fraction t.f_is_fraction t.d_is_fraction ["thing"]
  point_by : Fn K mg "point_by" s_point_by t.f_point_by t.d_point_by ["a", "b", "c"]
  point_of : Fn K mg "point_of" s_point_of t.f_point_of t.d_point_of ["x", "y"]
  x_of : Fn K mg "x_of" s_x_of t.f_x_of t.d_x_of ["p"]
  y_of : Fn K mg "y_of" s_y_of t.f_y_of t.d_y_of ["p"]
  show_fraction : Fn K mg "show_fraction" s_show_fraction t.f_show_fraction t.d_show_fraction ["one"]
  show_point : Fn K mg "show_point" s_show_point t.f_show_point t.d_show_point ["p"]
  show_ring : Fn K mg "show_ring" s_show_ring t.f_show_ring t.d_show_ring ["ring"]
  show_rings : Fn K mg "show_rings" s_show_rings t.f_show_rings t.d_show_rings ["rings"]
  check_text : Fn K mg "check_text" s_check_text t.f_check_text t.d_check_text ["text"]
  read_whole : Fn K mg "read_whole" s_read_whole t.f_read_whole t.d_read_whole ["text"]
  read_fraction : Fn K mg "read_fraction" s_read_fraction t.f_read_fraction t.d_read_fraction ["text"]
  read_point : Fn K mg "read_point" s_read_point t.f_read_point t.d_read_point ["text"]
  read_ring : Fn K mg "read_ring" s_read_ring t.f_read_ring t.d_read_ring ["text"]
  read_rings : Fn K mg "read_rings" s_read_rings t.f_read_rings t.d_read_rings ["text"]
  l_hand : Fn K mg "_law_hand" s_l_hand t.f_l_hand t.d_l_hand ["_law_script"]
  l_next : Fn K mg "_law_next" s_l_next t.f_l_next t.d_l_next ["_law_hand_here"]
  l_take : Fn K mg "_law_take" s_l_take t.f_l_take t.d_l_take ["_law_hand_here"]
  l_draw : Fn K mg "_law_draw" s_l_draw t.f_l_draw t.d_l_draw ["_law_hand_here", "_law_many"]
  l_divisor : Fn K mg "_law_divisor" s_l_divisor t.f_l_divisor t.d_l_divisor ["_law_one", "_law_other"]
  l_point : Fn K mg "_law_point" s_l_point t.f_l_point t.d_l_point ["_law_a", "_law_b", "_law_c"]
  l_whole : Fn K mg "_law_whole" s_l_whole t.f_l_whole t.d_l_whole ["_law_thing"]
  l_number : Fn K mg "_law_number" s_l_number t.f_l_number t.d_l_number ["_law_hand_here"]
  l_fraction : Fn K mg "_law_fraction" s_l_fraction t.f_l_fraction t.d_l_fraction ["_law_hand_here"]
  l_text : Fn K mg "_law_text" s_l_text t.f_l_text t.d_l_text ["_law_one"]
  l_point_by : Fn K mg "_law_point_by" s_l_point_by t.f_l_point_by t.d_l_point_by ["_law_x", "_law_y"]
  l_all_whole : Fn K mg "_law_all_whole" s_l_all_whole t.f_l_all_whole t.d_l_all_whole ["_law_found", "_law_many"]
  l_drawn : Fn K mg "_law_drawn" s_l_drawn t.f_l_drawn t.d_l_drawn ["_law_hand_here"]
  l_told : Fn K mg "_law_told" s_l_told t.f_l_told t.d_l_told ["_law_found", "_law_due"]
  law : Fn K mg "law" s_law t.f_law t.d_law ["_law_script"]
  b_abs : mg "abs" = none
  b_all : mg "all" = none
  b_bool : mg "bool" = none
  b_int : mg "int" = none
  b_isinstance : mg "isinstance" = none
  b_len : mg "len" = none
  b_list : mg "list" = none
  b_max : mg "max" = none
  b_range : mg "range" = none
  b_str : mg "str" = none
  b_tuple : mg "tuple" = none
  k_FIGURES : ∃ tk, mg "FIGURES" = some (.str "0123456789" tk)
  k_MOST_FIGURES : ∃ tk, mg "MOST_FIGURES" = some (.int 60 tk)
section
variable {P : Program} {w : World} {K : PySem.W.Frag} {mg : Str → Option Value} {base : Heap} {t : Adr}
def sp_is_whole : Sp := fun vs H Q _ => ∃ n : Int, vs = [.int n] ∧ Q (.bl true) H
theorem sc_is_whole : FnScope ["thing"] ["thing"] (defScope s_is_whole) := ⟨rfl, rfl, rfl, by decide +kernel, rfl, by decide +kernel, by decide +kernel⟩
theorem ok_is_whole (T : Txt K mg t) : FnOk P w K mg base CX0 1 t.f_is_whole t.d_is_whole ["thing"] sp_is_whole := by
  refine T.is_whole.F.ok (k := 0) sc_is_whole (fun vs H Q E h => ?_) (fun cdv A outer s H vs Q E hr h => ?_)
  · obtain ⟨n, rfl, _⟩ := h
    rfl
  · obtain ⟨n, rfl, k⟩ := h
    refine ⟨_, (@pss_one _ _ _ (@ps_ret _ _ _ _ (@pe_and _ _ _ _ _ _ _ (@pe_callB _ _ _ _ _ _ _ _ _ call_isinst (by rfl) T.b_isinstance PyProof.Rows.boot_isinstance (@pa_cons _ _ _ _ _ (pv 0) (@pa_cons _ _ _ _ _ (@pe_ty _ _ _ _ T.b_int PyProof.Rows.boot_int (by rfl) (by decide) (by decide)) (@pa_nil _) star_name) star_name) (by decide) (by decide) (by rfl) (by rfl)) (@pe_one _ _ _ _ _ (@pe_not _ _ _ _ (@pe_callB _ _ _ _ _ _ _ _ _ call_isinst (by rfl) T.b_isinstance PyProof.Rows.boot_isinstance (@pa_cons _ _ _ _ _ (pv 0) (@pa_cons _ _ _ _ _ (@pe_ty _ _ _ _ T.b_bool PyProof.Rows.boot_bool (by rfl) (by decide) (by decide)) (@pa_nil _) star_name) star_name) (by decide) (by decide) (by rfl) (by rfl))))))), ?_⟩
    exact st_ret (pu_and (pu_isi (pa_c (pu_v rfl) (pa_c pu_c pa_n)) (.int n) kit_same) fun _ => pu_not (pu_isi (pa_c (pu_v rfl) (pa_c pu_c pa_n)) (.int n) kit_int_bool)) k
def sp_divisor_of : Sp := fun vs H Q _ => ∃ a b : Int, vs = [.int a, .int b] ∧ Q (.int (Int.gcd a b)) H
theorem sc_divisor_of : FnScope ["one", "other", "rest"] ["one", "other"] (defScope s_divisor_of) := ⟨rfl, rfl, rfl, by decide +kernel, rfl, by decide +kernel, by decide +kernel⟩
theorem ok_divisor_of (T : Txt K mg t) : FnOk P w K mg base CX0 1 t.f_divisor_of t.d_divisor_of ["one", "other"] sp_divisor_of := by
  refine T.divisor_of.F.ok (k := 0) sc_divisor_of (fun vs H Q E h => ?_) (fun cdv A outer s H vs Q E hr h => ?_)
  · obtain ⟨a, b, rfl, _⟩ := h
    rfl
  · obtain ⟨a, b, rfl, k⟩ := h
    refine ⟨_, (@pss_cons _ _ _ _ _ (@ps_set _ _ 0 _ _ _ _ sc_divisor_of.nd rfl (Or.inl rfl) (@pe_callB _ _ _ _ _ _ _ _ _ call_abs (by rfl) T.b_abs PyProof.Rows.boot_abs (@pa_cons _ _ _ _ _ (pv 0) (@pa_nil _) star_name) (by decide) (by decide) (by rfl) (by rfl)) (by rfl) (by first | exact .inl rfl | exact .inr rfl | assumption)) (@pss_cons _ _ _ _ _ (@ps_set _ _ 1 _ _ _ _ sc_divisor_of.nd rfl (Or.inl rfl) (@pe_callB _ _ _ _ _ _ _ _ _ call_abs (by rfl) T.b_abs PyProof.Rows.boot_abs (@pa_cons _ _ _ _ _ (pv 1) (@pa_nil _) star_name) (by decide) (by decide) (by rfl) (by rfl)) (by rfl) (by first | exact .inl rfl | exact .inr rfl | assumption)) (@pss_cons _ _ _ _ _ (@ps_while _ _ _ _ _ _ PassesOwn.never (@pt_cmpR _ _ _ _ _ _ _ _ op_ne (pv 1) (@pe_int _ _ _ _) (nomark _)) (@pss_cons _ _ _ _ _ (@ps_set _ _ 2 _ _ _ _ sc_divisor_of.nd rfl (Or.inl rfl) (@pe_op _ _ _ _ _ _ _ _ op_modN (pv 0) (pv 1)) (by rfl) (by first | exact .inl rfl | exact .inr rfl | assumption)) (@pss_cons _ _ _ _ _ (@ps_set _ _ 0 _ _ _ _ sc_divisor_of.nd rfl (Or.inl rfl) (pv 1) (by rfl) (by first | exact .inl rfl | exact .inr rfl | assumption)) (@pss_one _ _ _ (@ps_set _ _ 1 _ _ _ _ sc_divisor_of.nd rfl (Or.inl rfl) (pv 2) (by rfl) (by first | exact .inl rfl | exact .inr rfl | assumption)))))) (@pss_one _ _ _ (@ps_ret _ _ _ _ (pv 0)))))), ?_⟩
    refine st_set (pu_abs (pa_c (pu_v rfl) pa_n)) ?_
    refine st_set (pu_abs (pa_c (pu_v rfl) pa_n)) ?_
    refine st_while (fun σ H' => H' = H ∧ ∃ (x y : Int) (r : Option V), σ = [some (.int x), some (.int y), r] ∧ 0 ≤ x ∧ 0 ≤ y ∧ Int.gcd x y = Int.gcd a b) (fun σ _ => match σ with | [_, some (.int y), _] => y.toNat | _ => 0)
      ⟨rfl, a.natAbs, b.natAbs, none, rfl, by omega, by omega, rfl⟩ ?_
    rintro σ H' ⟨rfl, x, y, r, rfl, hx, hy, hg⟩
    refine ⟨_, pt_t (pu_neI (pu_v rfl) pu_c), fun e => ?_, fun e => ?_⟩
    · have e' : y ≠ 0 := by simpa using e
      have hm := fmod_lt (x := x) (show 0 < y by omega)
      refine st_set (pu_mod (pu_v rfl) (pu_v rfl) e') ?_
      refine st_set (pu_v rfl) ?_
      refine st_set1 (pu_v rfl) ?_
      exact ⟨⟨rfl, y, x.fmod y, _, rfl, hy, hm.1, by rw [gcd_step hx hy]; exact hg⟩, by show (x.fmod y).toNat < y.toNat; omega⟩
    · have e' : y = 0 := by simpa using e
      subst e'
      refine st_ret (pu_v rfl) ?_
      rw [← hg, gcd_zero x hx] at k
      exact k
def sp_fraction : Sp := fun vs H Q _ => ∃ a b : Int, vs = [.int a, .int b] ∧ b ≠ 0 ∧ Bd 9000 b ∧ ∀ v H', Same H H' → TupT H' v [a.fdiv (gS a b), b.fdiv (gS a b)] → Q v H'
theorem sc_fraction : FnScope ["top", "bottom", "shared"] ["top", "bottom"] (defScope s_fraction) := ⟨rfl, rfl, rfl, by decide +kernel, rfl, by decide +kernel, by decide +kernel⟩
theorem ok_fraction (T : Txt K mg t) : FnOk P w K mg base CX0 2 t.f_fraction t.d_fraction ["top", "bottom"] sp_fraction := by
  refine T.fraction.F.ok (k := 1) sc_fraction (fun vs H Q E h => ?_) (fun cdv A outer s H vs Q E hr h => ?_)
  · obtain ⟨a, b, rfl, _⟩ := h
    rfl
  · obtain ⟨a, b, rfl, hb, hB, k⟩ := h
    refine ⟨_, (@pss_cons _ _ _ _ _ (@ps_if _ _ _ _ _ _ _ _ (@pt_cmpR _ _ _ _ _ _ _ _ op_eq (pv 1) (@pe_int _ _ _ _) (nomark _)) (@pss_one _ _ _ (@ps_never _ _)) (@pss_nil _)) (@pss_cons _ _ _ _ _ (@ps_set _ _ 2 _ _ _ _ sc_fraction.nd rfl (Or.inl rfl) (@pe_fn _ _ _ _ _ _ _ _ _ _ _ _ _ _ T.divisor_of (ok_divisor_of T) hr (by decide) (@pa_cons _ _ _ _ _ (pv 0) (@pa_cons _ _ _ _ _ (pv 1) (@pa_nil _) star_name) star_name) (by rfl) (by decide) (by rfl) (by rfl)) (by rfl) (by first | exact .inl rfl | exact .inr rfl | assumption)) (@pss_cons _ _ _ _ _ (@ps_if _ _ _ _ _ _ _ _ (@pt_cmpR _ _ _ _ _ _ _ _ op_lt (pv 1) (@pe_int _ _ _ _) (nomark _)) (@pss_one _ _ _ (@ps_set _ _ 2 _ _ _ _ sc_fraction.nd rfl (Or.inl rfl) (@pe_un _ _ _ _ _ _ un_neg (pv 2)) (by rfl) (by first | exact .inl rfl | exact .inr rfl | assumption))) (@pss_nil _)) (@pss_one _ _ _ (@ps_ret _ _ _ _ (@pe_tup _ _ _ _ _ (@pa_cons _ _ _ _ _ (@pe_op _ _ _ _ _ _ _ _ op_fdivB (pv 0) (pv 2)) (@pa_cons _ _ _ _ _ (@pe_op _ _ _ _ _ _ _ _ op_fdivB (pv 1) (pv 2)) (@pa_nil _) star_bin) star_bin))))))), ?_⟩
    refine st_if (pt_t (pu_eqI (pu_v rfl) pu_c)) (fun e => absurd (by simpa using e) hb) fun _ => ?_
    refine st_set (pu_call (pa_c (pu_v rfl) (pa_c (pu_v rfl) pa_n)) (fun Q q => ⟨a, b, rfl, q⟩)) ?_
    refine st_ifSet (R := fun v H' => H' = H ∧ v = .int (gS a b)) (v0 := .int (Int.gcd a b)) (pt_t (pu_lt (pu_v rfl) pu_c)) (fun e => (pu_neg (pu_v rfl)).gv' ⟨rfl, ?_⟩) rfl (fun e => ⟨rfl, ?_⟩) ?_
    · have e' : b < 0 := by simpa using e
      rw [gS, if_pos e']
    · have e' : ¬ b < 0 := by simpa using e
      rw [gS, if_neg e']
    rintro v H' ⟨rfl, rfl⟩
    refine st_retG (gv_tup (pa_c (pu_fdiv (pu_v rfl) (pu_v rfl) ⟨gS_ne hb, gS_bd hb hB⟩) (pa_c (pu_fdiv (pu_v rfl) (pu_v rfl) ⟨gS_ne hb, gS_bd hb hB⟩) pa_n)) (by show 2 ≤ sizeLine; decide)) ?_
    rintro v H1 ⟨p, hp, rfl, rfl⟩
    exact k _ _ (Same.upd hp) (TupT.of upd_same)
def sp_is_fraction : Sp := fun vs H Q _ => ∃ v a b, vs = [v] ∧ TupT H v [a, b] ∧ 0 < b ∧ Int.gcd a b = 1 ∧ ∀ H', Same H H' → Q (.bl true) H'
theorem sc_is_fraction : FnScope ["thing"] ["thing"] (defScope s_is_fraction) := ⟨rfl, rfl, rfl, by decide +kernel, rfl, by decide +kernel, by decide +kernel⟩
theorem ok_is_fraction (T : Txt K mg t) : FnOk P w K mg base CX0 2 t.f_is_fraction t.d_is_fraction ["thing"] sp_is_fraction := by
  refine T.is_fraction.F.ok (k := 1) sc_is_fraction (fun vs H Q E h => ?_) (fun cdv A outer s H vs Q E hr h => ?_)
  · obtain ⟨v, a, b, rfl, _⟩ := h
    rfl
  · obtain ⟨v, a, b, rfl, tv, hb, hg, k⟩ := h
    obtain ⟨l, rfl, hl⟩ := id tv
    refine ⟨_, (@pss_cons _ _ _ _ _ (@ps_if _ _ _ _ _ _ _ _ (PW.pt (@pw_or _ _ _ _ _ _ _ (@pt_not _ _ _ _ (@pt_val _ _ _ (@pe_callB _ _ _ _ _ _ _ _ _ call_isinst (by rfl) T.b_isinstance PyProof.Rows.boot_isinstance (@pa_cons _ _ _ _ _ (pv 0) (@pa_cons _ _ _ _ _ (@pe_ty _ _ _ _ T.b_tuple PyProof.Rows.boot_tuple (by rfl) (by decide) (by decide)) (@pa_nil _) star_name) star_name) (by decide) (by decide) (by rfl) (by rfl)) (by intro _; rfl))) (@pw_or1 _ _ _ _ (@pt_cmpR _ _ _ _ _ _ _ _ op_ne (@pe_callB _ _ _ _ _ _ _ _ _ call_len_seq (by rfl) T.b_len PySem.boot_len (@pa_cons _ _ _ _ _ (pv 0) (@pa_nil _) star_name) (by decide) (by decide) (by rfl) (by rfl)) (@pe_int _ _ _ _) (nomark _))))) (@pss_one _ _ _ (@ps_ret _ _ _ _ (@pe_bl _ _ _ _))) (@pss_nil _)) (@pss_cons _ _ _ _ _ (@ps_if _ _ _ _ _ _ _ _ (@pt_not _ _ _ _ (@pt_val _ _ _ (@pe_callB _ _ _ _ _ _ _ _ _ (call_all rfl) (by rfl) T.b_all PyProof.Rows.boot_all (@pa_cons _ _ _ _ _ (@pe_lcomp _ _ _ _ _ [] _ ["part"] _ (fun _ => [none]) _ _ rfl (@pi_tup _ _ _ _ (pv 0)) (fun _ _ _ _ => pg_name (i := 0) (List.nodup_cons.mpr ⟨fun h => (nomatch h), List.nodup_nil⟩) rfl (Or.inl rfl) (.inr rfl)) (fun _ _ _ _ => (@pe_fn _ _ _ _ _ _ _ _ _ _ _ _ _ _ T.is_whole (ok_is_whole T) hr (by decide) (@pa_cons _ _ _ _ _ (pv 0) (@pa_nil _) star_name) (by rfl) (by decide) (by rfl) (by rfl))) (closureFor_none (by decide +kernel)) rfl (by decide +kernel) (by decide +kernel) (fun _ _ h => by cases h) (noCells (by rfl)) (fun _ _ => rfl) (fun _ i _ _ _ h => by cases i with | zero => cases h | succ i => simp at h) (by intro _; rfl)) (@pa_nil _) star_lc) (by decide) (by decide) (by rfl) (by rfl)) (by intro _; rfl))) (@pss_one _ _ _ (@ps_ret _ _ _ _ (@pe_bl _ _ _ _))) (@pss_nil _)) (@pss_one _ _ _ (@ps_ret _ _ _ _ (@pe_and _ _ _ _ _ _ _ (@pe_cmpR _ _ _ _ _ _ _ _ op_ge (@pe_ix _ _ _ _ _ _ _ ix_tup (pv 0) (@pe_int _ _ _ _) (fun _ _ => rfl)) (@pe_int _ _ _ _) (nomark _)) (@pe_one _ _ _ _ _ (@pe_cmpR _ _ _ _ _ _ _ _ op_eq (@pe_fn _ _ _ _ _ _ _ _ _ _ _ _ _ _ T.divisor_of (ok_divisor_of T) hr (by decide) (@pa_cons _ _ _ _ _ (@pe_ix _ _ _ _ _ _ _ ix_tup (pv 0) (@pe_int _ _ _ _) (fun _ _ => rfl)) (@pa_cons _ _ _ _ _ (@pe_ix _ _ _ _ _ _ _ ix_tup (pv 0) (@pe_int _ _ _ _) (fun _ _ => rfl)) (@pa_nil _) star_sub) star_sub) (by rfl) (by decide) (by rfl) (by rfl)) (@pe_int _ _ _ _) (nomark _)))))))), ?_⟩
    refine st_ifN (pt_or (b := false) (pt_n (b := true) (pt_b (pu_isi (pa_c (pu_v rfl) (pa_c pu_c pa_n)) (.tup hl) kit_same))) fun _ => pt_t (pu_neI (pu_lenT (pa_c (pu_v rfl) pa_n) (SqT.of hl)) pu_c)) (fun e => absurd e (by simp)) fun _ => ?_
    refine st_notTru (gv_allTrue (pu_v rfl) tv (by simp) (fun n H' Q q => ⟨n, rfl, q⟩)) ?_
    intro H1 s1
    have hl1 := s1 _ _ hl
    refine st_ret (v := .bl true) (pu_cast (pu_and (pu_ge (pu_ixT (pu_v rfl) pu_c (SqT.of (hl1)) rfl) pu_c) fun _ => pu_eqI (pu_call (pa_c (pu_ixT (pu_v rfl) pu_c (SqT.of (hl1)) rfl) (pa_c (pu_ixT (pu_v rfl) pu_c (SqT.of (hl1)) rfl) pa_n)) (fun Q q => ⟨a, b, rfl, q⟩)) pu_c) ?_) (k _ s1)
    rw [hg]
    have : (1 : Int) ≤ b := by omega
    simp [this]
def sp_point_by : Sp := fun vs H Q _ => ∃ a b c : Int, vs = [.int a, .int b, .int c] ∧ c ≠ 0 ∧ Bd 9000 c ∧ ∀ v H', Same H H' → AtP H' v (pbF a b c) → Q v H'
theorem sc_point_by : FnScope ["a", "b", "c", "shared"] ["a", "b", "c"] (defScope s_point_by) := ⟨rfl, rfl, rfl, by decide +kernel, rfl, by decide +kernel, by decide +kernel⟩
theorem ok_point_by (T : Txt K mg t) : FnOk P w K mg base CX0 2 t.f_point_by t.d_point_by ["a", "b", "c"] sp_point_by := by
  refine T.point_by.F.ok (k := 1) sc_point_by (fun vs H Q E h => ?_) (fun cdv A outer s H vs Q E hr h => ?_)
  · obtain ⟨a, b, c, rfl, _⟩ := h
    rfl
  · obtain ⟨a, b, c, rfl, hc, hB, k⟩ := h
    refine ⟨_, (@pss_cons _ _ _ _ _ (@ps_if _ _ _ _ _ _ _ _ (@pt_cmpR _ _ _ _ _ _ _ _ op_eq (pv 2) (@pe_int _ _ _ _) (nomark _)) (@pss_one _ _ _ (@ps_never _ _)) (@pss_nil _)) (@pss_cons _ _ _ _ _ (@ps_set _ _ 3 _ _ _ _ sc_point_by.nd rfl (Or.inl rfl) (@pe_fn _ _ _ _ _ _ _ _ _ _ _ _ _ _ T.divisor_of (ok_divisor_of T) hr (by decide) (@pa_cons _ _ _ _ _ (@pe_fn _ _ _ _ _ _ _ _ _ _ _ _ _ _ T.divisor_of (ok_divisor_of T) hr (by decide) (@pa_cons _ _ _ _ _ (pv 0) (@pa_cons _ _ _ _ _ (pv 1) (@pa_nil _) star_name) star_name) (by rfl) (by decide) (by rfl) (by rfl)) (@pa_cons _ _ _ _ _ (pv 2) (@pa_nil _) star_name) star_call) (by rfl) (by decide) (by rfl) (by rfl)) (by rfl) (by first | exact .inl rfl | exact .inr rfl | assumption)) (@pss_cons _ _ _ _ _ (@ps_if _ _ _ _ _ _ _ _ (@pt_cmpR _ _ _ _ _ _ _ _ op_lt (pv 2) (@pe_int _ _ _ _) (nomark _)) (@pss_one _ _ _ (@ps_set _ _ 3 _ _ _ _ sc_point_by.nd rfl (Or.inl rfl) (@pe_un _ _ _ _ _ _ un_neg (pv 3)) (by rfl) (by first | exact .inl rfl | exact .inr rfl | assumption))) (@pss_nil _)) (@pss_one _ _ _ (@ps_ret _ _ _ _ (@pe_tup _ _ _ _ _ (@pa_cons _ _ _ _ _ (@pe_op _ _ _ _ _ _ _ _ op_fdivB (pv 0) (pv 3)) (@pa_cons _ _ _ _ _ (@pe_op _ _ _ _ _ _ _ _ op_fdivB (pv 1) (pv 3)) (@pa_cons _ _ _ _ _ (@pe_op _ _ _ _ _ _ _ _ op_fdivB (pv 2) (pv 3)) (@pa_nil _) star_bin) star_bin) star_bin))))))), ?_⟩
    have hg := gS3_ne (a := a) (b := b) hc
    have hgb : Bd 9000 (gS3 a b c) := by
      have := Bd.gcd_right (a := ((Int.gcd a b : Nat) : Int)) hc hB
      unfold gS3; split
      · exact this.neg
      · exact this
    refine st_ifN (pt_t (pu_eqI (pu_v rfl) pu_c)) (fun e => absurd (of_decide_eq_true e) hc) fun _ => ?_
    refine st_set (pu_call (pa_c (pu_call (pa_c (pu_v rfl) (pa_c (pu_v rfl) pa_n)) (fun Q q => ⟨a, b, rfl, q⟩)) (pa_c (pu_v rfl) pa_n)) (fun Q q => ⟨_, c, rfl, q⟩)) ?_
    refine st_ifSet (R := fun v H' => H = H' ∧ v = .int (gS3 a b c)) (v0 := .int (Int.gcd ((Int.gcd a b : Nat) : Int) c)) (pt_t (pu_lt (pu_v rfl) pu_c)) (fun e => (pu_neg (pu_v rfl)).gv' ⟨rfl, ?_⟩) rfl (fun e => ⟨rfl, ?_⟩) ?_
    · rw [gS3, if_pos (of_decide_eq_true e)]
    · rw [gS3, if_neg (of_decide_eq_false e)]
    rintro v H' ⟨rfl, rfl⟩
    refine st_retG (gv_tup (pa_c (pu_fdiv (pu_v rfl) (pu_v rfl) ⟨hg, hgb⟩) (pa_c (pu_fdiv (pu_v rfl) (pu_v rfl) ⟨hg, hgb⟩) (pa_c (pu_fdiv (pu_v rfl) (pu_v rfl) ⟨hg, hgb⟩) pa_n))) (by show 3 ≤ sizeLine; decide)) ?_
    rintro _ _ ⟨p, hp, rfl, rfl⟩
    exact k _ _ (Same.upd hp) (TupT.of upd_same)
def sp_point_of : Sp := fun vs H Q _ => ∃ v w x y, vs = [v, w] ∧ TupT H v [x.1, x.2] ∧ TupT H w [y.1, y.2] ∧ FrL x ∧ FrL y ∧ ∀ r H', Same H H' → AtP H' r (ptF x y) → Q r H'
theorem sc_point_of : FnScope ["x", "y"] ["x", "y"] (defScope s_point_of) := ⟨rfl, rfl, rfl, by decide +kernel, rfl, by decide +kernel, by decide +kernel⟩
theorem ok_point_of (T : Txt K mg t) : FnOk P w K mg base CX0 3 t.f_point_of t.d_point_of ["x", "y"] sp_point_of := by
  refine T.point_of.F.ok (k := 2) sc_point_of (fun vs H Q E h => ?_) (fun cdv A outer s H vs Q E hr h => ?_)
  · obtain ⟨v, w, x, y, rfl, _⟩ := h
    rfl
  · obtain ⟨v, w, x, y, rfl, ⟨a, rfl, ha⟩, ⟨b, rfl, hb⟩, fx, fy, k⟩ := h
    refine ⟨_, (@pss_one _ _ _ (@ps_ret _ _ _ _ (@pe_fn _ _ _ _ _ _ _ _ _ _ _ _ _ _ T.point_by (ok_point_by T) hr (by decide) (@pa_cons _ _ _ _ _ (@pe_op _ _ _ _ _ _ _ _ op_mulB (@pe_ix _ _ _ _ _ _ _ ix_tup (pv 0) (@pe_int _ _ _ _) (fun _ _ => rfl)) (@pe_ix _ _ _ _ _ _ _ ix_tup (pv 1) (@pe_int _ _ _ _) (fun _ _ => rfl))) (@pa_cons _ _ _ _ _ (@pe_op _ _ _ _ _ _ _ _ op_mulB (@pe_ix _ _ _ _ _ _ _ ix_tup (pv 1) (@pe_int _ _ _ _) (fun _ _ => rfl)) (@pe_ix _ _ _ _ _ _ _ ix_tup (pv 0) (@pe_int _ _ _ _) (fun _ _ => rfl))) (@pa_cons _ _ _ _ _ (@pe_op _ _ _ _ _ _ _ _ op_mulB (@pe_ix _ _ _ _ _ _ _ ix_tup (pv 0) (@pe_int _ _ _ _) (fun _ _ => rfl)) (@pe_ix _ _ _ _ _ _ _ ix_tup (pv 1) (@pe_int _ _ _ _) (fun _ _ => rfl))) (@pa_nil _) star_bin) star_bin) star_bin) (by rfl) (by decide) (by rfl) (by rfl)))), ?_⟩
    refine st_retG (gv_call (R := fun r H' => Same H H' ∧ AtP H' r (ptF x y)) (pa_c (pu_mul (pu_ixT (pu_v rfl) pu_c (SqT.of (ha)) rfl) (pu_ixT (pu_v rfl) pu_c (SqT.of (hb)) rfl) (mulOk_of fx.b1 fy.b2 (by decide))) (pa_c (pu_mul (pu_ixT (pu_v rfl) pu_c (SqT.of (hb)) rfl) (pu_ixT (pu_v rfl) pu_c (SqT.of (ha)) rfl) (mulOk_of fy.b1 fx.b2 (by decide))) (pa_c (pu_mul (pu_ixT (pu_v rfl) pu_c (SqT.of (ha)) rfl) (pu_ixT (pu_v rfl) pu_c (SqT.of (hb)) rfl) (mulOk_of fx.b2 fy.b2 (by decide))) pa_n))) fun Q f => ⟨_, _, _, rfl, Int.ne_of_gt (ptF_z fx fy), (fx.b2.mul fy.b2).mono (by decide), fun v H' s t => f _ _ ⟨s, t⟩⟩) fun r H' z => k r H' z.1 z.2
def sp_x_of : Sp := fun vs H Q _ => ∃ v x y, vs = [v] ∧ AtP H v (ptF x y) ∧ FrL x ∧ FrL y ∧ ∀ r H', Same H H' → TupT H' r [x.1, x.2] → Q r H'
theorem sc_x_of : FnScope ["p"] ["p"] (defScope s_x_of) := ⟨rfl, rfl, rfl, by decide +kernel, rfl, by decide +kernel, by decide +kernel⟩
theorem ok_x_of (T : Txt K mg t) : FnOk P w K mg base CX0 3 t.f_x_of t.d_x_of ["p"] sp_x_of := by
  refine T.x_of.F.ok (k := 2) sc_x_of (fun vs H Q E h => ?_) (fun cdv A outer s H vs Q E hr h => ?_)
  · obtain ⟨v, x, y, rfl, _⟩ := h
    rfl
  · obtain ⟨v, x, y, rfl, ⟨a, rfl, ha⟩, fx, fy, k⟩ := h
    refine ⟨_, (@pss_one _ _ _ (@ps_ret _ _ _ _ (@pe_fn _ _ _ _ _ _ _ _ _ _ _ _ _ _ T.fraction (ok_fraction T) hr (by decide) (@pa_cons _ _ _ _ _ (@pe_ix _ _ _ _ _ _ _ ix_tup (pv 0) (@pe_int _ _ _ _) (fun _ _ => rfl)) (@pa_cons _ _ _ _ _ (@pe_ix _ _ _ _ _ _ _ ix_tup (pv 0) (@pe_int _ _ _ _) (fun _ _ => rfl)) (@pa_nil _) star_sub) star_sub) (by rfl) (by decide) (by rfl) (by rfl)))), ?_⟩
    refine st_retG (gv_call (R := fun r H' => Same H H' ∧ TupT H' r [x.1, x.2]) (pa_c (pu_ixT (pu_v rfl) pu_c (SqT.of (ha)) rfl) (pa_c (pu_ixT (pu_v rfl) pu_c (SqT.of (ha)) rfl) pa_n)) fun Q f => ⟨_, _, rfl, Int.ne_of_gt (ptF_pos fx fy), (ptF_sz fx fy).z.mono (by decide), fun v H' s t => f _ _ ⟨s, ?_⟩⟩) fun r H' z => k r H' z.1 z.2
    rw [(ptF_x fx fy).1, (ptF_x fx fy).2] at t
    exact t
def sp_y_of : Sp := fun vs H Q _ => ∃ v x y, vs = [v] ∧ AtP H v (ptF x y) ∧ FrL x ∧ FrL y ∧ ∀ r H', Same H H' → TupT H' r [y.1, y.2] → Q r H'
theorem sc_y_of : FnScope ["p"] ["p"] (defScope s_y_of) := ⟨rfl, rfl, rfl, by decide +kernel, rfl, by decide +kernel, by decide +kernel⟩
theorem ok_y_of (T : Txt K mg t) : FnOk P w K mg base CX0 3 t.f_y_of t.d_y_of ["p"] sp_y_of := by
  refine T.y_of.F.ok (k := 2) sc_y_of (fun vs H Q E h => ?_) (fun cdv A outer s H vs Q E hr h => ?_)
  · obtain ⟨v, x, y, rfl, _⟩ := h
    rfl
  · obtain ⟨v, x, y, rfl, ⟨a, rfl, ha⟩, fx, fy, k⟩ := h
    refine ⟨_, (@pss_one _ _ _ (@ps_ret _ _ _ _ (@pe_fn _ _ _ _ _ _ _ _ _ _ _ _ _ _ T.fraction (ok_fraction T) hr (by decide) (@pa_cons _ _ _ _ _ (@pe_ix _ _ _ _ _ _ _ ix_tup (pv 0) (@pe_int _ _ _ _) (fun _ _ => rfl)) (@pa_cons _ _ _ _ _ (@pe_ix _ _ _ _ _ _ _ ix_tup (pv 0) (@pe_int _ _ _ _) (fun _ _ => rfl)) (@pa_nil _) star_sub) star_sub) (by rfl) (by decide) (by rfl) (by rfl)))), ?_⟩
    refine st_retG (gv_call (R := fun r H' => Same H H' ∧ TupT H' r [y.1, y.2]) (pa_c (pu_ixT (pu_v rfl) pu_c (SqT.of (ha)) rfl) (pa_c (pu_ixT (pu_v rfl) pu_c (SqT.of (ha)) rfl) pa_n)) fun Q f => ⟨_, _, rfl, Int.ne_of_gt (ptF_pos fx fy), (ptF_sz fx fy).z.mono (by decide), fun v H' s t => f _ _ ⟨s, ?_⟩⟩) fun r H' z => k r H' z.1 z.2
    rw [(ptF_y fx fy).1, (ptF_y fx fy).2] at t
    exact t
def sp_show_fraction : Sp := fun vs H Q _ => ∃ v a b, vs = [v] ∧ TupT H v [a, b] ∧ Bd 1000 a ∧ Bd 1000 b ∧ Q (.str (shF (a, b))) H
theorem sc_show_fraction : FnScope ["one", "top", "bottom"] ["one"] (defScope s_show_fraction) := ⟨rfl, rfl, rfl, by decide +kernel, rfl, by decide +kernel, by decide +kernel⟩
theorem ok_show_fraction (T : Txt K mg t) : FnOk P w K mg base CX0 1 t.f_show_fraction t.d_show_fraction ["one"] sp_show_fraction := by
  refine T.show_fraction.F.ok (k := 0) sc_show_fraction (fun vs H Q E h => ?_) (fun cdv A outer s H vs Q E hr h => ?_)
  · obtain ⟨v, a, b, rfl, _⟩ := h
    rfl
  · obtain ⟨v, a, b, rfl, ⟨l, rfl, hl⟩, ba, bb, k⟩ := h
    refine ⟨_, (@pss_cons _ _ _ _ _ (@ps_set _ _ 1 _ _ _ _ sc_show_fraction.nd rfl (Or.inl rfl) (@pe_ix _ _ _ _ _ _ _ ix_tup (pv 0) (@pe_int _ _ _ _) (fun _ _ => rfl)) (by rfl) (by first | exact .inl rfl | exact .inr rfl | assumption)) (@pss_cons _ _ _ _ _ (@ps_set _ _ 2 _ _ _ _ sc_show_fraction.nd rfl (Or.inl rfl) (@pe_ix _ _ _ _ _ _ _ ix_tup (pv 0) (@pe_int _ _ _ _) (fun _ _ => rfl)) (by rfl) (by first | exact .inl rfl | exact .inr rfl | assumption)) (@pss_one _ _ _ (@ps_ret _ _ _ _ (@pe_ifExp _ _ _ _ _ _ _ _ (@pt_cmpR _ _ _ _ _ _ _ _ op_eq (pv 2) (@pe_int _ _ _ _) (nomark _)) (@pe_f1 _ _ _ _ _ (pv 1)) (@pe_f3 _ _ _ _ _ _ _ _ _ _ _ (pv 1) (pv 2) (by decide +kernel))))))), ?_⟩
    refine st_set (pu_ixT (pu_v rfl) pu_c (SqT.of (hl)) rfl) ?_
    refine st_set (pu_ixT (pu_v rfl) pu_c (SqT.of (hl)) rfl) ?_
    refine st_ret (v := .str (shF (a, b))) (pu_ifE (pt_t (pu_eqI (pu_v rfl) pu_c)) (fun e => ?_) fun e => ?_) k
    · have e' : b = 1 := of_decide_eq_true e
      have es : shF (a, b) = tx a := by unfold shF; rw [if_pos e']
      rw [es]
      exact fun Q q => (pu_v rfl : Pu (tVar 1) _ _ (.int a)) _ ⟨a, rfl, bd_log ba, q⟩
    · have e' : ¬ b = 1 := of_decide_eq_false e
      have es : shF (a, b) = tx a ++ Str.ofString "/" ++ tx b := by unfold shF; rw [if_neg e']
      rw [es]
      exact fun Q q => (pu_v rfl : Pu (tVar 1) _ _ (.int a)) _ ⟨a, rfl, bd_log ba, (pu_v rfl : Pu (tVar 2) _ _ (.int b)) _ ⟨b, rfl, bd_log bb, q⟩⟩
def sp_show_point : Sp := fun vs H Q _ => ∃ v x y, vs = [v] ∧ AtP H v (ptF x y) ∧ FrL x ∧ FrL y ∧ ∀ H', Same H H' → Q (.str (shP x y)) H'
theorem gv_shx {σ : L2.St} {H : Hp} {ta : TA} {v : V} {x y : Int × Int} (ha : PuA ta σ H [v]) (hv : AtP H v (ptF x y)) (fx : FrL x) (fy : FrL y) : Gv (tCall sp_show_fraction [] E0 (tCons (tCall sp_x_of [] E0 ta) tNil)) σ H (fun w H' => w = .str (shF x) ∧ Same H H') := by
  refine gv_callA (ga_cons (gv_call (sp := sp_x_of) (E := E0) (R := fun r H' => Same H H' ∧ TupT H' r [x.1, x.2]) ha fun Q f => ⟨v, x, y, rfl, hv, fx, fy, fun r H' s t => f _ _ ⟨s, t⟩⟩) fun _ _ _ => ga_nil) ?_
  rintro vs H1 ⟨r, H2, r2, rfl, ⟨s, t⟩, rfl, rfl⟩ Q f
  exact ⟨r, x.1, x.2, rfl, t, fx.b1.mono (by decide), fx.b2.mono (by decide), f _ _ ⟨rfl, s⟩⟩
theorem gv_shy {σ : L2.St} {H : Hp} {ta : TA} {v : V} {x y : Int × Int} (ha : PuA ta σ H [v]) (hv : AtP H v (ptF x y)) (fx : FrL x) (fy : FrL y) : Gv (tCall sp_show_fraction [] E0 (tCons (tCall sp_y_of [] E0 ta) tNil)) σ H (fun w H' => w = .str (shF y) ∧ Same H H') := by
  refine gv_callA (ga_cons (gv_call (sp := sp_y_of) (E := E0) (R := fun r H' => Same H H' ∧ TupT H' r [y.1, y.2]) ha fun Q f => ⟨v, x, y, rfl, hv, fx, fy, fun r H' s t => f _ _ ⟨s, t⟩⟩) fun _ _ _ => ga_nil) ?_
  rintro vs H1 ⟨r, H2, r2, rfl, ⟨s, t⟩, rfl, rfl⟩ Q f
  exact ⟨r, y.1, y.2, rfl, t, fy.b1.mono (by decide), fy.b2.mono (by decide), f _ _ ⟨rfl, s⟩⟩
theorem sc_show_point : FnScope ["p"] ["p"] (defScope s_show_point) := ⟨rfl, rfl, rfl, by decide +kernel, rfl, by decide +kernel, by decide +kernel⟩
theorem ok_show_point (T : Txt K mg t) : FnOk P w K mg base CX0 4 t.f_show_point t.d_show_point ["p"] sp_show_point := by
  refine T.show_point.F.ok (k := 3) sc_show_point (fun vs H Q E h => ?_) (fun cdv A outer s H vs Q E hr h => ?_)
  · obtain ⟨v, x, y, rfl, _⟩ := h
    rfl
  · obtain ⟨v, x, y, rfl, tv, fx, fy, k⟩ := h
    refine ⟨_, (@pss_one _ _ _ (@ps_ret _ _ _ _ (@pe_bm _ _ _ _ _ _ _ _ _ _ _ _ PySem.F.plainAttrs_str PySem.F.slot_str_join PySem.F.type_str_join mt_join (@pe_str _ _ _ _) (@pa_cons _ _ _ _ _ (@pe_lst _ _ _ _ (@pa_cons _ _ _ _ _ (@pe_fn _ _ _ _ _ _ _ _ _ _ _ _ _ _ T.show_fraction (ok_show_fraction T) hr (by decide) (@pa_cons _ _ _ _ _ (@pe_fn _ _ _ _ _ _ _ _ _ _ _ _ _ _ T.x_of (ok_x_of T) hr (by decide) (@pa_cons _ _ _ _ _ (pv 0) (@pa_nil _) star_name) (by rfl) (by decide) (by rfl) (by rfl)) (@pa_nil _) star_call) (by rfl) (by decide) (by rfl) (by rfl)) (@pa_cons _ _ _ _ _ (@pe_fn _ _ _ _ _ _ _ _ _ _ _ _ _ _ T.show_fraction (ok_show_fraction T) hr (by decide) (@pa_cons _ _ _ _ _ (@pe_fn _ _ _ _ _ _ _ _ _ _ _ _ _ _ T.y_of (ok_y_of T) hr (by decide) (@pa_cons _ _ _ _ _ (pv 0) (@pa_nil _) star_name) (by rfl) (by decide) (by rfl) (by rfl)) (@pa_nil _) star_call) (by rfl) (by decide) (by rfl) (by rfl)) (@pa_nil _) star_call) star_call)) (@pa_nil _) star_lst) (by rfl) (by rfl) (by rfl) (by rfl) (by rfl)))), ?_⟩
    have two : ([] : List V).length + 2 ≤ sizeLine := by decide
    refine st_retG (R := fun v H' => v = .str (shP x y) ∧ Same H H') (gv_join (R := fun v H' => Same H H' ∧ ∃ l, v = .ref l ∧ H' l = some (.lst ([shF x, shF y].map V.str))) (fun _ => pu_c) (gv_lstA (RA := fun vs H' => vs = [shF x, shF y].map V.str ∧ Same H H') (fun Q q => ?_) ?_) ?_) ?_
    · refine gv_shx (pa_c (pu_v rfl) pa_n) tv fx fy _ ?_
      rintro _ H1 ⟨rfl, s1⟩
      refine gv_shy (pa_c (pu_v rfl) pa_n) (TupT.same tv s1) fx fy _ ?_
      rintro _ H2 ⟨rfl, s2⟩
      exact q _ _ ⟨rfl, s1.trans s2⟩
    · rintro _ H1 ⟨rfl, s1⟩
      exact ⟨two, fun p hp => ⟨s1.trans (Same.upd hp), p, rfl, upd_same⟩⟩
    · rintro _ H1 ⟨s1, l, rfl, hl⟩
      refine ⟨l, _, rfl, hl, joinOk_of (b := 901) (m := 2) (fun t ht => ?_) (Nat.le_refl _) (by decide +kernel), rfl, s1⟩
      rcases List.mem_cons.mp ht with rfl | ht
      · exact shF_len fx.b1 fx.b2
      · rw [List.mem_singleton.mp ht]
        exact shF_len fy.b1 fy.b2
    · rintro _ H1 ⟨rfl, s1⟩
      exact k _ s1
/-- points and the fractions they stand at -/
def PtOf (p : Pt3) (f : (Int × Int) × (Int × Int)) : Prop := p = ptF f.1 f.2 ∧ FrL f.1 ∧ FrL f.2
def sp_show_ring : Sp := fun vs H Q _ => ∃ l ps r, vs = [.ref l] ∧ LP H l ps ∧ Paired PtOf ps r ∧ r.length ≤ 60 ∧ ∀ H', Same H H' → Q (.str (shR r)) H'
theorem shR_len {r : List ((Int × Int) × (Int × Int))} (h : ∀ f ∈ r, FrL f.1 ∧ FrL f.2) (hl : r.length ≤ 60) : (shR r).length ≤ 108240 := by
  have := join_len (sep := Str.ofString " ") (b := 1803) (r.map fun p => shP p.1 p.2) (fun t ht => by
    obtain ⟨f, hf, rfl⟩ := List.mem_map.mp ht
    exact shP_len (h f hf).1 (h f hf).2)
  rw [List.length_map] at this
  refine Nat.le_trans this (Nat.le_trans (Nat.mul_le_mul_right _ hl) (by decide +kernel))
theorem ptOf_fr : ∀ {ps : List Pt3} {r : List ((Int × Int) × (Int × Int))}, Paired PtOf ps r → ∀ f ∈ r, FrL f.1 ∧ FrL f.2
  | _, _, .cons h t, f, hf => by
    rcases List.mem_cons.mp hf with rfl | hf
    · exact h.2
    · exact ptOf_fr t f hf
theorem tups_ix : ∀ {H : Hp} {ys : List V} {ps : List Pt3} {r : List ((Int × Int) × (Int × Int))}, TupsT H ys (ps.map L3) → Paired PtOf ps r → Paired (fun v f => AtP H v (ptF f.1 f.2) ∧ FrL f.1 ∧ FrL f.2) ys r
  | _, _, [], _, .nil, .nil => .nil
  | _, _, p :: ps, _, .cons h t, .cons g u => .cons ⟨by
    obtain ⟨e, _⟩ := g
    rw [← e]
    exact h, g.2⟩ (tups_ix t u)
theorem sc_show_ring : FnScope ["ring"] ["ring"] (defScope s_show_ring) := ⟨rfl, rfl, rfl, by decide +kernel, rfl, by decide +kernel, by decide +kernel⟩
theorem ok_show_ring (T : Txt K mg t) : FnOk P w K mg base CX0 5 t.f_show_ring t.d_show_ring ["ring"] sp_show_ring := by
  refine T.show_ring.F.ok (k := 4) sc_show_ring (fun vs H Q E h => ?_) (fun cdv A outer s H vs Q E hr h => ?_)
  · obtain ⟨l, ps, r, rfl, _⟩ := h
    rfl
  · obtain ⟨l, ps, r, rfl, ⟨ys, hl, ty⟩, pr, hr60, k⟩ := h
    refine ⟨_, (@pss_one _ _ _ (@ps_ret _ _ _ _ (@pe_bm _ _ _ _ _ _ _ _ _ _ _ _ PySem.F.plainAttrs_str PySem.F.slot_str_join PySem.F.type_str_join mt_join (@pe_str _ _ _ _) (@pa_cons _ _ _ _ _ (@pe_lcomp _ _ _ _ _ [] _ ["p"] _ (fun _ => [none]) _ _ rfl (@pi_list _ _ _ _ (pv 0)) (fun _ _ _ _ => pg_name (i := 0) (List.nodup_cons.mpr ⟨fun h => (nomatch h), List.nodup_nil⟩) rfl (Or.inl rfl) (.inr rfl)) (fun _ _ _ _ => (@pe_fn _ _ _ _ _ _ _ _ _ _ _ _ _ _ T.show_point (ok_show_point T) hr (by decide) (@pa_cons _ _ _ _ _ (pv 0) (@pa_nil _) star_name) (by rfl) (by decide) (by rfl) (by rfl))) (closureFor_none (by decide +kernel)) rfl (by decide +kernel) (by decide +kernel) (fun _ _ h => by cases h) (noCells (by rfl)) (fun _ _ => rfl) (fun _ i _ _ _ h => by cases i with | zero => cases h | succ i => simp at h) (by intro _; rfl)) (@pa_nil _) star_lc) (by rfl) (by rfl) (by rfl) (by rfl) (by rfl)))), ?_⟩
    have pv' := tups_ix ty pr
    have hyl := paired_len pv'
    have fr := ptOf_fr pr
    refine st_retG (R := fun v H' => v = .str (shR r) ∧ Same H H') (gv_join (R := fun v H' => Same H H' ∧ ∃ D, v = .ref D ∧ H D = none ∧ H' D = some (.lst ((r.map fun f => shP f.1 f.2).map V.str))) (fun _ => pu_c) (gv_compLI (pu_v rfl) hl (by omega) (by rw [List.length_map, List.length_map]; exact hyl) (fun _ => KeepS.none1) ?_) ?_) ?_
    · intro i x w H' hx hw s
      obtain ⟨f, hf, hat, fx, fy⟩ := paired_get pv' hx
      rw [List.getElem?_map, List.getElem?_map, hf] at hw
      have ew : V.str (shP f.1 f.2) = w := Option.some.inj hw
      subst ew
      exact gv_call (pa_c (pu_v rfl) pa_n) fun Q q => ⟨x, f.1, f.2, rfl, TupT.same hat s, fx, fy, fun H'' s' => q _ _ ⟨rfl, s'⟩⟩
    · rintro _ H1 ⟨s1, D, rfl, _, hD⟩
      refine ⟨D, _, rfl, hD, joinOk_of (b := 1803) (m := 60) (fun t ht => ?_) (by rw [List.length_map]; exact hr60) (by decide +kernel), rfl, s1⟩
      obtain ⟨f, hf, rfl⟩ := List.mem_map.mp ht
      exact shP_len (fr f hf).1 (fr f hf).2
    · rintro _ H1 ⟨rfl, s1⟩
      exact k _ s1
def sp_show_rings : Sp := fun vs H Q _ => ∃ l pss rs, vs = [.ref l] ∧ RgL H l pss ∧ Paired (Paired PtOf) pss rs ∧ rs.length ≤ 20 ∧ (∀ r ∈ rs, r.length ≤ 60) ∧ ∀ H', Same H H' → Q (.str (shRs rs)) H'
theorem rows_ix {H : Hp} : ∀ {as : List Addr} {pss : List (List Pt3)} {rs : List (List ((Int × Int) × (Int × Int)))}, Paired (LP H) as pss → Paired (Paired PtOf) pss rs → Paired (fun v r => ∃ a ps, v = V.ref a ∧ LP H a ps ∧ Paired PtOf ps r) (as.map V.ref) rs
  | _, _, _, .nil, .nil => .nil
  | _, _, _, .cons h t, .cons g u => .cons ⟨_, _, rfl, h, g⟩ (rows_ix t u)
theorem rows_fr : ∀ {pss : List (List Pt3)} {rs : List (List ((Int × Int) × (Int × Int)))}, Paired (Paired PtOf) pss rs → ∀ r ∈ rs, ∀ f ∈ r, FrL f.1 ∧ FrL f.2
  | _, _, .cons h t, r, hr => by
    rcases List.mem_cons.mp hr with rfl | hr
    · exact ptOf_fr h
    · exact rows_fr t r hr
theorem sc_show_rings : FnScope ["rings"] ["rings"] (defScope s_show_rings) := ⟨rfl, rfl, rfl, by decide +kernel, rfl, by decide +kernel, by decide +kernel⟩
theorem ok_show_rings (T : Txt K mg t) : FnOk P w K mg base CX0 6 t.f_show_rings t.d_show_rings ["rings"] sp_show_rings := by
  refine T.show_rings.F.ok (k := 5) sc_show_rings (fun vs H Q E h => ?_) (fun cdv A outer s H vs Q E hr h => ?_)
  · obtain ⟨l, pss, rs, rfl, _⟩ := h
    rfl
  · obtain ⟨l, pss, rs, rfl, ⟨as, hl, pa⟩, pr, hr20, hr60, k⟩ := h
    refine ⟨_, (@pss_one _ _ _ (@ps_ret _ _ _ _ (@pe_bm _ _ _ _ _ _ _ _ _ _ _ _ PySem.F.plainAttrs_str PySem.F.slot_str_join PySem.F.type_str_join mt_join (@pe_str _ _ _ _) (@pa_cons _ _ _ _ _ (@pe_lcomp _ _ _ _ _ [] _ ["ring"] _ (fun _ => [none]) _ _ rfl (@pi_list _ _ _ _ (pv 0)) (fun _ _ _ _ => pg_name (i := 0) (List.nodup_cons.mpr ⟨fun h => (nomatch h), List.nodup_nil⟩) rfl (Or.inl rfl) (.inr rfl)) (fun _ _ _ _ => (@pe_fn _ _ _ _ _ _ _ _ _ _ _ _ _ _ T.show_ring (ok_show_ring T) hr (by decide) (@pa_cons _ _ _ _ _ (pv 0) (@pa_nil _) star_name) (by rfl) (by decide) (by rfl) (by rfl))) (closureFor_none (by decide +kernel)) rfl (by decide +kernel) (by decide +kernel) (fun _ _ h => by cases h) (noCells (by rfl)) (fun _ _ => rfl) (fun _ i _ _ _ h => by cases i with | zero => cases h | succ i => simp at h) (by intro _; rfl)) (@pa_nil _) star_lc) (by rfl) (by rfl) (by rfl) (by rfl) (by rfl)))), ?_⟩
    have pv' := rows_ix pa pr
    have hyl := paired_len pv'
    have fr := rows_fr pr
    refine st_retG (R := fun v H' => v = .str (shRs rs) ∧ Same H H') (gv_join (R := fun v H' => Same H H' ∧ ∃ D, v = .ref D ∧ H D = none ∧ H' D = some (.lst ((rs.map shR).map V.str))) (fun _ => pu_c) (gv_compLI (pu_v rfl) hl (by omega) (by rw [List.length_map V.str, List.length_map shR]; exact hyl) (fun _ => KeepS.none1) ?_) ?_) ?_
    · intro i x w H' hx hw s
      obtain ⟨r, hr, a, ps, rfl, hlp, hpo⟩ := paired_get pv' hx
      rw [List.getElem?_map, List.getElem?_map, hr] at hw
      have ew : V.str (shR r) = w := Option.some.inj hw
      subst ew
      exact gv_call (pa_c (pu_v rfl) pa_n) fun Q q => ⟨a, ps, r, rfl, hlp.same s, hpo, hr60 r (List.mem_of_getElem? hr), fun H'' s' => q _ _ ⟨rfl, s'⟩⟩
    · rintro _ H1 ⟨s1, D, rfl, _, hD⟩
      refine ⟨D, _, rfl, hD, joinOk_of (b := 108240) (m := 20) (fun t ht => ?_) (by rw [List.length_map]; exact hr20) (by decide +kernel), rfl, s1⟩
      obtain ⟨r, hr, rfl⟩ := List.mem_map.mp ht
      exact shR_len (fr r hr) (hr60 r hr)
    · rintro _ H1 ⟨rfl, s1⟩
      exact k _ s1
def sp_check_text : Sp := fun vs H Q _ => ∃ x, vs = [.str x] ∧ Q .non H
theorem sc_check_text : FnScope ["text"] ["text"] (defScope s_check_text) := ⟨rfl, rfl, rfl, by decide +kernel, rfl, by decide +kernel, by decide +kernel⟩
theorem ok_check_text (T : Txt K mg t) : FnOk P w K mg base CX0 1 t.f_check_text t.d_check_text ["text"] sp_check_text := by
  refine T.check_text.F.ok (k := 0) sc_check_text (fun vs H Q E h => ?_) (fun cdv A outer s H vs Q E hr h => ?_)
  · obtain ⟨x, rfl, _⟩ := h
    rfl
  · obtain ⟨x, rfl, k⟩ := h
    refine ⟨_, (@pss_one _ _ _ (@ps_if _ _ _ _ _ _ _ _ (@pt_not _ _ _ _ (@pt_val _ _ _ (@pe_callB _ _ _ _ _ _ _ _ _ call_isinst (by rfl) T.b_isinstance PyProof.Rows.boot_isinstance (@pa_cons _ _ _ _ _ (pv 0) (@pa_cons _ _ _ _ _ (@pe_ty _ _ _ _ T.b_str PyProof.Rows.boot_str (by rfl) (by decide) (by decide)) (@pa_nil _) star_name) star_name) (by decide) (by decide) (by rfl) (by rfl)) (by intro _; rfl))) (@pss_one _ _ _ (@ps_never _ _)) (@pss_nil _))), ?_⟩
    exact st_ifN1 (pt_n (b := true) (pt_b (pu_isi (pa_c (pu_v rfl) (pa_c pu_c pa_n)) (.str x) kit_same))) (fun e => by simp at e) fun _ => k
def sp_read_whole : Sp := fun vs H Q _ => ∃ n : Int, vs = [.str (tx n)] ∧ n.natAbs < 10 ^ 60 ∧ ∀ H', Same H H' → Q (.int n) H'
theorem sc_read_whole : FnScope ["text", "figures"] ["text"] (defScope s_read_whole) := ⟨rfl, rfl, rfl, by decide +kernel, rfl, by decide +kernel, by decide +kernel⟩
theorem ok_read_whole (T : Txt K mg t) : FnOk P w K mg base CX0 2 t.f_read_whole t.d_read_whole ["text"] sp_read_whole := by
  refine T.read_whole.F.ok (k := 1) sc_read_whole (fun vs H Q E h => ?_) (fun cdv A outer s H vs Q E hr h => ?_)
  · obtain ⟨n, rfl, _⟩ := h
    rfl
  · obtain ⟨n, rfl, hn, k⟩ := h
    refine ⟨_, (@pss_cons _ _ _ _ _ (@ps_expr _ _ _ _ (@pe_fn _ _ _ _ _ _ _ _ _ _ _ _ _ _ T.check_text (ok_check_text T) hr (by decide) (@pa_cons _ _ _ _ _ (pv 0) (@pa_nil _) star_name) (by rfl) (by decide) (by rfl) (by rfl)) (by rfl)) (@pss_cons _ _ _ _ _ (@ps_set _ _ 1 _ _ _ _ sc_read_whole.nd rfl (Or.inl rfl) (@pe_ifExp _ _ _ _ _ _ _ _ (@pt_val _ _ _ (@pe_bm _ _ _ _ _ _ _ _ _ _ _ _ PySem.F.plainAttrs_str PySem.F.slot_str_startswith PySem.F.type_str_startswith mt_starts (pv 0) (@pa_cons _ _ _ _ _ (@pe_str _ _ _ _) (@pa_nil _) star_con) (by rfl) (by rfl) (by rfl) (by rfl) (by rfl)) (by intro _; rfl)) (@pe_slice _ _ _ _ _ _ _ _ _ _ sl_str1 (pv 0) (@po_some _ _ _ (@pe_int _ _ _ _)) (@po_none _)) (pv 0)) (by rfl) (by first | exact .inl rfl | exact .inr rfl | assumption)) (@pss_cons _ _ _ _ _ (@ps_if _ _ _ _ _ _ _ _ (PW.pt (@pw_or _ _ _ _ _ _ _ (@pt_cmpR _ _ _ _ _ _ _ _ op_lt (@pe_callB _ _ _ _ _ _ _ _ _ call_len_str (by rfl) T.b_len PySem.boot_len (@pa_cons _ _ _ _ _ (pv 1) (@pa_nil _) star_name) (by decide) (by decide) (by rfl) (by rfl)) (@pe_int _ _ _ _) (nomark _)) (@pw_or _ _ _ _ _ _ _ (@pt_cmpR _ _ _ _ _ _ _ _ op_gt (@pe_callB _ _ _ _ _ _ _ _ _ call_len_str (by rfl) T.b_len PySem.boot_len (@pa_cons _ _ _ _ _ (pv 1) (@pa_nil _) star_name) (by decide) (by decide) (by rfl) (by rfl)) (@pe_konI _ _ _ _ T.k_MOST_FIGURES (by rfl) (by decide)) (nomark _)) (@pw_or1 _ _ _ _ (@pt_not _ _ _ _ (@pt_val _ _ _ (@pe_callB _ _ _ _ _ _ _ _ _ (call_all rfl) (by rfl) T.b_all PyProof.Rows.boot_all (@pa_cons _ _ _ _ _ (@pe_lcomp _ _ _ _ _ [] _ ["sign"] _ (fun _ => [none]) _ _ rfl (@pi_str _ _ _ _ (pv 1)) (fun _ _ _ _ => pg_name (i := 0) (List.nodup_cons.mpr ⟨fun h => (nomatch h), List.nodup_nil⟩) rfl (Or.inl rfl) (.inr rfl)) (fun _ _ _ _ => (@pe_cmpR _ _ _ _ _ _ _ _ op_in_str (pv 0) (@pe_konS _ _ _ _ T.k_FIGURES (by rfl) (by decide)) rfl)) (closureFor_none (by decide +kernel)) rfl (by decide +kernel) (by decide +kernel) (fun _ _ h => by cases h) (noCells (by rfl)) (fun _ _ => rfl) (fun _ i _ _ _ h => by cases i with | zero => cases h | succ i => simp at h) (by intro _; rfl)) (@pa_nil _) star_lc) (by decide) (by decide) (by rfl) (by rfl)) (by intro _; rfl))))))) (@pss_one _ _ _ (@ps_never _ _)) (@pss_nil _)) (@pss_cons _ _ _ _ _ (@ps_if _ _ _ _ _ _ _ _ (PW.pt (@pw_and _ _ _ _ _ _ _ (@pt_val _ _ _ (@pe_bm _ _ _ _ _ _ _ _ _ _ _ _ PySem.F.plainAttrs_str PySem.F.slot_str_startswith PySem.F.type_str_startswith mt_starts (pv 1) (@pa_cons _ _ _ _ _ (@pe_str _ _ _ _) (@pa_nil _) star_con) (by rfl) (by rfl) (by rfl) (by rfl) (by rfl)) (by intro _; rfl)) (@pw_and1 _ _ _ _ (@pt_cmpR _ _ _ _ _ _ _ _ op_ne (pv 0) (@pe_str _ _ _ _) (nomark _))))) (@pss_one _ _ _ (@ps_never _ _)) (@pss_nil _)) (@pss_one _ _ _ (@ps_ret _ _ _ _ (@pe_callTy _ _ _ _ _ _ _ _ _ call_intS (by rfl) T.b_int PyProof.Rows.boot_int (@pa_cons _ _ _ _ _ (pv 0) (@pa_nil _) star_name) (by decide) (by decide) (by rfl) (by rfl)))))))), ?_⟩
    obtain ⟨f1, f2⟩ := fig_len hn
    obtain ⟨rd, l61⟩ := tx_reads n hn
    have big : 1000 ≤ sizeLine := by decide
    refine st_exprG (R := fun v H' => H = H') (gv_call (pa_c (pu_v rfl) pa_n) fun Q f => ⟨_, rfl, f _ _ rfl⟩) ?_
    rintro _ _ rfl
    refine st_set (v := .str (fig n)) (pu_ifE (b := decide (n < 0)) ?_ (fun e => ?_) fun e => ?_) ?_
    · have := pu_starts (K := K) (to := tVar 0) (tb := tC (.str (Str.ofString "-"))) (σ := [some (.str (tx n)), none]) (H := H) (pu_v rfl) pu_c
      rw [s_minus, starts_one, tx_starts] at this
      rw [← s_minus] at this
      exact pt_b this
    · have hlt : n < 0 := of_decide_eq_true e
      have e1 : fig n = ⟨((tx n).cps.toList.drop 1).toArray⟩ := by
        rw [tx_neg' hlt]
        rfl
      rw [e1]
      refine pu_cut1 (tn := tNoPart) (pu_v rfl) ?_ (by omega)
      rw [← L2.len_list, tx_neg' hlt]
      exact Nat.succ_le_succ (Nat.zero_le _)
    · have hge : 0 ≤ n := by
        have := of_decide_eq_false e
        omega
      rw [← tx_fig hge]
      exact pu_v rfl
    have LE : ∀ {σ : L2.St} {H' : Hp}, σ[1]? = some (some (.str (fig n))) → Pu (tCB (fun xs H Q => ∃ z, xs = [.str z] ∧ z.length ≤ sizeLine ∧ Q (.int z.length) H) (tCons (tVar 1) tNil)) σ H' (.int ((fig n).length : Nat)) := fun h => pu_lenS (pa_c (pu_v h) pa_n) (by omega)
    refine st_ifNG (R := fun b H' => b = false ∧ Same H H') (gt_or (R := fun b H' => b = false ∧ H = H') (PuT.gt (pt_t (pu_lt (LE rfl) pu_c)) ⟨by rw [decide_eq_false_iff_not]; omega, rfl⟩) (fun H' e => ?_) (fun _ e => by cases e.1)) (fun _ e => by cases e.1) ?_
    · obtain ⟨_, rfl⟩ := e
      refine gt_or (R := fun b H' => b = false ∧ H = H') (PuT.gt (pt_t (pu_gt (LE rfl) pu_c)) ⟨by rw [decide_eq_false_iff_not]; omega, rfl⟩) (fun H' e => ?_) (fun _ e => by cases e.1)
      obtain ⟨_, rfl⟩ := e
      have hall : ((fig n).cps.toList.map fun c => decide (c ∈ (Str.ofString "0123456789").cps.toList)).all id = true := by
        rw [List.all_eq_true]
        intro b hb
        obtain ⟨c, hc, rfl⟩ := List.mem_map.mp hb
        simpa using fig_digit n c hc
      refine gt_nt ((gv_all ((fig n).cps.toList.map fun c => decide (c ∈ (Str.ofString "0123456789").cps.toList)) (gv_compS (fr := fun _ => [none]) (k := 0) (fun c => .bl (decide (c ∈ (Str.ofString "0123456789").cps.toList))) (pu_v rfl) (fig_ascii n) (by omega) (fun _ => KeepS.none1) fun c hc H' s => pu_inS (pu_v rfl) pu_c) ?_).imp ?_)
      · rintro v H' ⟨D, hD, rfl, rfl⟩
        exact ⟨D, rfl, SqL.of (by rw [upd_same, List.map_map]; rfl)⟩
      · rintro v H' ⟨⟨p, D, hD, e1, rfl⟩, rfl⟩
        rw [hall]
        exact ⟨rfl, Same.upd hD⟩
    rintro H1 ⟨_, s1⟩
    refine st_ifN (b := false) (fun Q q => ?_) (fun e => by cases e) fun _ => ?_
    · refine pt_and (b := decide ((fig n).cps.toList[0]? = some 48)) (c := !decide (tx n = Str.ofString "0")) ?_ (fun e => pt_t (pu_neStr (pu_v rfl) pu_c)) _ ?_
      · have := pu_starts (K := K) (to := tVar 1) (tb := tC (.str (Str.ofString "0"))) (σ := [some (.str (tx n)), some (.str (fig n))]) (H := H1) (pu_v rfl) pu_c
        rw [s_zero, starts_one] at this
        rw [← s_zero] at this
        exact pt_b this
      · have : (decide ((fig n).cps.toList[0]? = some 48) && !decide (tx n = Str.ofString "0")) = false := by
          by_cases z : (fig n).cps.toList[0]? = some 48
          · rw [decide_eq_true (fig_zero z)]
            simp
          · rw [decide_eq_false z]
            rfl
        rw [this]
        exact q
    exact st_ret (fun Q q => (pa_c (pu_v rfl) pa_n : PuA (tCons (tVar 0) tNil) _ _ [.str (tx n)]) _ ⟨tx n, n, rfl, rd, by omega, q⟩) (k _ s1)
def sp_read_fraction : Sp := fun vs H Q _ => ∃ f : Int × Int, vs = [.str (shF f)] ∧ FrL f ∧ FrS f ∧ ∀ r H', Same H H' → TupT H' r [f.1, f.2] → Q r H'
theorem sc_read_fraction : FnScope ["text", "parts", "one"] ["text"] (defScope s_read_fraction) := ⟨rfl, rfl, rfl, by decide +kernel, rfl, by decide +kernel, by decide +kernel⟩
theorem ok_read_fraction (T : Txt K mg t) : FnOk P w K mg base CX0 3 t.f_read_fraction t.d_read_fraction ["text"] sp_read_fraction := by
  refine T.read_fraction.F.ok (k := 2) sc_read_fraction (fun vs H Q E h => ?_) (fun cdv A outer s H vs Q E hr h => ?_)
  · obtain ⟨f, rfl, _⟩ := h
    rfl
  · obtain ⟨f, rfl, fl, fs, k⟩ := h
    refine ⟨_, (@pss_cons _ _ _ _ _ (@ps_expr _ _ _ _ (@pe_fn _ _ _ _ _ _ _ _ _ _ _ _ _ _ T.check_text (ok_check_text T) hr (by decide) (@pa_cons _ _ _ _ _ (pv 0) (@pa_nil _) star_name) (by rfl) (by decide) (by rfl) (by rfl)) (by rfl)) (@pss_cons _ _ _ _ _ (@ps_set _ _ 1 _ _ _ _ sc_read_fraction.nd rfl (Or.inl rfl) (@pe_bm _ _ _ _ _ _ _ _ _ _ _ _ PySem.F.plainAttrs_str PySem.F.slot_str_split PySem.F.type_str_split mt_split (pv 0) (@pa_cons _ _ _ _ _ (@pe_str _ _ _ _) (@pa_nil _) star_con) (by rfl) (by rfl) (by rfl) (by rfl) (by rfl)) (by rfl) (by first | exact .inl rfl | exact .inr rfl | assumption)) (@pss_cons _ _ _ _ _ (@ps_if _ _ _ _ _ _ _ _ (@pt_cmpR _ _ _ _ _ _ _ _ op_eq (@pe_callB _ _ _ _ _ _ _ _ _ call_len_seq (by rfl) T.b_len PySem.boot_len (@pa_cons _ _ _ _ _ (pv 1) (@pa_nil _) star_name) (by decide) (by decide) (by rfl) (by rfl)) (@pe_int _ _ _ _) (nomark _)) (@pss_one _ _ _ (@ps_ret _ _ _ _ (@pe_tup _ _ _ _ _ (@pa_cons _ _ _ _ _ (@pe_fn _ _ _ _ _ _ _ _ _ _ _ _ _ _ T.read_whole (ok_read_whole T) hr (by decide) (@pa_cons _ _ _ _ _ (pv 0) (@pa_nil _) star_name) (by rfl) (by decide) (by rfl) (by rfl)) (@pa_cons _ _ _ _ _ (@pe_int _ _ _ _) (@pa_nil _) star_con) star_call)))) (@pss_nil _)) (@pss_cons _ _ _ _ _ (@ps_set _ _ 2 _ _ _ _ sc_read_fraction.nd rfl (Or.inl rfl) (@pe_callTy _ _ _ _ _ _ _ _ _ call_tuple_of (by rfl) T.b_tuple PyProof.Rows.boot_tuple (@pa_cons _ _ _ _ _ (@pe_lcomp _ _ _ _ _ [] _ ["part"] _ (fun _ => [none]) _ _ rfl (@pi_list _ _ _ _ (pv 1)) (fun _ _ _ _ => pg_name (i := 0) (List.nodup_cons.mpr ⟨fun h => (nomatch h), List.nodup_nil⟩) rfl (Or.inl rfl) (.inr rfl)) (fun _ _ _ _ => (@pe_fn _ _ _ _ _ _ _ _ _ _ _ _ _ _ T.read_whole (ok_read_whole T) hr (by decide) (@pa_cons _ _ _ _ _ (pv 0) (@pa_nil _) star_name) (by rfl) (by decide) (by rfl) (by rfl))) (closureFor_none (by decide +kernel)) rfl (by decide +kernel) (by decide +kernel) (fun _ _ h => by cases h) (noCells (by rfl)) (fun _ _ => rfl) (fun _ i _ _ _ h => by cases i with | zero => cases h | succ i => simp at h) (by intro _; rfl)) (@pa_nil _) star_lc) (by decide) (by decide) (by rfl) (by rfl)) (by rfl) (by first | exact .inl rfl | exact .inr rfl | assumption)) (@pss_cons _ _ _ _ _ (@ps_if _ _ _ _ _ _ _ _ (PW.pt (@pw_or _ _ _ _ _ _ _ (@pt_not _ _ _ _ (@pt_val _ _ _ (@pe_fn _ _ _ _ _ _ _ _ _ _ _ _ _ _ T.is_fraction (ok_is_fraction T) hr (by decide) (@pa_cons _ _ _ _ _ (pv 2) (@pa_nil _) star_name) (by rfl) (by decide) (by rfl) (by rfl)) (by intro _; rfl))) (@pw_or1 _ _ _ _ (@pt_cmpR _ _ _ _ _ _ _ _ op_eq (@pe_ix _ _ _ _ _ _ _ ix_tup (pv 2) (@pe_int _ _ _ _) (fun _ _ => rfl)) (@pe_int _ _ _ _) (nomark _))))) (@pss_one _ _ _ (@ps_never _ _)) (@pss_nil _)) (@pss_one _ _ _ (@ps_ret _ _ _ _ (pv 2)))))))), ?_⟩
    have big : 1000 ≤ sizeLine := by decide
    have two : ([] : List V).length + 2 ≤ sizeLine := by decide
    have sl := shF_len fl.b1 fl.b2
    refine st_exprG (R := fun v H' => H = H') (gv_call (pa_c (pu_v rfl) pa_n) fun Q f => ⟨_, rfl, f _ _ rfl⟩) ?_
    rintro _ _ rfl
    refine st_setG (gv_split (pu_v rfl) pu_c (by decide +kernel) (by omega) (split_shF f) (by split <;> simp <;> omega)) ?_
    rintro _ _ ⟨p, hp, rfl, rfl⟩
    have s0 : Same H (upd H p (.lst ((if f.2 = 1 then [tx f.1] else [tx f.1, tx f.2]).map V.str))) := Same.upd hp
    by_cases h1 : f.2 = 1
    · have e : (if f.2 = 1 then [tx f.1] else [tx f.1, tx f.2]) = [tx f.1] := if_pos h1
      rw [e] at s0
      rw [e]
      refine st_ifN (b := true) (pt_t (pu_eqI (pu_lenL (pa_c (pu_v rfl) pa_n) (SqL.of upd_same)) pu_c)) (fun _ => ?_) (fun e => by cases e)
      have es : shF f = tx f.1 := by unfold shF; rw [if_pos h1]
      refine st_retG (R := fun r H' => Same H H' ∧ TupT H' r [f.1, f.2]) (gv_tupA (RA := fun vs H' => vs = [.int f.1, .int 1] ∧ Same H H') (fun Q q => ?_) ?_) fun r H' z => k r H' z.1 z.2
      · refine gv_call (sp := sp_read_whole) (E := E0) (R := fun v H' => v = .int f.1 ∧ Same H H') (pa_c (pu_v rfl) pa_n) (fun Q q => ⟨f.1, by rw [es]; rfl, fs.1, fun H' s => q _ _ ⟨rfl, s0.trans s⟩⟩) _ ?_
        rintro _ H1 ⟨rfl, s1⟩
        exact q _ _ ⟨rfl, s1⟩
      · rintro _ H1 ⟨rfl, s1⟩
        refine ⟨two, fun a ha => ⟨s1.trans (Same.upd ha), ?_⟩⟩
        rw [h1]
        exact TupT.of (ns := [f.1, 1]) upd_same
    · have e : (if f.2 = 1 then [tx f.1] else [tx f.1, tx f.2]) = [tx f.1, tx f.2] := if_neg h1
      rw [e] at s0
      rw [e]
      refine st_ifN (b := false) (pt_t (pu_eqI (pu_lenL (pa_c (pu_v rfl) pa_n) (SqL.of upd_same)) pu_c)) (fun e => by cases e) (fun _ => ?_)
      have hpl : (upd H p (.lst ([tx f.1, tx f.2].map V.str))) p = some (.lst ([tx f.1, tx f.2].map V.str)) := upd_same
      revert s0 hpl
      generalize upd H p (.lst ([tx f.1, tx f.2].map V.str)) = H1
      intro s0 hpl
      refine st_setG (R := fun v H' => Same H H' ∧ TupT H' v [f.1, f.2]) (gv_cb1 (gv_compLI (ws := [.int f.1, .int f.2]) (fr := fun _ => [none]) (k := 0) (pu_v rfl) hpl (by simp) rfl (fun _ => KeepS.none1) ?_) ?_) ?_
      · intro i x w H' hx hw s
        rcases i with _ | _ | i
        · have e1 : V.str (tx f.1) = x := Option.some.inj hx
          have e2 : V.int f.1 = w := Option.some.inj hw
          subst e1 e2
          exact gv_call (pa_c (pu_v rfl) pa_n) fun Q q => ⟨f.1, rfl, fs.1, fun H'' s' => q _ _ ⟨rfl, s'⟩⟩
        · have e1 : V.str (tx f.2) = x := Option.some.inj hx
          have e2 : V.int f.2 = w := Option.some.inj hw
          subst e1 e2
          exact gv_call (pa_c (pu_v rfl) pa_n) fun Q q => ⟨f.2, rfl, fs.2, fun H'' s' => q _ _ ⟨rfl, s'⟩⟩
        · simp at hx
      · rintro _ H2 ⟨s2, D, rfl, _, hD⟩ Q q
        exact ⟨D, _, rfl, .inl ⟨SqL.of hD, fun a ha => q _ _ ⟨s0.trans (s2.trans (Same.upd ha)), TupT.of (ns := [f.1, f.2]) upd_same⟩⟩⟩
      rintro v H2 ⟨s2, tv⟩
      refine st_ifNG (R := fun b H' => b = false ∧ Same H2 H') (gt_or (gt_nt (R := fun H' => Same H2 H') (gv_call (pa_c (pu_v rfl) pa_n) fun Q q => ⟨v, f.1, f.2, rfl, tv, fl.pos, fl.cop, fun H' s => q _ _ ⟨rfl, s⟩⟩)) (fun H' e => ?_) (fun _ e => by cases e.1)) (fun _ e => by cases e.1) ?_
      · obtain ⟨a, rfl, ha⟩ := tv.same e.2
        exact PuT.gt (pt_t (pu_eqI (pu_ixT (pu_v rfl) pu_c (SqT.of (ha)) rfl) pu_c)) ⟨by rw [decide_eq_false_iff_not]; exact h1, e.2⟩
      rintro H3 ⟨_, s3⟩
      exact st_ret (pu_v rfl) (k v H3 (s2.trans s3) (tv.same s3))
def sp_read_point : Sp := fun vs H Q _ => ∃ x y : Int × Int, vs = [.str (shP x y)] ∧ FrL x ∧ FrL y ∧ FrS x ∧ FrS y ∧ ∀ r H', Same H H' → AtP H' r (ptF x y) → Q r H'
theorem sc_read_point : FnScope ["text", "parts"] ["text"] (defScope s_read_point) := ⟨rfl, rfl, rfl, by decide +kernel, rfl, by decide +kernel, by decide +kernel⟩
theorem ok_read_point (T : Txt K mg t) : FnOk P w K mg base CX0 4 t.f_read_point t.d_read_point ["text"] sp_read_point := by
  refine T.read_point.F.ok (k := 3) sc_read_point (fun vs H Q E h => ?_) (fun cdv A outer s H vs Q E hr h => ?_)
  · obtain ⟨x, y, rfl, _⟩ := h
    rfl
  · obtain ⟨x, y, rfl, fx, fy, sx, sy, k⟩ := h
    refine ⟨_, (@pss_cons _ _ _ _ _ (@ps_expr _ _ _ _ (@pe_fn _ _ _ _ _ _ _ _ _ _ _ _ _ _ T.check_text (ok_check_text T) hr (by decide) (@pa_cons _ _ _ _ _ (pv 0) (@pa_nil _) star_name) (by rfl) (by decide) (by rfl) (by rfl)) (by rfl)) (@pss_cons _ _ _ _ _ (@ps_set _ _ 1 _ _ _ _ sc_read_point.nd rfl (Or.inl rfl) (@pe_bm _ _ _ _ _ _ _ _ _ _ _ _ PySem.F.plainAttrs_str PySem.F.slot_str_split PySem.F.type_str_split mt_split (pv 0) (@pa_cons _ _ _ _ _ (@pe_str _ _ _ _) (@pa_nil _) star_con) (by rfl) (by rfl) (by rfl) (by rfl) (by rfl)) (by rfl) (by first | exact .inl rfl | exact .inr rfl | assumption)) (@pss_cons _ _ _ _ _ (@ps_if _ _ _ _ _ _ _ _ (@pt_cmpR _ _ _ _ _ _ _ _ op_ne (@pe_callB _ _ _ _ _ _ _ _ _ call_len_seq (by rfl) T.b_len PySem.boot_len (@pa_cons _ _ _ _ _ (pv 1) (@pa_nil _) star_name) (by decide) (by decide) (by rfl) (by rfl)) (@pe_int _ _ _ _) (nomark _)) (@pss_one _ _ _ (@ps_never _ _)) (@pss_nil _)) (@pss_one _ _ _ (@ps_ret _ _ _ _ (@pe_fn _ _ _ _ _ _ _ _ _ _ _ _ _ _ T.point_of (ok_point_of T) hr (by decide) (@pa_cons _ _ _ _ _ (@pe_fn _ _ _ _ _ _ _ _ _ _ _ _ _ _ T.read_fraction (ok_read_fraction T) hr (by decide) (@pa_cons _ _ _ _ _ (@pe_ix _ _ _ _ _ _ _ ix_list (pv 1) (@pe_int _ _ _ _) (fun _ _ => rfl)) (@pa_nil _) star_sub) (by rfl) (by decide) (by rfl) (by rfl)) (@pa_cons _ _ _ _ _ (@pe_fn _ _ _ _ _ _ _ _ _ _ _ _ _ _ T.read_fraction (ok_read_fraction T) hr (by decide) (@pa_cons _ _ _ _ _ (@pe_ix _ _ _ _ _ _ _ ix_list (pv 1) (@pe_int _ _ _ _) (fun _ _ => rfl)) (@pa_nil _) star_sub) (by rfl) (by decide) (by rfl) (by rfl)) (@pa_nil _) star_call) star_call) (by rfl) (by decide) (by rfl) (by rfl))))))), ?_⟩
    have big : 10000 ≤ sizeLine := by decide
    have sl := shP_len fx fy
    refine st_exprG (R := fun v H' => H = H') (gv_call (pa_c (pu_v rfl) pa_n) fun Q f => ⟨_, rfl, f _ _ rfl⟩) ?_
    rintro _ _ rfl
    refine st_setG (gv_split (pu_v rfl) pu_c (by decide +kernel) (by omega) (split_shP x y) (by simp; omega)) ?_
    rintro _ _ ⟨p, hp, rfl, rfl⟩
    have s0 : Same H (upd H p (.lst ([shF x, shF y].map V.str))) := Same.upd hp
    have hpl : (upd H p (.lst ([shF x, shF y].map V.str))) p = some (.lst ([shF x, shF y].map V.str)) := upd_same
    revert s0 hpl
    generalize upd H p (.lst ([shF x, shF y].map V.str)) = H1
    intro s0 hpl
    refine st_ifN (b := false) (pt_t (pu_neI (pu_lenL (pa_c (pu_v rfl) pa_n) (SqL.of hpl)) pu_c)) (fun e => by cases e) (fun _ => ?_)
    refine st_retG (R := fun r H' => Same H H' ∧ AtP H' r (ptF x y)) (gv_callA (ga_cons (gv_call (sp := sp_read_fraction) (E := E0) (R := fun r H' => Same H1 H' ∧ TupT H' r [x.1, x.2]) (pa_c (pu_ixL (pu_v rfl) pu_c (SqL.of hpl) rfl) pa_n) fun Q f => ⟨x, rfl, fx, sx, fun r H' s t => f _ _ ⟨s, t⟩⟩) fun v H2 r2 => ga_cons (gv_call (sp := sp_read_fraction) (E := E0) (R := fun r H' => Same H2 H' ∧ TupT H' r [y.1, y.2]) (pa_c (pu_ixL (pu_v rfl) pu_c (SqL.of (r2.1 _ _ hpl)) rfl) pa_n) fun Q f => ⟨y, rfl, fy, sy, fun r H' s t => f _ _ ⟨s, t⟩⟩) fun _ _ _ => ga_nil) ?_) fun r H' z => k r H' z.1 z.2
    rintro vs H4 ⟨v, H2, r, rfl, ⟨s2, t2⟩, w, H3, r3, rfl, ⟨s3, t3⟩, rfl, rfl⟩ Q f
    exact ⟨v, w, x, y, rfl, t2.same s3, t3, fx, fy, fun r H' s t => f _ _ ⟨s0.trans (s2.trans (s3.trans s)), t⟩⟩
def sp_read_ring : Sp := fun vs H Q _ => ∃ r : List ((Int × Int) × (Int × Int)), vs = [.str (shR r)] ∧ r ≠ [] ∧ r.length ≤ 60 ∧ (∀ f ∈ r, FrL f.1 ∧ FrL f.2) ∧ (∀ f ∈ r, FrS f.1 ∧ FrS f.2) ∧ ∀ D H', Same H H' → H D = none → LP H' D (r.map fun f => ptF f.1 f.2) → Q (.ref D) H'
theorem sc_read_ring : FnScope ["text"] ["text"] (defScope s_read_ring) := ⟨rfl, rfl, rfl, by decide +kernel, rfl, by decide +kernel, by decide +kernel⟩
theorem ok_read_ring (T : Txt K mg t) : FnOk P w K mg base CX0 5 t.f_read_ring t.d_read_ring ["text"] sp_read_ring := by
  refine T.read_ring.F.ok (k := 4) sc_read_ring (fun vs H Q E h => ?_) (fun cdv A outer s H vs Q E hr h => ?_)
  · obtain ⟨r, rfl, _⟩ := h
    rfl
  · obtain ⟨r, rfl, r0, r60, fl, fs, k⟩ := h
    refine ⟨_, (@pss_one _ _ _ (@ps_ret _ _ _ _ (@pe_lcomp _ _ _ _ _ [] _ ["word"] _ (fun _ => [none]) _ _ rfl (@pi_list _ _ _ _ (@pe_bm _ _ _ _ _ _ _ _ _ _ _ _ PySem.F.plainAttrs_str PySem.F.slot_str_split PySem.F.type_str_split mt_split (pv 0) (@pa_cons _ _ _ _ _ (@pe_str _ _ _ _) (@pa_nil _) star_con) (by rfl) (by rfl) (by rfl) (by rfl) (by rfl))) (fun _ _ _ _ => pg_name (i := 0) (List.nodup_cons.mpr ⟨fun h => (nomatch h), List.nodup_nil⟩) rfl (Or.inl rfl) (.inr rfl)) (fun _ _ _ _ => (@pe_fn _ _ _ _ _ _ _ _ _ _ _ _ _ _ T.read_point (ok_read_point T) hr (by decide) (@pa_cons _ _ _ _ _ (pv 0) (@pa_nil _) star_name) (by rfl) (by decide) (by rfl) (by rfl))) (closureFor_none (by decide +kernel)) rfl (by decide +kernel) (by decide +kernel) (fun _ _ h => by cases h) (noCells (by rfl)) (fun _ _ => rfl) (fun _ i _ _ _ h => by cases i with | zero => cases h | succ i => simp at h) (by intro _; rfl)))), ?_⟩
    have big : 1000000 ≤ sizeLine := by decide
    have sl := shR_len fl r60
    refine st_retG (R := fun v H' => Same H H' ∧ ∃ D, v = .ref D ∧ H D = none ∧ LP H' D (r.map fun f => ptF f.1 f.2)) (gv_compOf (gv_split (pu_v rfl) pu_c (by decide +kernel) (by omega) (split_shR r0) (by rw [List.length_map]; omega)) ?_) ?_
    · rintro _ _ ⟨p, hp, rfl, rfl⟩
      have s0 : Same H (upd H p (.lst ((r.map fun f => shP f.1 f.2).map V.str))) := Same.upd hp
      refine (gv_compPt (pts := r.map fun f => ptF f.1 f.2) pu_c upd_same (by rw [List.length_map, List.length_map]; omega) (by rw [List.length_map, List.length_map, List.length_map]) (fun _ => KeepS.none1) ?_).imp fun v H' ⟨s, D, e, n, l⟩ => ⟨s0.trans s, D, e, s0.free n, l⟩
      intro i x q H' hx hq s
      rw [List.getElem?_map, List.getElem?_map] at hx
      rw [List.getElem?_map] at hq
      cases hf : r[i]? with
      | none => rw [hf] at hx; cases hx
      | some f =>
        rw [hf] at hx hq
        have e1 : V.str (shP f.1 f.2) = x := Option.some.inj hx
        have e2 : ptF f.1 f.2 = q := Option.some.inj hq
        subst e1 e2
        have hm := List.mem_of_getElem? hf
        exact gv_call (pa_c (pu_v rfl) pa_n) fun Q g => ⟨f.1, f.2, rfl, (fl f hm).1, (fl f hm).2, (fs f hm).1, (fs f hm).2, fun r H'' s' t => g _ _ ⟨s', t⟩⟩
    · rintro _ H1 ⟨s1, D, rfl, n, l⟩
      exact k D H1 s1 n l
def sp_read_rings : Sp := fun vs H Q _ => ∃ rs : List (List ((Int × Int) × (Int × Int))), vs = [.str (shRs rs)] ∧ rs ≠ [] ∧ rs.length ≤ 20 ∧ (∀ r ∈ rs, r ≠ [] ∧ r.length ≤ 60 ∧ (∀ f ∈ r, FrL f.1 ∧ FrL f.2) ∧ (∀ f ∈ r, FrS f.1 ∧ FrS f.2)) ∧ ∀ (D : Addr) (as : List Addr) H', Same H H' → H D = none → H' D = some (.lst (as.map V.ref)) → Paired (LP H') as (rs.map ptsOf) → as.Nodup → (∀ b ∈ as, b ≠ D ∧ H b = none) → Q (.ref D) H'
theorem shRs_len {rs : List (List ((Int × Int) × (Int × Int)))} (h : ∀ r ∈ rs, (∀ f ∈ r, FrL f.1 ∧ FrL f.2) ∧ r.length ≤ 60) (hl : rs.length ≤ 20) : (shRs rs).length ≤ 2164860 := by
  have := join_len (sep := Str.ofString " | ") (b := 108240) (rs.map shR) (fun t ht => by
    obtain ⟨r, hr, rfl⟩ := List.mem_map.mp ht
    exact shR_len (h r hr).1 (h r hr).2)
  rw [List.length_map] at this
  refine Nat.le_trans this (Nat.le_trans (Nat.mul_le_mul_right _ hl) (by decide +kernel))
theorem sc_read_rings : FnScope ["text"] ["text"] (defScope s_read_rings) := ⟨rfl, rfl, rfl, by decide +kernel, rfl, by decide +kernel, by decide +kernel⟩
theorem ok_read_rings (T : Txt K mg t) : FnOk P w K mg base CX0 6 t.f_read_rings t.d_read_rings ["text"] sp_read_rings := by
  refine T.read_rings.F.ok (k := 5) sc_read_rings (fun vs H Q E h => ?_) (fun cdv A outer s H vs Q E hr h => ?_)
  · obtain ⟨rs, rfl, _⟩ := h
    rfl
  · obtain ⟨rs, rfl, r0, r20, hrs, k⟩ := h
    refine ⟨_, (@pss_cons _ _ _ _ _ (@ps_expr _ _ _ _ (@pe_fn _ _ _ _ _ _ _ _ _ _ _ _ _ _ T.check_text (ok_check_text T) hr (by decide) (@pa_cons _ _ _ _ _ (pv 0) (@pa_nil _) star_name) (by rfl) (by decide) (by rfl) (by rfl)) (by rfl)) (@pss_one _ _ _ (@ps_ret _ _ _ _ (@pe_lcomp _ _ _ _ _ [] _ ["part"] _ (fun _ => [none]) _ _ rfl (@pi_list _ _ _ _ (@pe_bm _ _ _ _ _ _ _ _ _ _ _ _ PySem.F.plainAttrs_str PySem.F.slot_str_split PySem.F.type_str_split mt_split (pv 0) (@pa_cons _ _ _ _ _ (@pe_str _ _ _ _) (@pa_nil _) star_con) (by rfl) (by rfl) (by rfl) (by rfl) (by rfl))) (fun _ _ _ _ => pg_name (i := 0) (List.nodup_cons.mpr ⟨fun h => (nomatch h), List.nodup_nil⟩) rfl (Or.inl rfl) (.inr rfl)) (fun _ _ _ _ => (@pe_fn _ _ _ _ _ _ _ _ _ _ _ _ _ _ T.read_ring (ok_read_ring T) hr (by decide) (@pa_cons _ _ _ _ _ (pv 0) (@pa_nil _) star_name) (by rfl) (by decide) (by rfl) (by rfl))) (closureFor_none (by decide +kernel)) rfl (by decide +kernel) (by decide +kernel) (fun _ _ h => by cases h) (noCells (by rfl)) (fun _ _ => rfl) (fun _ i _ _ _ h => by cases i with | zero => cases h | succ i => simp at h) (by intro _; rfl))))), ?_⟩
    have big : 10000000 ≤ sizeLine := by decide
    have sl := shRs_len (fun r hr => ⟨(hrs r hr).2.2.1, (hrs r hr).2.1⟩) r20
    refine st_exprG (R := fun v H' => H = H') (gv_call (pa_c (pu_v rfl) pa_n) fun Q f => ⟨_, rfl, f _ _ rfl⟩) ?_
    rintro _ _ rfl
    refine st_retG (R := fun v H' => Same H H' ∧ ∃ (D : Addr) (as : List Addr), v = .ref D ∧ H D = none ∧ H' D = some (.lst (as.map V.ref)) ∧ Paired (LP H') as (rs.map ptsOf) ∧ as.Nodup ∧ ∀ b ∈ as, b ≠ D ∧ H b = none) (gv_compOf (gv_split (pu_v rfl) pu_c (by decide +kernel) (by omega) (split_shRs r0) (by rw [List.length_map]; omega)) ?_) ?_
    · rintro _ _ ⟨p, hp, rfl, rfl⟩
      have s0 : Same H (upd H p (.lst ((rs.map shR).map V.str))) := Same.upd hp
      refine (gv_compRow (rows := rs.map ptsOf) pu_c upd_same (by rw [List.length_map, List.length_map]; omega) (by rw [List.length_map, List.length_map, List.length_map]) (fun _ => KeepS.none1) ?_).imp fun v H' ⟨s, D, as, e, n, h1, h2, h3, h4⟩ => ⟨s0.trans s, D, as, e, s0.free n, h1, h2, h3, fun b hb => ⟨(h4 b hb).1, s0.free (h4 b hb).2⟩⟩
      intro i x q H' hx hq s
      rw [List.getElem?_map, List.getElem?_map] at hx
      rw [List.getElem?_map] at hq
      cases hf : rs[i]? with
      | none => rw [hf] at hx; cases hx
      | some r =>
        rw [hf] at hx hq
        have e1 : V.str (shR r) = x := Option.some.inj hx
        have e2 : ptsOf r = q := Option.some.inj hq
        subst e1 e2
        obtain ⟨q1, q2, q3, q4⟩ := hrs r (List.mem_of_getElem? hf)
        exact gv_call (pa_c (pu_v rfl) pa_n) fun Q g => ⟨r, rfl, q1, q2, q3, q4, fun D H'' s' n l => g _ _ ⟨s', D, rfl, n, l⟩⟩
    · rintro _ H1 ⟨s1, D, as, rfl, n, h1, h2, h3, h4⟩
      exact k D as H1 s1 n h1 h2 h3 h4
def sp_l_hand (K : PySem.W.Frag) : Sp := fun vs H Q _ => ∃ (a : Addr) (ns : List Int), vs = [.ref a] ∧ SqL K H a (ns.map V.int) ∧ ∀ hd sc H', Same H H' → H hd = none → HandAt H' hd sc → Q (.ref hd) H'
theorem sc_l_hand : FnScope ["_law_script"] ["_law_script"] (defScope s_l_hand) := ⟨rfl, rfl, rfl, by decide +kernel, rfl, by decide +kernel, by decide +kernel⟩
theorem ok_l_hand (T : Txt K mg t) : FnOk P w K mg base CX0 1 t.f_l_hand t.d_l_hand ["_law_script"] (sp_l_hand K) := by
  refine T.l_hand.F.ok (k := 0) sc_l_hand (fun vs H Q E h => ?_) (fun cdv A outer s H vs Q E hr h => ?_)
  · obtain ⟨a, ns, rfl, _⟩ := h
    rfl
  · obtain ⟨a, ns, rfl, hS, k⟩ := h
    refine ⟨_, (@pss_one _ _ _ (@ps_ret _ _ _ _ (@pe_lst _ _ _ _ (@pa_cons _ _ _ _ _ (@pe_callTy _ _ _ _ _ _ _ _ _ call_list_of (by rfl) T.b_list PyProof.Rows.boot_list (@pa_cons _ _ _ _ _ (@pe_slice _ _ _ _ _ _ _ _ _ _ sl_list (pv 0) (@po_none _) (@po_some _ _ _ (@pe_int _ _ _ _))) (@pa_nil _) star_sub) (by decide) (by decide) (by rfl) (by rfl)) (@pa_cons _ _ _ _ _ (@pe_int _ _ _ _) (@pa_cons _ _ _ _ _ (@pe_int _ _ _ _) (@pa_cons _ _ _ _ _ (@pe_int _ _ _ _) (@pa_cons _ _ _ _ _ (@pe_int _ _ _ _) (@pa_cons _ _ _ _ _ (@pe_int _ _ _ _) (@pa_nil _) star_con) star_con) star_con) star_con) star_con) star_call)))), ?_⟩
    refine ⟨_, rfl, 63, rfl, a, _, rfl, hS, fun p hp => ?_⟩
    refine ⟨p, _, rfl, .inl (SqL.of upd_same), fun l hl => ⟨by show 6 ≤ sizeLine; decide, fun hd hh => ?_⟩⟩
    have s1 : Same H (upd H p (.lst (cutV (ns.map V.int) none (some 63)))) := Same.upd hp
    have s2 : Same (upd H p (.lst (cutV (ns.map V.int) none (some 63)))) _ := Same.upd (o := .lst (cutV (ns.map V.int) none (some 63))) hl
    have s3 := s1.trans (s2.trans (Same.upd (o := .lst [.ref l, .int 0, .int 0, .int 0, .int 20011, .int 40009]) hh))
    refine k hd l _ s3 (s1.free (s2.free hh)) ⟨(ns.drop (HT.sIx (ns.map V.int).length 0 none)).take (HT.sIx (ns.map V.int).length (ns.map V.int).length (some 63) - HT.sIx (ns.map V.int).length 0 none), 0, 0, 0, 20011, 40009, upd_same, ?_, by decide⟩
    rw [upd_ne (ne_of_none upd_same hh), upd_same, List.map_take, List.map_drop]
    rfl
def sp_l_next : Sp := fun vs H Q _ => ∃ hd sc, vs = [.ref hd] ∧ HandAt H hd sc ∧ ∀ (n : Int) H', HandAt H' hd sc → SameB hd H H' → Q (.int n) H'
theorem sc_l_next : FnScope ["_law_hand_here"] ["_law_hand_here"] (defScope s_l_next) := ⟨rfl, rfl, rfl, by decide +kernel, rfl, by decide +kernel, by decide +kernel⟩
theorem ok_l_next (T : Txt K mg t) : FnOk P w K mg base CX0 1 t.f_l_next t.d_l_next ["_law_hand_here"] sp_l_next := by
  refine T.l_next.F.ok (k := 0) sc_l_next (fun vs H Q E h => ?_) (fun cdv A outer s H vs Q E hr h => ?_)
  · obtain ⟨hd, sc, rfl, _⟩ := h
    rfl
  · obtain ⟨hd, sc, rfl, ⟨ns, i, b, c, p, q, h1, h2, h0⟩, k⟩ := h
    have nsc := HandAt.ne h1 h2
    refine ⟨_, (@pss_cons _ _ _ _ _ (@ps_asg _ _ _ _ _ _ (@pe_op _ _ _ _ _ _ _ _ op_modN (@pe_op _ _ _ _ _ _ _ _ op_mulB (@pe_ix _ _ _ _ _ _ _ ix_list (pv 0) (@pe_int _ _ _ _) (fun _ _ => rfl)) (@pe_int _ _ _ _)) (@pe_int _ _ _ _)) (@pg_sub _ _ _ _ _ _ _ (pv 0) (@pe_int _ _ _ _) set_list (by intro _; rfl)) (by rfl) (by rfl) (by rfl)) (@pss_cons _ _ _ _ _ (@ps_asg _ _ _ _ _ _ (@pe_op _ _ _ _ _ _ _ _ op_modN (@pe_op _ _ _ _ _ _ _ _ op_mulB (@pe_ix _ _ _ _ _ _ _ ix_list (pv 0) (@pe_int _ _ _ _) (fun _ _ => rfl)) (@pe_int _ _ _ _)) (@pe_int _ _ _ _)) (@pg_sub _ _ _ _ _ _ _ (pv 0) (@pe_int _ _ _ _) set_list (by intro _; rfl)) (by rfl) (by rfl) (by rfl)) (@pss_one _ _ _ (@ps_ret _ _ _ _ (@pe_op _ _ _ _ _ _ _ _ op_add (@pe_ix _ _ _ _ _ _ _ ix_list (pv 0) (@pe_int _ _ _ _) (fun _ _ => rfl)) (@pe_ix _ _ _ _ _ _ _ ix_list (pv 0) (@pe_int _ _ _ _) (fun _ _ => rfl))))))), ?_⟩
    refine st_put (pu_mod (pu_mul (pu_ixL (pu_v rfl) pu_c (SqL.of h1) rfl) pu_c (IntMulOk.of_right (by decide))) pu_c (by decide)) (pu_v rfl) pu_c h1 rfl ?_
    refine st_put (pu_mod (pu_mul (pu_ixL (pu_v rfl) pu_c (SqL.of upd_same) rfl) pu_c (IntMulOk.of_right (by decide))) pu_c (by decide)) (pu_v rfl) pu_c upd_same rfl ?_
    refine st_ret (pu_add (pu_ixL (pu_v rfl) pu_c (SqL.of upd_same) rfl) (pu_ixL (pu_v rfl) pu_c (SqL.of upd_same) rfl)) ?_
    exact k _ _ ⟨ns, i, b, c, _, _, upd_same, by rw [upd_ne nsc, upd_ne nsc]; exact h2, h0⟩ (SameB.upd.trans SameB.upd)
def sp_l_take : Sp := fun vs H Q _ => ∃ hd sc, vs = [.ref hd] ∧ HandAt H hd sc ∧ ∀ H', HandAt H' hd sc → SameB hd H H' → Q .non H'
theorem sc_l_take : FnScope ["_law_hand_here", "_law_cell"] ["_law_hand_here"] (defScope s_l_take) := ⟨rfl, rfl, rfl, by decide +kernel, rfl, by decide +kernel, by decide +kernel⟩
theorem ok_l_take (T : Txt K mg t) : FnOk P w K mg base CX0 2 t.f_l_take t.d_l_take ["_law_hand_here"] sp_l_take := by
  refine T.l_take.F.ok (k := 1) sc_l_take (fun vs H Q E h => ?_) (fun cdv A outer s H vs Q E hr h => ?_)
  · obtain ⟨hd, sc, rfl, _⟩ := h
    rfl
  · obtain ⟨hd, sc, rfl, ⟨ns, i, b, c, p, q, h1, h2, h0⟩, k⟩ := h
    have nsc := HandAt.ne h1 h2
    refine ⟨_, (@pss_cons _ _ _ _ _ (@ps_set _ _ 1 _ _ _ _ sc_l_take.nd rfl (Or.inl rfl) (@pe_int _ _ _ _) (by rfl) (by first | exact .inl rfl | exact .inr rfl | assumption)) (@pss_cons _ _ _ _ _ (@ps_if _ _ _ _ _ _ _ _ (@pt_cmpR _ _ _ _ _ _ _ _ op_lt (@pe_ix _ _ _ _ _ _ _ ix_list (pv 0) (@pe_int _ _ _ _) (fun _ _ => rfl)) (@pe_callB _ _ _ _ _ _ _ _ _ call_len_seq (by rfl) T.b_len PySem.boot_len (@pa_cons _ _ _ _ _ (@pe_ix _ _ _ _ _ _ _ ix_list (pv 0) (@pe_int _ _ _ _) (fun _ _ => rfl)) (@pa_nil _) star_sub) (by decide) (by decide) (by rfl) (by rfl)) (nomark _)) (@pss_one _ _ _ (@ps_set _ _ 1 _ _ _ _ sc_l_take.nd rfl (Or.inl rfl) (@pe_callB _ _ _ _ _ _ _ _ _ call_abs (by rfl) T.b_abs PyProof.Rows.boot_abs (@pa_cons _ _ _ _ _ (@pe_ix _ _ _ _ _ _ _ ix_list (@pe_ix _ _ _ _ _ _ _ ix_list (pv 0) (@pe_int _ _ _ _) (fun _ _ => rfl)) (@pe_ix _ _ _ _ _ _ _ ix_list (pv 0) (@pe_int _ _ _ _) (fun _ _ => rfl)) (fun _ _ => rfl)) (@pa_nil _) star_sub) (by decide) (by decide) (by rfl) (by rfl)) (by rfl) (by first | exact .inl rfl | exact .inr rfl | assumption))) (@pss_nil _)) (@pss_cons _ _ _ _ _ (@ps_augS _ _ _ _ _ _ _ _ _ _ _ _ _ (pv 0) (@pe_int _ _ _ _) get_list (@pe_int _ _ _ _) ip_add set_list (by intros; rfl)) (@pss_cons _ _ _ _ _ (@ps_if _ _ _ _ _ _ _ _ (@pt_cmpR _ _ _ _ _ _ _ _ op_ge (pv 1) (@pe_op _ _ _ _ _ _ _ _ op_pow (@pe_int _ _ _ _) (@pe_int _ _ _ _)) (nomark _)) (@pss_one _ _ _ (@ps_asg _ _ _ _ _ _ (pv 1) (@pg_sub _ _ _ _ _ _ _ (pv 0) (@pe_int _ _ _ _) set_list (by intro _; rfl)) (by rfl) (by rfl) (by rfl))) (@pss_one _ _ _ (@ps_asg _ _ _ _ _ _ (@pe_int _ _ _ _) (@pg_sub _ _ _ _ _ _ _ (pv 0) (@pe_int _ _ _ _) set_list (by intro _; rfl)) (by rfl) (by rfl) (by rfl)))) (@pss_cons _ _ _ _ _ (@ps_asg _ _ _ _ _ _ (@pe_op _ _ _ _ _ _ _ _ op_add (@pe_op _ _ _ _ _ _ _ _ op_modN (@pe_op _ _ _ _ _ _ _ _ op_add (@pe_ix _ _ _ _ _ _ _ ix_list (pv 0) (@pe_int _ _ _ _) (fun _ _ => rfl)) (@pe_op _ _ _ _ _ _ _ _ op_modN (pv 1) (@pe_int _ _ _ _))) (@pe_int _ _ _ _)) (@pe_int _ _ _ _)) (@pg_sub _ _ _ _ _ _ _ (pv 0) (@pe_int _ _ _ _) set_list (by intro _; rfl)) (by rfl) (by rfl) (by rfl)) (@pss_cons _ _ _ _ _ (@ps_asg _ _ _ _ _ _ (@pe_op _ _ _ _ _ _ _ _ op_add (@pe_op _ _ _ _ _ _ _ _ op_modN (@pe_op _ _ _ _ _ _ _ _ op_add (@pe_op _ _ _ _ _ _ _ _ op_mulB (@pe_ix _ _ _ _ _ _ _ ix_list (pv 0) (@pe_int _ _ _ _) (fun _ _ => rfl)) (@pe_int _ _ _ _)) (@pe_op _ _ _ _ _ _ _ _ op_modN (pv 1) (@pe_int _ _ _ _))) (@pe_int _ _ _ _)) (@pe_int _ _ _ _)) (@pg_sub _ _ _ _ _ _ _ (pv 0) (@pe_int _ _ _ _) set_list (by intro _; rfl)) (by rfl) (by rfl) (by rfl)) (@pss_cons _ _ _ _ _ (@ps_expr _ _ _ _ (@pe_fn _ _ _ _ _ _ _ _ _ _ _ _ _ _ T.l_next (ok_l_next T) hr (by decide) (@pa_cons _ _ _ _ _ (pv 0) (@pa_nil _) star_name) (by rfl) (by decide) (by rfl) (by rfl)) (by rfl)) (@pss_one _ _ _ (@ps_expr _ _ _ _ (@pe_fn _ _ _ _ _ _ _ _ _ _ _ _ _ _ T.l_next (ok_l_next T) hr (by decide) (@pa_cons _ _ _ _ _ (pv 0) (@pa_nil _) star_name) (by rfl) (by decide) (by rfl) (by rfl)) (by rfl)))))))))), ?_⟩
    refine st_set pu_c ?_
    refine st_ifSet (R := fun v H' => H = H' ∧ ∃ cell : Int, v = .int cell) (v0 := .int 0) (pt_t (pu_lt (pu_ixL (pu_v rfl) pu_c (SqL.of h1) rfl) (pu_lenL (pa_c (pu_ixL (pu_v rfl) pu_c (SqL.of h1) rfl) pa_n) (SqL.of h2)))) (fun e => ?_) rfl (fun _ => ⟨rfl, 0, rfl⟩) ?_
    · have e' : i < ((ns.map V.int).length : Int) := by simpa using e
      rw [List.length_map] at e'
      obtain ⟨m, hm⟩ : ∃ m, ns[i.toNat]? = some m := ⟨_, List.getElem?_eq_getElem (by omega)⟩
      have hat : atI (ns.map V.int) i = some (.int m) := by
        have := atI_nat (xs := ns.map V.int) (j := i.toNat) (v := .int m) (by rw [List.getElem?_map, hm]; rfl)
        rwa [show ((i.toNat : Nat) : Int) = i by omega] at this
      exact (pu_abs (pa_c (pu_ixL (pu_ixL (pu_v rfl) pu_c (SqL.of h1) rfl) (pu_ixL (pu_v rfl) pu_c (SqL.of h1) rfl) (SqL.of h2) hat) pa_n)).gv' ⟨rfl, _, rfl⟩
    rintro v H' ⟨rfl, cell, rfl⟩
    refine st_augI (pu_v rfl) pu_c (by decide) h1 rfl pu_c rfl ?_
    refine st_if (pt_t (pu_ge (pu_v rfl) (pu_pow pu_c pu_c ⟨by decide, by decide, by decide⟩))) (fun _ => st_put1 (pu_v rfl) (pu_v rfl) pu_c upd_same rfl ?_) (fun _ => st_put1 pu_c (pu_v rfl) pu_c upd_same rfl ?_)
    all_goals
      refine st_put (pu_add (pu_mod (pu_add (pu_ixL (pu_v rfl) pu_c (SqL.of upd_same) rfl) (pu_mod (pu_v rfl) pu_c (by decide))) pu_c (by decide)) pu_c) (pu_v rfl) pu_c upd_same rfl ?_
      refine st_put (pu_add (pu_mod (pu_add (pu_mul (pu_ixL (pu_v rfl) pu_c (SqL.of upd_same) rfl) pu_c (IntMulOk.of_right (by decide))) (pu_mod (pu_v rfl) pu_c (by decide))) pu_c (by decide)) pu_c) (pu_v rfl) pu_c upd_same rfl ?_
      refine st_exprG (R := fun _ H' => HandAt H' hd sc ∧ SameB hd H H') (gv_call (pa_c (pu_v rfl) pa_n) fun Q f => ⟨hd, sc, rfl, ⟨ns, _, _, _, _, _, upd_same, by rw [upd_ne nsc, upd_ne nsc, upd_ne nsc, upd_ne nsc]; exact h2, (by omega : 0 ≤ i + 1)⟩, fun n H' a s => f _ _ ⟨a, ((SameB.upd.trans SameB.upd).trans (SameB.upd.trans SameB.upd)).trans s⟩⟩) ?_
      rintro _ H1 ⟨a1, s1⟩
      refine st_exprG1 (R := fun _ H' => HandAt H' hd sc ∧ SameB hd H H') (gv_call (pa_c (pu_v rfl) pa_n) fun Q f => ⟨hd, sc, rfl, a1, fun n H' a s => f _ _ ⟨a, s1.trans s⟩⟩) ?_
      rintro _ H2 ⟨a2, s2⟩
      exact k _ a2 s2
def sp_l_draw : Sp := fun vs H Q _ => ∃ hd sc m, vs = [.ref hd, .int m] ∧ HandAt H hd sc ∧ 0 < m ∧ Bd 9000 m ∧ ∀ (n : Int) H', 0 ≤ n → n < m → HandAt H' hd sc → SameB hd H H' → Q (.int n) H'
/-- draw(hand, m), m known -/
theorem gv_draw {σ : L2.St} {H : Hp} {hd sc : Addr} {t : TA} {m : Int} (hh : HandAt H hd sc) (ha : PuA t σ H [.ref hd, .int m]) (h0 : 0 < m) (hb : Bd 9000 m) : Gv (tCall sp_l_draw [] E0 t) σ H (fun v H' => (∃ n : Int, v = .int n ∧ 0 ≤ n ∧ n < m) ∧ HandAt H' hd sc ∧ SameB hd H H') :=
  gv_call ha fun Q f => ⟨hd, sc, m, rfl, hh, h0, hb, fun n H' z0 z1 a s => f _ _ ⟨⟨n, rfl, z0, z1⟩, a, s⟩⟩
theorem pick_of {xs : List V} {ys : List Int} {m : Int} (e : xs = ys.map V.int) (h : ∀ y ∈ ys, 0 < y ∧ y ≤ m) {n : Int} (h0 : 0 ≤ n) (h1 : n < ys.length) : ∃ y : Int, atI xs n = some (.int y) ∧ 0 < y ∧ y ≤ m := by
  subst e
  have hl : n.toNat < ys.length := by omega
  refine ⟨ys[n.toNat], ?_, h _ (List.getElem_mem hl)⟩
  have := atI_nat (xs := ys.map V.int) (j := n.toNat) (v := .int ys[n.toNat]) (by simp [hl])
  rwa [show ((n.toNat : Nat) : Int) = n by omega] at this
/-- [..][draw(hand, so many)] -/
theorem gv_pick {K : PySem.W.Frag} {σ : L2.St} {H : Hp} {hd sc : Addr} {t ta : TA} {ys : List Int} {m : Int} (hh : HandAt H hd sc) (hl : PuA ta σ H (ys.map V.int)) (hz : ys.length ≤ 1000) (h0 : 0 < ys.length) (hy : ∀ y ∈ ys, 0 < y ∧ y ≤ m)
    (ha : ∀ H', PuA t σ H' [.ref hd, .int (ys.length : Nat)]) : Gv (tOp (rIxL K) (tLst ta) (tCall sp_l_draw [] E0 t)) σ H (fun v H' => (∃ n : Int, v = .int n ∧ 0 < n ∧ n ≤ m) ∧ HandAt H' hd sc ∧ SameB hd H H') := by
  intro Q f
  refine gv_lst hl (by rw [List.length_map]; exact Nat.le_of_lt (small1000 hz)) _ ?_
  rintro _ _ ⟨p, hp, rfl, rfl⟩
  have s0 := Same.upd (o := .lst (ys.map V.int)) hp
  refine gv_draw (hh.same s0) (ha _) (by omega) (Bd.small (by omega)) _ ?_
  rintro _ H1 ⟨⟨n, rfl, z0, z1⟩, hh1, s1⟩
  obtain ⟨y, ey, y0, y1⟩ := pick_of (xs := ys.map V.int) rfl hy z0 z1
  obtain ⟨zs, hzs⟩ := hh.ls
  exact ⟨p, _, n, .int y, rfl, rfl, SqL.of (s1 _ _ upd_same (Ne.symm (ne_of_none hzs hp))), ey, f _ _ ⟨⟨y, rfl, y0, y1⟩, hh1, s0.b.trans s1⟩⟩
theorem sc_l_draw : FnScope ["_law_hand_here", "_law_many", "_law_got", "_law_value", "_law_size"] ["_law_hand_here", "_law_many"] (defScope s_l_draw) := ⟨rfl, rfl, rfl, by decide +kernel, rfl, by decide +kernel, by decide +kernel⟩
theorem ok_l_draw (T : Txt K mg t) : FnOk P w K mg base CX0 3 t.f_l_draw t.d_l_draw ["_law_hand_here", "_law_many"] sp_l_draw := by
  refine T.l_draw.F.ok (k := 2) sc_l_draw (fun vs H Q E h => ?_) (fun cdv A outer s H vs Q E hr h => ?_)
  · obtain ⟨hd, sc, m, rfl, _⟩ := h
    rfl
  · obtain ⟨hd, sc, m, rfl, hh, hm, hB, k⟩ := h
    refine ⟨_, (@pss_cons _ _ _ _ _ (@ps_if _ _ _ _ _ _ _ _ (PW.pt (@pw_and _ _ _ _ _ _ _ (@pt_cmpR _ _ _ _ _ _ _ _ op_eq (@pe_ix _ _ _ _ _ _ _ ix_list (pv 0) (@pe_int _ _ _ _) (fun _ _ => rfl)) (@pe_int _ _ _ _) (nomark _)) (@pw_and1 _ _ _ _ (@pt_cmpR _ _ _ _ _ _ _ _ op_eq (@pe_ix _ _ _ _ _ _ _ ix_list (pv 0) (@pe_int _ _ _ _) (fun _ _ => rfl)) (@pe_int _ _ _ _) (nomark _))))) (@pss_one _ _ _ (@ps_expr _ _ _ _ (@pe_fn _ _ _ _ _ _ _ _ _ _ _ _ _ _ T.l_take (ok_l_take T) hr (by decide) (@pa_cons _ _ _ _ _ (pv 0) (@pa_nil _) star_name) (by rfl) (by decide) (by rfl) (by rfl)) (by rfl))) (@pss_nil _)) (@pss_cons _ _ _ _ _ (@ps_if _ _ _ _ _ _ _ _ (@pt_cmpR _ _ _ _ _ _ _ _ op_gt (@pe_ix _ _ _ _ _ _ _ ix_list (pv 0) (@pe_int _ _ _ _) (fun _ _ => rfl)) (@pe_int _ _ _ _) (nomark _)) (@pss_cons _ _ _ _ _ (@ps_set _ _ 2 _ _ _ _ sc_l_draw.nd rfl (Or.inl rfl) (@pe_op _ _ _ _ _ _ _ _ op_modN (@pe_ix _ _ _ _ _ _ _ ix_list (pv 0) (@pe_int _ _ _ _) (fun _ _ => rfl)) (pv 1)) (by rfl) (by first | exact .inl rfl | exact .inr rfl | assumption)) (@pss_cons _ _ _ _ _ (@ps_asg _ _ _ _ _ _ (@pe_op _ _ _ _ _ _ _ _ op_fdivB (@pe_ix _ _ _ _ _ _ _ ix_list (pv 0) (@pe_int _ _ _ _) (fun _ _ => rfl)) (pv 1)) (@pg_sub _ _ _ _ _ _ _ (pv 0) (@pe_int _ _ _ _) set_list (by intro _; rfl)) (by rfl) (by rfl) (by rfl)) (@pss_one _ _ _ (@ps_ret _ _ _ _ (pv 2))))) (@pss_nil _)) (@pss_cons _ _ _ _ _ (@ps_augS _ _ _ _ _ _ _ _ _ _ _ _ _ (pv 0) (@pe_int _ _ _ _) get_list (@pe_int _ _ _ _) ip_sub set_list (by intros; rfl)) (@pss_cons _ _ _ _ _ (@ps_set _ _ 3 _ _ _ _ sc_l_draw.nd rfl (Or.inl rfl) (@pe_fn _ _ _ _ _ _ _ _ _ _ _ _ _ _ T.l_next (ok_l_next T) hr (by decide) (@pa_cons _ _ _ _ _ (pv 0) (@pa_nil _) star_name) (by rfl) (by decide) (by rfl) (by rfl)) (by rfl) (by first | exact .inl rfl | exact .inr rfl | assumption)) (@pss_cons _ _ _ _ _ (@ps_set _ _ 4 _ _ _ _ sc_l_draw.nd rfl (Or.inl rfl) (@pe_int _ _ _ _) (by rfl) (by first | exact .inl rfl | exact .inr rfl | assumption)) (@pss_cons _ _ _ _ _ (@ps_while _ _ _ _ _ _ PassesOwn.never (@pt_cmpR _ _ _ _ _ _ _ _ op_lt (pv 4) (pv 1) (nomark _)) (@pss_cons _ _ _ _ _ (@ps_set _ _ 3 _ _ _ _ sc_l_draw.nd rfl (Or.inl rfl) (@pe_op _ _ _ _ _ _ _ _ op_add (@pe_op _ _ _ _ _ _ _ _ op_mulB (pv 3) (@pe_int _ _ _ _)) (@pe_fn _ _ _ _ _ _ _ _ _ _ _ _ _ _ T.l_next (ok_l_next T) hr (by decide) (@pa_cons _ _ _ _ _ (pv 0) (@pa_nil _) star_name) (by rfl) (by decide) (by rfl) (by rfl))) (by rfl) (by first | exact .inl rfl | exact .inr rfl | assumption)) (@pss_one _ _ _ (@ps_set _ _ 4 _ _ _ _ sc_l_draw.nd rfl (Or.inl rfl) (@pe_op _ _ _ _ _ _ _ _ op_mulB (pv 4) (@pe_int _ _ _ _)) (by rfl) (by first | exact .inl rfl | exact .inr rfl | assumption))))) (@pss_one _ _ _ (@ps_ret _ _ _ _ (@pe_op _ _ _ _ _ _ _ _ op_modN (pv 3) (pv 1)))))))))), ?_⟩
    refine (show ∀ (H1 : Hp) (rest : TS) (D : Ends) (σ : L2.St) (tc : TT) (te : TE), (∃ b, PuT tc σ H b ∧ (b = true → Gv te σ H (fun _ H' => HandAt H' hd sc ∧ SameB hd H H'))) → (∀ H', HandAt H' hd sc → SameB hd H H' → rest D σ H') → tSeq (tIfS tc (tDrop te) tNext) rest D σ H from fun H1 rest D σ tc te ⟨b, hc, he⟩ q => st_if hc (fun e => st_exprG1 (he e) fun v H' r => q H' r.1 r.2) fun _ => q H hh (SameB.refl _ _)) H _ _ _ _ _ ?_ ?_
    · obtain ⟨ns, i, b, c, p, q, h1, h2, h0⟩ := id hh
      exact ⟨_, pt_and (pt_t (pu_eqI (pu_ixL (pu_v rfl) pu_c (SqL.of h1) rfl) pu_c)) fun _ => pt_t (pu_eqI (pu_ixL (pu_v rfl) pu_c (SqL.of h1) rfl) pu_c), fun _ => gv_call (pa_c (pu_v rfl) pa_n) fun Q f => ⟨hd, sc, rfl, hh, fun H' a s => f _ _ ⟨a, s⟩⟩⟩
    intro H1 hh1 s1
    obtain ⟨ns, i, b, c, p, q, h1, h2, h0⟩ := id hh1
    have nsc := HandAt.ne h1 h2
    refine st_if (pt_t (pu_gt (pu_ixL (pu_v rfl) pu_c (SqL.of h1) rfl) pu_c)) (fun _ => ?_) fun _ => ?_
    · refine st_set (pu_mod (pu_ixL (pu_v rfl) pu_c (SqL.of h1) rfl) (pu_v rfl) (by omega)) ?_
      refine st_put (pu_fdiv (pu_ixL (pu_v rfl) pu_c (SqL.of h1) rfl) (pu_v rfl) ⟨by omega, hB⟩) (pu_v rfl) pu_c h1 rfl ?_
      refine st_ret (pu_v rfl) ?_
      have hl := fmod_lt (x := b) hm
      exact k _ _ hl.1 hl.2 ⟨ns, i, _, c, p, q, upd_same, by rw [upd_ne nsc]; exact h2, h0⟩ (s1.trans SameB.upd)
    · refine st_augI (pu_v rfl) pu_c (by decide) h1 rfl pu_c rfl ?_
      have hh2 : HandAt (upd H1 hd (.lst [.ref sc, .int i, .int b, .int (c - 1), .int p, .int q])) hd sc := ⟨ns, i, b, c - 1, p, q, upd_same, by rw [upd_ne nsc]; exact h2, h0⟩
      refine st_setG (R := fun v H' => (∃ n : Int, v = .int n) ∧ HandAt H' hd sc ∧ SameB hd H H') (gv_call (pa_c (pu_v rfl) pa_n) fun Q f => ⟨hd, sc, rfl, hh2, fun n H' a s => f _ _ ⟨⟨n, rfl⟩, a, s1.trans (SameB.upd.trans s)⟩⟩) ?_
      rintro _ H3 ⟨⟨n, rfl⟩, hh3, s3⟩
      refine st_set pu_c ?_
      refine st_while (fun σ H' => HandAt H' hd sc ∧ SameB hd H H' ∧ ∃ (x y : Int) (r : Option V), σ = [some (.ref hd), some (.int m), r, some (.int x), some (.int y)] ∧ 0 < y) (fun σ _ => match σ with | [_, _, _, _, some (.int y)] => (m - y).toNat | _ => 0)
        ⟨hh3, s3, n, 4294967296, _, rfl, by decide⟩ ?_
      rintro σ H4 ⟨hh4, s4, x, y, r, rfl, hy⟩
      refine ⟨_, pt_t (pu_lt (pu_v rfl) (pu_v rfl)), fun e => ?_, fun e => ?_⟩
      · have e' : y < m := by simpa using e
        refine st_setG (R := fun v H' => (∃ n : Int, v = .int n) ∧ HandAt H' hd sc ∧ SameB hd H H') (fun Q f => pu_mul (pu_v rfl) pu_c (IntMulOk.of_right (by decide)) _ ?_) ?_
        · exact gv_call (sp := sp_l_next) (E := E0) (R := fun v H' => (∃ n : Int, v = .int n) ∧ HandAt H' hd sc ∧ SameB hd H H') (pa_c (pu_v rfl) pa_n) (fun Q f => ⟨hd, sc, rfl, hh4, fun n H' a s => f _ _ ⟨⟨n, rfl⟩, a, s4.trans s⟩⟩) _ fun v H' ⟨⟨n, e⟩, a, s⟩ => by
            subst e
            exact ⟨_, n, rfl, rfl, f _ _ ⟨⟨_, rfl⟩, a, s⟩⟩
        rintro _ H5 ⟨⟨z, rfl⟩, hh5, s5⟩
        refine st_set1 (pu_mul (pu_v rfl) pu_c (IntMulOk.of_right (by decide))) ?_
        exact ⟨⟨hh5, s5, z, y * 4294967296, r, rfl, by omega⟩, by show (m - y * 4294967296).toNat < (m - y).toNat; omega⟩
      · refine st_ret (pu_mod (pu_v rfl) (pu_v rfl) (by omega)) ?_
        have hl := fmod_lt (x := x) hm
        exact k _ _ hl.1 hl.2 hh4 s4
def sp_l_divisor : Sp := fun vs H Q _ => ∃ a b : Int, vs = [.int a, .int b] ∧ Q (.int (Int.gcd a b)) H
theorem sc_l_divisor : FnScope ["_law_one", "_law_other"] ["_law_one", "_law_other"] (defScope s_l_divisor) := ⟨rfl, rfl, rfl, by decide +kernel, rfl, by decide +kernel, by decide +kernel⟩
theorem ok_l_divisor (T : Txt K mg t) : FnOk P w K mg base CX0 1 t.f_l_divisor t.d_l_divisor ["_law_one", "_law_other"] sp_l_divisor := by
  refine T.l_divisor.F.ok (k := 0) sc_l_divisor (fun vs H Q E h => ?_) (fun cdv A outer s H vs Q E hr h => ?_)
  · obtain ⟨a, b, rfl, _⟩ := h
    rfl
  · obtain ⟨a, b, rfl, k⟩ := h
    refine ⟨_, (@pss_cons _ _ _ _ _ (@ps_set _ _ 0 _ _ _ _ sc_l_divisor.nd rfl (Or.inl rfl) (@pe_callB _ _ _ _ _ _ _ _ _ call_abs (by rfl) T.b_abs PyProof.Rows.boot_abs (@pa_cons _ _ _ _ _ (pv 0) (@pa_nil _) star_name) (by decide) (by decide) (by rfl) (by rfl)) (by rfl) (by first | exact .inl rfl | exact .inr rfl | assumption)) (@pss_cons _ _ _ _ _ (@ps_set _ _ 1 _ _ _ _ sc_l_divisor.nd rfl (Or.inl rfl) (@pe_callB _ _ _ _ _ _ _ _ _ call_abs (by rfl) T.b_abs PyProof.Rows.boot_abs (@pa_cons _ _ _ _ _ (pv 1) (@pa_nil _) star_name) (by decide) (by decide) (by rfl) (by rfl)) (by rfl) (by first | exact .inl rfl | exact .inr rfl | assumption)) (@pss_cons _ _ _ _ _ (@ps_while _ _ _ _ _ _ PassesOwn.never (@pt_cmpR _ _ _ _ _ _ _ _ op_gt (pv 1) (@pe_int _ _ _ _) (nomark _)) (@pss_one _ _ _ (@ps_par _ _ 0 1 _ _ _ _ _ _ _ _ _ _ _ rfl sc_l_divisor.nd rfl rfl (by decide) rfl rfl (@pa_cons _ _ _ _ _ (pv 1) (@pa_cons _ _ _ _ _ (@pe_op _ _ _ _ _ _ _ _ op_modN (pv 0) (pv 1)) (@pa_nil _) star_bin) star_name) (by rfl) (by rfl)))) (@pss_one _ _ _ (@ps_ret _ _ _ _ (pv 0)))))), ?_⟩
    refine st_set (pu_abs (pa_c (pu_v rfl) pa_n)) ?_
    refine st_set (pu_abs (pa_c (pu_v rfl) pa_n)) ?_
    refine st_while (fun σ H' => H' = H ∧ ∃ (x y : Int), σ = [some (.int x), some (.int y)] ∧ 0 ≤ x ∧ 0 ≤ y ∧ Int.gcd x y = Int.gcd a b) (fun σ _ => match σ with | [_, some (.int y)] => y.toNat | _ => 0)
      ⟨rfl, a.natAbs, b.natAbs, rfl, by omega, by omega, rfl⟩ ?_
    rintro σ H' ⟨rfl, x, y, rfl, hx, hy, hg⟩
    refine ⟨_, pt_t (pu_gt (pu_v rfl) pu_c), fun e => ?_, fun e => ?_⟩
    · have e' : 0 < y := by simpa using e
      have hm := fmod_lt (x := x) e'
      refine pa_c (pu_v rfl) (pa_c (pu_mod (pu_v rfl) (pu_v rfl) (by omega)) pa_n) _ ?_
      exact ⟨_, _, rfl, ⟨rfl, y, x.fmod y, rfl, hy, hm.1, by rw [gcd_step hx hy]; exact hg⟩, by show (x.fmod y).toNat < y.toNat; omega⟩
    · have e' : ¬ 0 < y := by simpa using e
      have e'' : y = 0 := by omega
      subst e''
      refine st_ret (pu_v rfl) ?_
      rw [← hg, gcd_zero x hx] at k
      exact k
def sp_l_point : Sp := fun vs H Q _ => ∃ a b c : Int, vs = [.int a, .int b, .int c] ∧ 0 < c ∧ Bd 9000 c ∧ ∀ v H' r, Same H H' → AtP H' v r → Is3 a b c r → Q v H'
theorem gv_point {σ : L2.St} {H : Hp} {t : TA} {a b c : Int} (ha : PuA t σ H [.int a, .int b, .int c]) (hc : 0 < c) (hb : Bd 9000 c) : Gv (tCall sp_l_point [] E0 t) σ H (fun v H' => Same H H' ∧ ∃ r, AtP H' v r ∧ Is3 a b c r) :=
  gv_call ha fun Q f => ⟨a, b, c, rfl, hc, hb, fun v H' r s t i => f _ _ ⟨s, r, t, i⟩⟩
theorem sc_l_point : FnScope ["_law_a", "_law_b", "_law_c", "_law_d"] ["_law_a", "_law_b", "_law_c"] (defScope s_l_point) := ⟨rfl, rfl, rfl, by decide +kernel, rfl, by decide +kernel, by decide +kernel⟩
theorem ok_l_point (T : Txt K mg t) : FnOk P w K mg base CX0 2 t.f_l_point t.d_l_point ["_law_a", "_law_b", "_law_c"] sp_l_point := by
  refine T.l_point.F.ok (k := 1) sc_l_point (fun vs H Q E h => ?_) (fun cdv A outer s H vs Q E hr h => ?_)
  · obtain ⟨a, b, c, rfl, _⟩ := h
    rfl
  · obtain ⟨a, b, c, rfl, hc, hB, k⟩ := h
    refine ⟨_, (@pss_cons _ _ _ _ _ (@ps_set _ _ 3 _ _ _ _ sc_l_point.nd rfl (Or.inl rfl) (@pe_fn _ _ _ _ _ _ _ _ _ _ _ _ _ _ T.l_divisor (ok_l_divisor T) hr (by decide) (@pa_cons _ _ _ _ _ (@pe_fn _ _ _ _ _ _ _ _ _ _ _ _ _ _ T.l_divisor (ok_l_divisor T) hr (by decide) (@pa_cons _ _ _ _ _ (pv 2) (@pa_cons _ _ _ _ _ (pv 0) (@pa_nil _) star_name) star_name) (by rfl) (by decide) (by rfl) (by rfl)) (@pa_cons _ _ _ _ _ (pv 1) (@pa_nil _) star_name) star_call) (by rfl) (by decide) (by rfl) (by rfl)) (by rfl) (by first | exact .inl rfl | exact .inr rfl | assumption)) (@pss_one _ _ _ (@ps_ret _ _ _ _ (@pe_tup _ _ _ _ _ (@pa_cons _ _ _ _ _ (@pe_op _ _ _ _ _ _ _ _ op_fdivB (pv 0) (pv 3)) (@pa_cons _ _ _ _ _ (@pe_op _ _ _ _ _ _ _ _ op_fdivB (pv 1) (pv 3)) (@pa_cons _ _ _ _ _ (@pe_op _ _ _ _ _ _ _ _ op_fdivB (pv 2) (pv 3)) (@pa_nil _) star_bin) star_bin) star_bin))))), ?_⟩
    obtain ⟨hi, hd⟩ := pt_has (a := a) (b := b) hc
    have hdB : Bd 9000 (Int.gcd (Int.gcd c a) b : Int) := by
      refine hB.le ?_
      have : (Int.gcd (Int.gcd c a) b : Nat) ≤ c.natAbs := by
        refine Nat.le_of_dvd (by omega) ?_
        refine Nat.dvd_trans (Int.gcd_dvd_natAbs_left _ _) ?_
        rw [Int.natAbs_natCast]
        exact Int.gcd_dvd_natAbs_left c a
      exact this
    refine st_set (pu_call (pa_c (pu_call (pa_c (pu_v rfl) (pa_c (pu_v rfl) pa_n)) (fun Q q => ⟨c, a, rfl, q⟩)) (pa_c (pu_v rfl) pa_n)) (fun Q q => ⟨_, b, rfl, q⟩)) ?_
    refine st_retG (gv_tup (pa_c (pu_fdiv (pu_v rfl) (pu_v rfl) ⟨by omega, hdB⟩) (pa_c (pu_fdiv (pu_v rfl) (pu_v rfl) ⟨by omega, hdB⟩) (pa_c (pu_fdiv (pu_v rfl) (pu_v rfl) ⟨by omega, hdB⟩) pa_n))) (by show 3 ≤ sizeLine; decide)) ?_
    rintro _ _ ⟨p, hp, rfl, rfl⟩
    exact k _ _ _ (Same.upd hp) (TupT.of upd_same) hi
def sp_l_whole : Sp := fun vs H Q _ => ∃ n : Int, vs = [.int n] ∧ Q (.bl true) H
theorem sc_l_whole : FnScope ["_law_thing"] ["_law_thing"] (defScope s_l_whole) := ⟨rfl, rfl, rfl, by decide +kernel, rfl, by decide +kernel, by decide +kernel⟩
theorem ok_l_whole (T : Txt K mg t) : FnOk P w K mg base CX0 1 t.f_l_whole t.d_l_whole ["_law_thing"] sp_l_whole := by
  refine T.l_whole.F.ok (k := 0) sc_l_whole (fun vs H Q E h => ?_) (fun cdv A outer s H vs Q E hr h => ?_)
  · obtain ⟨n, rfl, _⟩ := h
    rfl
  · obtain ⟨n, rfl, k⟩ := h
    refine ⟨_, (@pss_one _ _ _ (@ps_ret _ _ _ _ (@pe_and _ _ _ _ _ _ _ (@pe_callB _ _ _ _ _ _ _ _ _ call_isinst (by rfl) T.b_isinstance PyProof.Rows.boot_isinstance (@pa_cons _ _ _ _ _ (pv 0) (@pa_cons _ _ _ _ _ (@pe_ty _ _ _ _ T.b_int PyProof.Rows.boot_int (by rfl) (by decide) (by decide)) (@pa_nil _) star_name) star_name) (by decide) (by decide) (by rfl) (by rfl)) (@pe_one _ _ _ _ _ (@pe_not _ _ _ _ (@pe_callB _ _ _ _ _ _ _ _ _ call_isinst (by rfl) T.b_isinstance PyProof.Rows.boot_isinstance (@pa_cons _ _ _ _ _ (pv 0) (@pa_cons _ _ _ _ _ (@pe_ty _ _ _ _ T.b_bool PyProof.Rows.boot_bool (by rfl) (by decide) (by decide)) (@pa_nil _) star_name) star_name) (by decide) (by decide) (by rfl) (by rfl))))))), ?_⟩
    exact st_ret (pu_and (pu_isi (pa_c (pu_v rfl) (pa_c pu_c pa_n)) (.int n) kit_same) fun _ => pu_not (pu_isi (pa_c (pu_v rfl) (pa_c pu_c pa_n)) (.int n) kit_int_bool)) k
def sp_l_number : Sp := fun vs H Q _ => ∃ hd sc, vs = [.ref hd] ∧ HandAt H hd sc ∧ ∀ (n : Int) H', n.natAbs < 10 ^ 60 → HandAt H' hd sc → SameB hd H H' → Q (.int n) H'
theorem gv_number {σ : L2.St} {H : Hp} {hd sc : Addr} {t : TA} (hh : HandAt H hd sc) (ha : PuA t σ H [.ref hd]) : Gv (tCall sp_l_number [] E0 t) σ H (fun v H' => (∃ n : Int, v = .int n ∧ n.natAbs < 10 ^ 60) ∧ HandAt H' hd sc ∧ SameB hd H H') :=
  gv_call ha fun Q f => ⟨hd, sc, rfl, hh, fun n H' hb a s => f _ _ ⟨⟨n, rfl, hb⟩, a, s⟩⟩
theorem sc_l_number : FnScope ["_law_hand_here", "_law_way", "_law_number_here"] ["_law_hand_here"] (defScope s_l_number) := ⟨rfl, rfl, rfl, by decide +kernel, rfl, by decide +kernel, by decide +kernel⟩
theorem ok_l_number (T : Txt K mg t) : FnOk P w K mg base CX0 4 t.f_l_number t.d_l_number ["_law_hand_here"] sp_l_number := by
  refine T.l_number.F.ok (k := 3) sc_l_number (fun vs H Q E h => ?_) (fun cdv A outer s H vs Q E hr h => ?_)
  · obtain ⟨hd, sc, rfl, _⟩ := h
    rfl
  · obtain ⟨hd, sc, rfl, hh, k⟩ := h
    refine ⟨_, (@pss_cons _ _ _ _ _ (@ps_set _ _ 1 _ _ _ _ sc_l_number.nd rfl (Or.inl rfl) (@pe_fn _ _ _ _ _ _ _ _ _ _ _ _ _ _ T.l_draw (ok_l_draw T) hr (by decide) (@pa_cons _ _ _ _ _ (pv 0) (@pa_cons _ _ _ _ _ (@pe_int _ _ _ _) (@pa_nil _) star_con) star_name) (by rfl) (by decide) (by rfl) (by rfl)) (by rfl) (by first | exact .inl rfl | exact .inr rfl | assumption)) (@pss_cons _ _ _ _ _ (@ps_set _ _ 2 _ _ _ _ sc_l_number.nd rfl (Or.inl rfl) (@pe_fn _ _ _ _ _ _ _ _ _ _ _ _ _ _ T.l_draw (ok_l_draw T) hr (by decide) (@pa_cons _ _ _ _ _ (pv 0) (@pa_cons _ _ _ _ _ (@pe_int _ _ _ _) (@pa_nil _) star_con) star_name) (by rfl) (by decide) (by rfl) (by rfl)) (by rfl) (by first | exact .inl rfl | exact .inr rfl | assumption)) (@pss_cons _ _ _ _ _ (@ps_if _ _ _ _ _ _ _ _ (@pt_cmpR _ _ _ _ _ _ _ _ op_eq (pv 1) (@pe_int _ _ _ _) (nomark _)) (@pss_one _ _ _ (@ps_set _ _ 2 _ _ _ _ sc_l_number.nd rfl (Or.inl rfl) (@pe_fn _ _ _ _ _ _ _ _ _ _ _ _ _ _ T.l_draw (ok_l_draw T) hr (by decide) (@pa_cons _ _ _ _ _ (pv 0) (@pa_cons _ _ _ _ _ (@pe_op _ _ _ _ _ _ _ _ op_pow (@pe_int _ _ _ _) (@pe_int _ _ _ _)) (@pa_nil _) star_bin) star_name) (by rfl) (by decide) (by rfl) (by rfl)) (by rfl) (by first | exact .inl rfl | exact .inr rfl | assumption))) (@pss_nil _)) (@pss_cons _ _ _ _ _ (@ps_if _ _ _ _ _ _ _ _ (@pt_cmpR _ _ _ _ _ _ _ _ op_eq (pv 1) (@pe_int _ _ _ _) (nomark _)) (@pss_one _ _ _ (@ps_set _ _ 2 _ _ _ _ sc_l_number.nd rfl (Or.inl rfl) (@pe_op _ _ _ _ _ _ _ _ op_sub (@pe_op _ _ _ _ _ _ _ _ op_sub (@pe_op _ _ _ _ _ _ _ _ op_pow (@pe_int _ _ _ _) (@pe_int _ _ _ _)) (@pe_int _ _ _ _)) (pv 2)) (by rfl) (by first | exact .inl rfl | exact .inr rfl | assumption))) (@pss_nil _)) (@pss_cons _ _ _ _ _ (@ps_if _ _ _ _ _ _ _ _ (@pt_cmpR _ _ _ _ _ _ _ _ op_eq (pv 1) (@pe_int _ _ _ _) (nomark _)) (@pss_one _ _ _ (@ps_set _ _ 2 _ _ _ _ sc_l_number.nd rfl (Or.inl rfl) (@pe_op _ _ _ _ _ _ _ _ op_fdivB (@pe_op _ _ _ _ _ _ _ _ op_sub (@pe_op _ _ _ _ _ _ _ _ op_pow (@pe_int _ _ _ _) (@pe_int _ _ _ _)) (@pe_int _ _ _ _)) (@pe_op _ _ _ _ _ _ _ _ op_add (@pe_int _ _ _ _) (@pe_fn _ _ _ _ _ _ _ _ _ _ _ _ _ _ T.l_draw (ok_l_draw T) hr (by decide) (@pa_cons _ _ _ _ _ (pv 0) (@pa_cons _ _ _ _ _ (@pe_op _ _ _ _ _ _ _ _ op_pow (@pe_int _ _ _ _) (@pe_int _ _ _ _)) (@pa_nil _) star_bin) star_name) (by rfl) (by decide) (by rfl) (by rfl)))) (by rfl) (by first | exact .inl rfl | exact .inr rfl | assumption))) (@pss_nil _)) (@pss_cons _ _ _ _ _ (@ps_if _ _ _ _ _ _ _ _ (@pt_cmpR _ _ _ _ _ _ _ _ op_eq (pv 1) (@pe_int _ _ _ _) (nomark _)) (@pss_one _ _ _ (@ps_set _ _ 2 _ _ _ _ sc_l_number.nd rfl (Or.inl rfl) (@pe_fn _ _ _ _ _ _ _ _ _ _ _ _ _ _ T.l_draw (ok_l_draw T) hr (by decide) (@pa_cons _ _ _ _ _ (pv 0) (@pa_cons _ _ _ _ _ (@pe_op _ _ _ _ _ _ _ _ op_pow (@pe_int _ _ _ _) (@pe_int _ _ _ _)) (@pa_nil _) star_bin) star_name) (by rfl) (by decide) (by rfl) (by rfl)) (by rfl) (by first | exact .inl rfl | exact .inr rfl | assumption))) (@pss_nil _)) (@pss_cons _ _ _ _ _ (@ps_if _ _ _ _ _ _ _ _ (@pt_cmpR _ _ _ _ _ _ _ _ op_eq (@pe_fn _ _ _ _ _ _ _ _ _ _ _ _ _ _ T.l_draw (ok_l_draw T) hr (by decide) (@pa_cons _ _ _ _ _ (pv 0) (@pa_cons _ _ _ _ _ (@pe_int _ _ _ _) (@pa_nil _) star_con) star_name) (by rfl) (by decide) (by rfl) (by rfl)) (@pe_int _ _ _ _) (nomark _)) (@pss_one _ _ _ (@ps_set _ _ 2 _ _ _ _ sc_l_number.nd rfl (Or.inl rfl) (@pe_un _ _ _ _ _ _ un_neg (pv 2)) (by rfl) (by first | exact .inl rfl | exact .inr rfl | assumption))) (@pss_nil _)) (@pss_one _ _ _ (@ps_ret _ _ _ _ (pv 2)))))))))), ?_⟩
    have P60 : ∀ {σ : L2.St} {H' : Hp}, Pu (tOp (rI CPow fun i j => .int (i ^ j.toNat)) (tC (.int 10)) (tC (.int 60))) σ H' (.int (10 ^ 60)) := pu_pow pu_c pu_c ⟨by decide, by decide, by decide⟩
    have P58 : ∀ {σ : L2.St} {H' : Hp}, Pu (tOp (rI CPow fun i j => .int (i ^ j.toNat)) (tC (.int 10)) (tC (.int 58))) σ H' (.int (10 ^ 58)) := pu_pow pu_c pu_c ⟨by decide, by decide, by decide⟩
    have P5 : ∀ {σ : L2.St} {H' : Hp}, Pu (tOp (rI CPow fun i j => .int (i ^ j.toNat)) (tC (.int 10)) (tC (.int 5))) σ H' (.int (10 ^ 5)) := pu_pow pu_c pu_c ⟨by decide, by decide, by decide⟩
    have B60 : Bd 9000 (10 ^ 60 : Int) := by unfold Bd; decide +kernel
    have B58 : Bd 9000 (10 ^ 58 : Int) := by unfold Bd; decide +kernel
    refine st_setG (gv_draw hh (pa_c (pu_v rfl) (pa_c pu_c pa_n)) (by decide) Bd.small) ?_
    rintro _ H1 ⟨⟨w, rfl, _, _⟩, hh1, s1⟩
    refine st_setG (gv_draw hh1 (pa_c (pu_v rfl) (pa_c pu_c pa_n)) (by decide) Bd.small) ?_
    rintro _ H2 ⟨⟨n, rfl, n0, n1⟩, hh2, s2⟩
    have s12 := s1.trans s2
    have n60 : n < 10 ^ 60 := by omega
    refine st_ifSet (R := fun v H' => ∃ n : Int, v = .int n ∧ 0 ≤ n ∧ n < 10 ^ 60 ∧ HandAt H' hd sc ∧ SameB hd H H') (v0 := .int n) (pt_t (pu_eqI (pu_v rfl) pu_c)) (fun _ => (gv_draw hh2 (pa_c (pu_v rfl) (pa_c P60 pa_n)) (by decide) B60).imp fun v H' ⟨⟨m, e, m0, m1⟩, a, s⟩ => ⟨m, e, m0, m1, a, s12.trans s⟩) rfl (fun _ => ⟨n, rfl, n0, n60, hh2, s12⟩) ?_
    rintro _ H3 ⟨n3, rfl, a0, a1, hh3, s3⟩
    refine st_ifSet (R := fun v H' => ∃ n : Int, v = .int n ∧ 0 ≤ n ∧ n < 10 ^ 60 ∧ HandAt H' hd sc ∧ SameB hd H H') (v0 := .int n3) (pt_t (pu_eqI (pu_v rfl) pu_c)) (fun _ => (pu_sub (pu_sub P60 pu_c) (pu_v rfl)).gv' ⟨_, rfl, by omega, by omega, hh3, s3⟩) rfl (fun _ => ⟨n3, rfl, a0, a1, hh3, s3⟩) ?_
    rintro _ H4 ⟨n4, rfl, c0, c1, hh4, s4⟩
    refine st_ifSet (R := fun v H' => ∃ n : Int, v = .int n ∧ 0 ≤ n ∧ n < 10 ^ 60 ∧ HandAt H' hd sc ∧ SameB hd H H') (v0 := .int n4) (pt_t (pu_eqI (pu_v rfl) pu_c)) (fun _ => fun Q q => ?_) rfl (fun _ => ⟨n4, rfl, c0, c1, hh4, s4⟩) ?_
    · refine (pu_sub P60 pu_c) _ (pu_c (v := .int 1) _ (gv_draw hh4 (pa_c (pu_v rfl) (pa_c P58 pa_n)) (by decide) B58 _ ?_))
      rintro _ H5 ⟨⟨m, rfl, m0, m1⟩, hh5, s5⟩
      have bm : Bd 9000 (1 + m) := by
        unfold Bd
        have : (10 : Int) ^ 58 < 2 ^ 200 := by decide +kernel
        have h2 : (2 : Nat) ^ 200 < 2 ^ 9000 := Nat.pow_lt_pow_right (by decide) (by decide)
        omega
      refine ⟨1, m, rfl, rfl, 10 ^ 60 - 1, 1 + m, rfl, rfl, ⟨by omega, bm⟩, q _ _ ⟨_, rfl, ?_, ?_, hh5, s4.trans s5⟩⟩
      · rw [Int.fdiv_eq_ediv_of_nonneg _ (by omega)]
        exact Int.ediv_nonneg (by decide) (by omega)
      · rw [Int.fdiv_eq_ediv_of_nonneg _ (by omega)]
        exact Int.lt_of_le_of_lt (Int.ediv_le_self _ (by decide)) (by decide)
    rintro _ H5 ⟨n5, rfl, d0, d1, hh5, s5⟩
    refine st_ifSet (R := fun v H' => ∃ n : Int, v = .int n ∧ 0 ≤ n ∧ n < 10 ^ 60 ∧ HandAt H' hd sc ∧ SameB hd H H') (v0 := .int n5) (pt_t (pu_eqI (pu_v rfl) pu_c)) (fun _ => (gv_draw hh5 (pa_c (pu_v rfl) (pa_c P5 pa_n)) (by decide) (Bd.small (by decide))).imp fun v H' ⟨⟨m, e, m0, m1⟩, a, s⟩ => ⟨m, e, m0, by omega, a, s5.trans s⟩) rfl (fun _ => ⟨n5, rfl, d0, d1, hh5, s5⟩) ?_
    rintro _ H6 ⟨n6, rfl, e0, e1, hh6, s6⟩
    refine st_ifRG (RB := fun _ H' => HandAt H' hd sc ∧ SameB hd H H') (fun σ' H' => HandAt H' hd sc ∧ SameB hd H H' ∧ ∃ m : Int, m.natAbs < 10 ^ 60 ∧ σ' = [some (.ref hd), some (.int w), some (.int m)]) (fun Q q => ?_) (fun H7 r D' q _ => ?_) (fun H7 r => ⟨r.1, r.2, n6, by omega, rfl⟩) ?_
    · refine gv_draw hh6 (pa_c (pu_v rfl) (pa_c pu_c pa_n)) (by decide) Bd.small _ ?_
      rintro _ H7 ⟨⟨m, rfl, _, _⟩, hh7, s7⟩
      exact ⟨rfl, _, rfl, q _ _ ⟨hh7, s6.trans s7⟩⟩
    · exact st_set1 (pu_neg (pu_v rfl)) (q _ _ ⟨r.1, r.2, -n6, by omega, rfl⟩)
    rintro _ H7 ⟨hh7, s7, m, hm, rfl⟩
    exact st_ret (pu_v rfl) (k m H7 hm hh7 s7)
/-- 1 + draw(hand, m) -/
theorem gv_draw1 {σ : L2.St} {H : Hp} {hd sc : Addr} {t : TA} {m : Int} (hh : HandAt H hd sc) (ha : PuA t σ H [.ref hd, .int m]) (h0 : 0 < m) (hb : Bd 9000 m) : Gv (tOp (rI0 fun i j => .int (i + j)) (tC (.int 1)) (tCall sp_l_draw [] E0 t)) σ H (fun v H' => (∃ n : Int, v = .int n ∧ 0 < n ∧ n ≤ m) ∧ HandAt H' hd sc ∧ SameB hd H H') := fun Q f => pu_c (v := .int 1) _ (gv_draw hh ha h0 hb _ fun v H' ⟨⟨n, e, n0, n1⟩, a, s⟩ => by
  subst e
  exact ⟨1, n, rfl, rfl, f _ _ ⟨⟨_, rfl, by omega, by omega⟩, a, s⟩⟩)
/-- c + draw(hand, m) -/
theorem gv_drawC {σ : L2.St} {H : Hp} {hd sc : Addr} {t : TA} {m : Int} (c : Int) (hh : HandAt H hd sc) (ha : PuA t σ H [.ref hd, .int m]) (h0 : 0 < m) (hb : Bd 9000 m) : Gv (tOp (rI0 fun i j => .int (i + j)) (tC (.int c)) (tCall sp_l_draw [] E0 t)) σ H (fun v H' => (∃ n : Int, v = .int n ∧ c ≤ n ∧ n < c + m) ∧ HandAt H' hd sc ∧ SameB hd H H') := fun Q f => pu_c (v := .int c) _ (gv_draw hh ha h0 hb _ fun v H' ⟨⟨n, e, n0, n1⟩, a, s⟩ => by
  subst e
  exact ⟨c, n, rfl, rfl, f _ _ ⟨⟨_, rfl, by omega, by omega⟩, a, s⟩⟩)
def sp_l_fraction : Sp := fun vs H Q _ => ∃ hd sc, vs = [.ref hd] ∧ HandAt H hd sc ∧ ∀ v (f : Int × Int) H', FrL f → FrS f → TupT H' v [f.1, f.2] → HandAt H' hd sc → SameB hd H H' → Q v H'
theorem bd_60 {n : Int} (h : n.natAbs < 10 ^ 60) : Bd 400 n := by
  unfold Bd
  exact Nat.lt_trans h (by decide +kernel)
theorem sc_l_fraction : FnScope ["_law_hand_here", "_law_top", "_law_bottom", "_law_by"] ["_law_hand_here"] (defScope s_l_fraction) := ⟨rfl, rfl, rfl, by decide +kernel, rfl, by decide +kernel, by decide +kernel⟩
theorem ok_l_fraction (T : Txt K mg t) : FnOk P w K mg base CX0 5 t.f_l_fraction t.d_l_fraction ["_law_hand_here"] sp_l_fraction := by
  refine T.l_fraction.F.ok (k := 4) sc_l_fraction (fun vs H Q E h => ?_) (fun cdv A outer s H vs Q E hr h => ?_)
  · obtain ⟨hd, sc, rfl, _⟩ := h
    rfl
  · obtain ⟨hd, sc, rfl, hh, k⟩ := h
    refine ⟨_, (@pss_cons _ _ _ _ _ (@ps_set _ _ 1 _ _ _ _ sc_l_fraction.nd rfl (Or.inl rfl) (@pe_fn _ _ _ _ _ _ _ _ _ _ _ _ _ _ T.l_number (ok_l_number T) hr (by decide) (@pa_cons _ _ _ _ _ (pv 0) (@pa_nil _) star_name) (by rfl) (by decide) (by rfl) (by rfl)) (by rfl) (by first | exact .inl rfl | exact .inr rfl | assumption)) (@pss_cons _ _ _ _ _ (@ps_set _ _ 2 _ _ _ _ sc_l_fraction.nd rfl (Or.inl rfl) (@pe_int _ _ _ _) (by rfl) (by first | exact .inl rfl | exact .inr rfl | assumption)) (@pss_cons _ _ _ _ _ (@ps_if _ _ _ _ _ _ _ _ (@pt_cmpR _ _ _ _ _ _ _ _ op_gt (@pe_fn _ _ _ _ _ _ _ _ _ _ _ _ _ _ T.l_draw (ok_l_draw T) hr (by decide) (@pa_cons _ _ _ _ _ (pv 0) (@pa_cons _ _ _ _ _ (@pe_int _ _ _ _) (@pa_nil _) star_con) star_name) (by rfl) (by decide) (by rfl) (by rfl)) (@pe_int _ _ _ _) (nomark _)) (@pss_one _ _ _ (@ps_set _ _ 2 _ _ _ _ sc_l_fraction.nd rfl (Or.inl rfl) (@pe_callB _ _ _ _ _ _ _ _ _ (call_max2 rfl) (by rfl) T.b_max PyProof.Rows.boot_max (@pa_cons _ _ _ _ _ (@pe_int _ _ _ _) (@pa_cons _ _ _ _ _ (@pe_callB _ _ _ _ _ _ _ _ _ call_abs (by rfl) T.b_abs PyProof.Rows.boot_abs (@pa_cons _ _ _ _ _ (@pe_fn _ _ _ _ _ _ _ _ _ _ _ _ _ _ T.l_number (ok_l_number T) hr (by decide) (@pa_cons _ _ _ _ _ (pv 0) (@pa_nil _) star_name) (by rfl) (by decide) (by rfl) (by rfl)) (@pa_nil _) star_call) (by decide) (by decide) (by rfl) (by rfl)) (@pa_nil _) star_call) star_con) (by decide) (by decide) (by rfl) (by rfl)) (by rfl) (by first | exact .inl rfl | exact .inr rfl | assumption))) (@pss_nil _)) (@pss_cons _ _ _ _ _ (@ps_set _ _ 3 _ _ _ _ sc_l_fraction.nd rfl (Or.inl rfl) (@pe_fn _ _ _ _ _ _ _ _ _ _ _ _ _ _ T.l_divisor (ok_l_divisor T) hr (by decide) (@pa_cons _ _ _ _ _ (pv 2) (@pa_cons _ _ _ _ _ (pv 1) (@pa_nil _) star_name) star_name) (by rfl) (by decide) (by rfl) (by rfl)) (by rfl) (by first | exact .inl rfl | exact .inr rfl | assumption)) (@pss_one _ _ _ (@ps_ret _ _ _ _ (@pe_tup _ _ _ _ _ (@pa_cons _ _ _ _ _ (@pe_op _ _ _ _ _ _ _ _ op_fdivB (pv 1) (pv 3)) (@pa_cons _ _ _ _ _ (@pe_op _ _ _ _ _ _ _ _ op_fdivB (pv 2) (pv 3)) (@pa_nil _) star_bin) star_bin)))))))), ?_⟩
    refine st_setG (gv_number hh (pa_c (pu_v rfl) pa_n)) ?_
    rintro _ H1 ⟨⟨n, rfl, hn⟩, hh1, s1⟩
    refine st_set pu_c ?_
    refine st_ifRG (RB := fun _ H' => HandAt H' hd sc ∧ SameB hd H H') (fun σ' H' => HandAt H' hd sc ∧ SameB hd H H' ∧ ∃ m : Int, 0 < m ∧ m.natAbs < 10 ^ 60 ∧ σ' = [some (.ref hd), some (.int n), some (.int m), none]) (fun Q q => ?_) (fun H2 r D' q _ => ?_) (fun H2 r => ⟨r.1, r.2, 1, by decide, by decide, rfl⟩) ?_
    · refine gv_draw hh1 (pa_c (pu_v rfl) (pa_c pu_c pa_n)) (by decide) Bd.small _ ?_
      rintro _ H2 ⟨⟨m, rfl, _, _⟩, hh2, s2⟩
      exact ⟨m, 0, rfl, rfl, _, rfl, q _ _ ⟨hh2, s1.trans s2⟩⟩
    · refine st_setG1 (R := fun v H' => ∃ m : Int, v = .int m ∧ 0 < m ∧ m.natAbs < 10 ^ 60 ∧ HandAt H' hd sc ∧ SameB hd H H') (fun Q f => ?_) ?_
      · refine (show tCall sp_l_number [] E0 (tCons (tVar 0) tNil) [some (.ref hd), some (.int n), some (.int 1), none] H2 (fun v H' => ∃ i, [v] = [V.int i] ∧ ∃ i1 j1, [V.int 1, V.int (if i < 0 then -i else i)] = [V.int i1, V.int j1] ∧ Q (V.int (if j1 > i1 then j1 else i1)) H') from gv_number r.1 (pa_c (pu_v rfl) pa_n) _ ?_)
        rintro _ H3 ⟨⟨m, rfl, hm⟩, hh3, s3⟩
        refine ⟨m, rfl, 1, _, rfl, f _ _ ⟨_, rfl, ?_, ?_, hh3, r.2.trans s3⟩⟩
        · split <;> split <;> omega
        · split <;> split <;> omega
      · rintro _ H3 ⟨m, rfl, m0, m1, hh3, s3⟩
        exact q _ _ ⟨hh3, s3, m, m0, m1, rfl⟩
    rintro _ H2 ⟨hh2, s2, m, m0, m1, rfl⟩
    have eg : ((Int.gcd m n : Nat) : Int) = gS n m := by
      unfold gS
      rw [if_neg (by omega), Int.gcd_comm]
    have lh := low_has (n := n) (m := m) (by omega)
    have ll := low_le (n := n) (m := m) (by omega)
    have hne := gS_ne (a := n) (b := m) (by omega)
    have hbd := gS_bd (a := n) (by omega) (bd_60 m1)
    refine st_set (pu_call (pa_c (pu_v rfl) (pa_c (pu_v rfl) pa_n)) (fun Q q => ⟨m, n, rfl, q⟩)) ?_
    rw [eg]
    refine st_retG (gv_tup (pa_c (pu_fdiv (pu_v rfl) (pu_v rfl) ⟨hne, hbd.mono (by decide)⟩) (pa_c (pu_fdiv (pu_v rfl) (pu_v rfl) ⟨hne, hbd.mono (by decide)⟩) pa_n)) (by show 2 ≤ sizeLine; decide)) ?_
    rintro _ _ ⟨p, hp, rfl, rfl⟩
    obtain ⟨l1, l2, l3⟩ := lh
    exact k _ (n.fdiv (gS n m), m.fdiv (gS n m)) _ ⟨l1, l2, (bd_60 hn).le ll.1, (bd_60 m1).le ll.2⟩ ⟨Nat.lt_of_le_of_lt ll.1 hn, Nat.lt_of_le_of_lt ll.2 m1⟩ (TupT.of (ns := [n.fdiv (gS n m), m.fdiv (gS n m)]) upd_same) (hh2.same (Same.upd hp)) (s2.trans (Same.upd hp).b)
def sp_l_text : Sp := fun vs H Q _ => ∃ v f, vs = [v] ∧ TupT H v [f.1, f.2] ∧ FrL f ∧ Q (.str (shF f)) H
theorem pu_ltext {σ : L2.St} {H : Hp} {t : TA} {v : V} {f : Int × Int} (ha : PuA t σ H [v]) (hv : TupT H v [f.1, f.2]) (hf : FrL f) : Pu (tCall sp_l_text [] E0 t) σ H (.str (shF f)) := pu_call ha fun Q q => ⟨v, f, rfl, hv, hf, q⟩
theorem sc_l_text : FnScope ["_law_one"] ["_law_one"] (defScope s_l_text) := ⟨rfl, rfl, rfl, by decide +kernel, rfl, by decide +kernel, by decide +kernel⟩
theorem ok_l_text (T : Txt K mg t) : FnOk P w K mg base CX0 1 t.f_l_text t.d_l_text ["_law_one"] sp_l_text := by
  refine T.l_text.F.ok (k := 0) sc_l_text (fun vs H Q E h => ?_) (fun cdv A outer s H vs Q E hr h => ?_)
  · obtain ⟨v, f, rfl, _⟩ := h
    rfl
  · obtain ⟨v, f, rfl, ⟨a, rfl, ha⟩, fl, k⟩ := h
    refine ⟨_, (@pss_cons _ _ _ _ _ (@ps_if _ _ _ _ _ _ _ _ (@pt_cmpR _ _ _ _ _ _ _ _ op_eq (@pe_ix _ _ _ _ _ _ _ ix_tup (pv 0) (@pe_int _ _ _ _) (fun _ _ => rfl)) (@pe_int _ _ _ _) (nomark _)) (@pss_one _ _ _ (@ps_ret _ _ _ _ (@pe_callTy _ _ _ _ _ _ _ _ _ call_str_int (by rfl) T.b_str PyProof.Rows.boot_str (@pa_cons _ _ _ _ _ (@pe_ix _ _ _ _ _ _ _ ix_tup (pv 0) (@pe_int _ _ _ _) (fun _ _ => rfl)) (@pa_nil _) star_sub) (by decide) (by decide) (by rfl) (by rfl)))) (@pss_nil _)) (@pss_one _ _ _ (@ps_ret _ _ _ _ (@pe_op _ _ _ _ _ _ _ _ op_add_str (@pe_op _ _ _ _ _ _ _ _ op_add_str (@pe_callTy _ _ _ _ _ _ _ _ _ call_str_int (by rfl) T.b_str PyProof.Rows.boot_str (@pa_cons _ _ _ _ _ (@pe_ix _ _ _ _ _ _ _ ix_tup (pv 0) (@pe_int _ _ _ _) (fun _ _ => rfl)) (@pa_nil _) star_sub) (by decide) (by decide) (by rfl) (by rfl)) (@pe_str _ _ _ _)) (@pe_callTy _ _ _ _ _ _ _ _ _ call_str_int (by rfl) T.b_str PyProof.Rows.boot_str (@pa_cons _ _ _ _ _ (@pe_ix _ _ _ _ _ _ _ ix_tup (pv 0) (@pe_int _ _ _ _) (fun _ _ => rfl)) (@pa_nil _) star_sub) (by decide) (by decide) (by rfl) (by rfl)))))), ?_⟩
    have big : 10000 ≤ sizeLine := by decide
    have l1 := tx_len4 fl.b1
    have l2 := tx_len4 fl.b2
    have l3 : (Str.ofString "/").length = 1 := by decide +kernel
    refine st_ifN (pt_t (pu_eqI (pu_ixT (pu_v rfl) pu_c (SqT.of (ha)) rfl) pu_c)) (fun e => ?_) fun e => ?_
    · have e' : f.2 = 1 := of_decide_eq_true e
      have es : shF f = tx f.1 := by unfold shF; rw [if_pos e']
      rw [es] at k
      exact st_ret (pu_strI (pa_c (pu_ixT (pu_v rfl) pu_c (SqT.of (ha)) rfl) pa_n) (fl.b1.mono (by decide))) k
    · have e' : ¬ f.2 = 1 := of_decide_eq_false e
      have es : shF f = tx f.1 ++ Str.ofString "/" ++ tx f.2 := by unfold shF; rw [if_neg e']
      rw [es] at k
      exact st_ret (pu_addS (pu_addS (pu_strI (pa_c (pu_ixT (pu_v rfl) pu_c (SqT.of (ha)) rfl) pa_n) (fl.b1.mono (by decide))) pu_c (by omega)) (pu_strI (pa_c (pu_ixT (pu_v rfl) pu_c (SqT.of (ha)) rfl) pa_n) (fl.b2.mono (by decide))) (by rw [app_len]; omega)) k
def sp_l_point_by : Sp := fun vs H Q _ => ∃ v w x y, vs = [v, w] ∧ TupT H v [x.1, x.2] ∧ TupT H w [y.1, y.2] ∧ FrL x ∧ FrL y ∧ ∀ r H', Same H H' → AtP H' r (ptF x y) → Q r H'
theorem gv_pby {σ : L2.St} {H : Hp} {t : TA} {v w : V} {x y : Int × Int} (ha : PuA t σ H [v, w]) (hv : TupT H v [x.1, x.2]) (hw : TupT H w [y.1, y.2]) (fx : FrL x) (fy : FrL y) : Gv (tCall sp_l_point_by [] E0 t) σ H (fun r H' => Same H H' ∧ AtP H' r (ptF x y)) :=
  gv_call ha fun Q f => ⟨v, w, x, y, rfl, hv, hw, fx, fy, fun r H' s t => f _ _ ⟨s, t⟩⟩
theorem sc_l_point_by : FnScope ["_law_x", "_law_y"] ["_law_x", "_law_y"] (defScope s_l_point_by) := ⟨rfl, rfl, rfl, by decide +kernel, rfl, by decide +kernel, by decide +kernel⟩
theorem ok_l_point_by (T : Txt K mg t) : FnOk P w K mg base CX0 3 t.f_l_point_by t.d_l_point_by ["_law_x", "_law_y"] sp_l_point_by := by
  refine T.l_point_by.F.ok (k := 2) sc_l_point_by (fun vs H Q E h => ?_) (fun cdv A outer s H vs Q E hr h => ?_)
  · obtain ⟨v, w, x, y, rfl, _⟩ := h
    rfl
  · obtain ⟨v, w, x, y, rfl, ⟨a, rfl, ha⟩, ⟨b, rfl, hb⟩, fx, fy, k⟩ := h
    refine ⟨_, (@pss_one _ _ _ (@ps_ret _ _ _ _ (@pe_fn _ _ _ _ _ _ _ _ _ _ _ _ _ _ T.l_point (ok_l_point T) hr (by decide) (@pa_cons _ _ _ _ _ (@pe_op _ _ _ _ _ _ _ _ op_mulB (@pe_ix _ _ _ _ _ _ _ ix_tup (pv 0) (@pe_int _ _ _ _) (fun _ _ => rfl)) (@pe_ix _ _ _ _ _ _ _ ix_tup (pv 1) (@pe_int _ _ _ _) (fun _ _ => rfl))) (@pa_cons _ _ _ _ _ (@pe_op _ _ _ _ _ _ _ _ op_mulB (@pe_ix _ _ _ _ _ _ _ ix_tup (pv 1) (@pe_int _ _ _ _) (fun _ _ => rfl)) (@pe_ix _ _ _ _ _ _ _ ix_tup (pv 0) (@pe_int _ _ _ _) (fun _ _ => rfl))) (@pa_cons _ _ _ _ _ (@pe_op _ _ _ _ _ _ _ _ op_mulB (@pe_ix _ _ _ _ _ _ _ ix_tup (pv 0) (@pe_int _ _ _ _) (fun _ _ => rfl)) (@pe_ix _ _ _ _ _ _ _ ix_tup (pv 1) (@pe_int _ _ _ _) (fun _ _ => rfl))) (@pa_nil _) star_bin) star_bin) star_bin) (by rfl) (by decide) (by rfl) (by rfl)))), ?_⟩
    refine st_retG (gv_point (pa_c (pu_mul (pu_ixT (pu_v rfl) pu_c (SqT.of (ha)) rfl) (pu_ixT (pu_v rfl) pu_c (SqT.of (hb)) rfl) (mulOk_of fx.b1 fy.b2 (by decide))) (pa_c (pu_mul (pu_ixT (pu_v rfl) pu_c (SqT.of (hb)) rfl) (pu_ixT (pu_v rfl) pu_c (SqT.of (ha)) rfl) (mulOk_of fy.b1 fx.b2 (by decide))) (pa_c (pu_mul (pu_ixT (pu_v rfl) pu_c (SqT.of (ha)) rfl) (pu_ixT (pu_v rfl) pu_c (SqT.of (hb)) rfl) (mulOk_of fx.b2 fy.b2 (by decide))) pa_n))) (ptF_z fx fy) ((fx.b2.mul fy.b2).mono (by decide))) ?_
    rintro r H' ⟨s, q, hq, iq⟩
    refine k r H' s ?_
    unfold ptF
    rw [pb_is3 (Int.ne_of_gt (ptF_z fx fy)) iq]
    exact hq
def sp_l_all_whole : Sp := fun vs H Q _ => ∃ v ns, vs = [v, .int (List.length ns)] ∧ TupT H v ns ∧ Q (.bl true) H
theorem sc_l_all_whole : FnScope ["_law_found", "_law_many", "_law_one"] ["_law_found", "_law_many"] (defScope s_l_all_whole) := ⟨rfl, rfl, rfl, by decide +kernel, rfl, by decide +kernel, by decide +kernel⟩
theorem ok_l_all_whole (T : Txt K mg t) : FnOk P w K mg base CX0 2 t.f_l_all_whole t.d_l_all_whole ["_law_found", "_law_many"] sp_l_all_whole := by
  refine T.l_all_whole.F.ok (k := 1) sc_l_all_whole (fun vs H Q E h => ?_) (fun cdv A outer s H vs Q E hr h => ?_)
  · obtain ⟨v, ns, rfl, _⟩ := h
    rfl
  · obtain ⟨v, ns, rfl, ⟨a, rfl, ha⟩, k⟩ := h
    refine ⟨_, (@pss_cons _ _ _ _ _ (@ps_if _ _ _ _ _ _ _ _ (PW.pt (@pw_or _ _ _ _ _ _ _ (@pt_not _ _ _ _ (@pt_val _ _ _ (@pe_callB _ _ _ _ _ _ _ _ _ call_isinst (by rfl) T.b_isinstance PyProof.Rows.boot_isinstance (@pa_cons _ _ _ _ _ (pv 0) (@pa_cons _ _ _ _ _ (@pe_ty _ _ _ _ T.b_tuple PyProof.Rows.boot_tuple (by rfl) (by decide) (by decide)) (@pa_nil _) star_name) star_name) (by decide) (by decide) (by rfl) (by rfl)) (by intro _; rfl))) (@pw_or1 _ _ _ _ (@pt_cmpR _ _ _ _ _ _ _ _ op_ne (@pe_callB _ _ _ _ _ _ _ _ _ call_len_seq (by rfl) T.b_len PySem.boot_len (@pa_cons _ _ _ _ _ (pv 0) (@pa_nil _) star_name) (by decide) (by decide) (by rfl) (by rfl)) (pv 1) (nomark _))))) (@pss_one _ _ _ (@ps_ret _ _ _ _ (@pe_bl _ _ _ _))) (@pss_nil _)) (@pss_cons _ _ _ _ _ (@ps_for _ _ _ _ _ _ _ _ PassesOwn.never rfl (@pi_tup _ _ _ _ (pv 0)) (@pg_name _ _ 2 _ sc_l_all_whole.nd rfl (Or.inl rfl) (by first | exact .inl rfl | exact .inr rfl | assumption)) (@pss_one _ _ _ (@ps_if _ _ _ _ _ _ _ _ (@pt_not _ _ _ _ (@pt_val _ _ _ (@pe_fn _ _ _ _ _ _ _ _ _ _ _ _ _ _ T.l_whole (ok_l_whole T) hr (by decide) (@pa_cons _ _ _ _ _ (pv 2) (@pa_nil _) star_name) (by rfl) (by decide) (by rfl) (by rfl)) (by intro _; rfl))) (@pss_one _ _ _ (@ps_ret _ _ _ _ (@pe_bl _ _ _ _))) (@pss_nil _))) (by intro _; rfl)) (@pss_one _ _ _ (@ps_ret _ _ _ _ (@pe_bl _ _ _ _))))), ?_⟩
    refine st_ifN (pt_or (b := false) (pt_n (b := true) (pt_b (pu_isi (pa_c (pu_v rfl) (pa_c pu_c pa_n)) (.tup ha) kit_same))) fun _ => pt_t (pu_neI (pu_lenT (pa_c (pu_v rfl) pa_n) (SqT.of ha)) (pu_v rfl))) (fun e => absurd e (by simp)) fun _ => ?_
    refine st_tupl (K := K) (xs := ns.map V.int) (pu_v rfl) (fun i σ H' => H = H' ∧ ∃ z : Option V, σ = [some (.ref a), some (.int ns.length), z]) ⟨rfl, none, rfl⟩ (fun i σ H' _ ⟨e, _⟩ => by subst e; exact SqT.of ha) ?_ ?_
    · rintro i x σ _ hx ⟨rfl, z, rfl⟩
      obtain ⟨n, _, rfl⟩ := List.mem_map.mp (List.mem_of_getElem? hx)
      refine st_ifN1 (pt_n (b := true) (pt_b (pu_call (pa_c (pu_v rfl) pa_n) fun Q f => ⟨n, rfl, f⟩))) (fun e => by simp at e) fun _ => ⟨rfl, _, rfl⟩
    · rintro σ _ ⟨rfl, z, rfl⟩
      exact st_ret pu_c k
def GoodR (r : List Fp) : Prop := r ≠ [] ∧ r.length ≤ 60 ∧ (∀ f ∈ r, FrL f.1 ∧ FrL f.2) ∧ (∀ f ∈ r, FrS f.1 ∧ FrS f.2)
def sp_l_drawn : Sp := fun vs H Q _ => ∃ hd sc, vs = [.ref hd] ∧ HandAt H hd sc ∧ ∀ (a lr : Addr) (rs : List (List Fp)) H', rs ≠ [] → rs.length ≤ 10 → (∀ r ∈ rs, GoodR r) → H' a = some (.tup [.ref lr, .str (shRs rs)]) → RgL H' lr (rs.map ptsOf) → HandAt H' hd sc → lr ≠ hd ∧ lr ≠ sc → SameB hd H H' → Q (.ref a) H'
/-- row[draw(hand, len(row))] -/
theorem gv_rowpick {K : PySem.W.Frag} {σ : L2.St} {H : Hp} {hd sc lw : Addr} {fs : List (Int × Int)} (hh : HandAt H hd sc) (hf : FrsAt H lw fs) (n : lw ≠ hd) (h0 : fs.length ≠ 0) (h1 : fs.length ≤ 10) (e0 : σ[0]? = some (some (.ref hd))) (e6 : σ[6]? = some (some (.ref lw))) :
    Gv (tOp (rIxL K) (tVar 6) (tCall sp_l_draw [] E0 (tCons (tVar 0) (tCons (tCB (fun xs H Q => ∃ p ys, xs = [.ref p] ∧ (SqL K H p ys ∨ SqT K H p ys) ∧ Q (.int ys.length) H) (tCons (tVar 6) tNil)) tNil)))) σ H (fun v H' => (∃ f ∈ fs, TupT H' v [f.1, f.2]) ∧ HandAt H' hd sc ∧ SameB hd H H') := by
  obtain ⟨ys, hy, ty⟩ := id hf
  have hyl : ys.length = fs.length := by rw [ty.len, List.length_map]
  intro Q q
  refine pu_v e6 _ (gv_draw hh (pa_c (pu_v e0) (pa_c (pu_lenL (pa_c (pu_v e6) pa_n) (SqL.of hy)) pa_n)) (by omega) (Bd.small (by omega)) _ ?_)
  rintro _ H' ⟨⟨m, rfl, m0, m1⟩, hh', s'⟩
  obtain ⟨ysh, hysh⟩ := hh.ls
  have hy' := s' _ _ hy n
  have ex : ys[m.toNat]? = some ys[m.toNat] := List.getElem?_eq_getElem (by omega)
  obtain ⟨ns, hns, tz⟩ := paired_get ty ex
  rw [List.getElem?_map] at hns
  cases hf' : fs[m.toNat]? with
  | none => rw [hf'] at hns; cases hns
  | some f =>
    rw [hf'] at hns
    have en : [f.1, f.2] = ns := Option.some.inj hns
    subst en
    have hat : atI ys m = some ys[m.toNat] := by
      have := atI_nat (xs := ys) (j := m.toNat) ex
      rwa [show ((m.toNat : Nat) : Int) = m by omega] at this
    exact ⟨lw, ys, m, _, rfl, rfl, SqL.of hy', hat, q _ _ ⟨⟨f, List.mem_of_getElem? hf', TupT.sameB tz s' hysh⟩, hh', s'⟩⟩
theorem sc_l_drawn : FnScope ["_law_hand_here", "_law_rings", "_law_texts", "_law_long", "_law_k", "_law_many", "_law_row", "_law_ring", "_law_words", "_law_j", "_law_x", "_law_y"] ["_law_hand_here"] (defScope s_l_drawn) := ⟨rfl, rfl, rfl, by decide +kernel, rfl, by decide +kernel, by decide +kernel⟩
theorem ok_l_drawn (T : Txt K mg t) : FnOk P w K mg base CX0 6 t.f_l_drawn t.d_l_drawn ["_law_hand_here"] sp_l_drawn := by
  refine T.l_drawn.F.ok (k := 5) sc_l_drawn (fun vs H Q E h => ?_) (fun cdv A outer s H vs Q E hr h => ?_)
  · obtain ⟨hd, sc, rfl, _⟩ := h
    rfl
  · obtain ⟨hd, sc, rfl, hh, k⟩ := h
    refine ⟨_, (@pss_cons _ _ _ _ _ (@ps_set _ _ 1 _ _ _ _ sc_l_drawn.nd rfl (Or.inl rfl) (@pe_lst _ _ _ _ (@pa_nil _)) (by rfl) (by first | exact .inl rfl | exact .inr rfl | assumption)) (@pss_cons _ _ _ _ _ (@ps_set _ _ 2 _ _ _ _ sc_l_drawn.nd rfl (Or.inl rfl) (@pe_lst _ _ _ _ (@pa_nil _)) (by rfl) (by first | exact .inl rfl | exact .inr rfl | assumption)) (@pss_cons _ _ _ _ _ (@ps_set _ _ 3 _ _ _ _ sc_l_drawn.nd rfl (Or.inl rfl) (@pe_fn _ _ _ _ _ _ _ _ _ _ _ _ _ _ T.l_draw (ok_l_draw T) hr (by decide) (@pa_cons _ _ _ _ _ (pv 0) (@pa_cons _ _ _ _ _ (@pe_int _ _ _ _) (@pa_nil _) star_con) star_name) (by rfl) (by decide) (by rfl) (by rfl)) (by rfl) (by first | exact .inl rfl | exact .inr rfl | assumption)) (@pss_cons _ _ _ _ _ (@ps_for _ _ _ _ _ _ _ _ PassesOwn.never rfl (@pi_range1 _ _ _ _ _ _ rfl T.b_range (@pa_cons _ _ _ _ _ (@pe_op _ _ _ _ _ _ _ _ op_add (@pe_int _ _ _ _) (@pe_fn _ _ _ _ _ _ _ _ _ _ _ _ _ _ T.l_draw (ok_l_draw T) hr (by decide) (@pa_cons _ _ _ _ _ (pv 0) (@pa_cons _ _ _ _ _ (@pe_int _ _ _ _) (@pa_nil _) star_con) star_name) (by rfl) (by decide) (by rfl) (by rfl))) (@pa_nil _) star_bin) (by rfl)) (@pg_name _ _ 4 _ sc_l_drawn.nd rfl (Or.inl rfl) (by first | exact .inl rfl | exact .inr rfl | assumption)) (@pss_cons _ _ _ _ _ (@ps_set _ _ 5 _ _ _ _ sc_l_drawn.nd rfl (Or.inl rfl) (@pe_op _ _ _ _ _ _ _ _ op_add (@pe_int _ _ _ _) (@pe_fn _ _ _ _ _ _ _ _ _ _ _ _ _ _ T.l_draw (ok_l_draw T) hr (by decide) (@pa_cons _ _ _ _ _ (pv 0) (@pa_cons _ _ _ _ _ (@pe_ix _ _ _ _ _ _ _ ix_list (@pe_lst _ _ _ _ (@pa_cons _ _ _ _ _ (@pe_int _ _ _ _) (@pa_cons _ _ _ _ _ (@pe_int _ _ _ _) (@pa_cons _ _ _ _ _ (@pe_int _ _ _ _) (@pa_cons _ _ _ _ _ (@pe_int _ _ _ _) (@pa_nil _) star_con) star_con) star_con) star_con)) (@pe_fn _ _ _ _ _ _ _ _ _ _ _ _ _ _ T.l_draw (ok_l_draw T) hr (by decide) (@pa_cons _ _ _ _ _ (pv 0) (@pa_cons _ _ _ _ _ (@pe_int _ _ _ _) (@pa_nil _) star_con) star_name) (by rfl) (by decide) (by rfl) (by rfl)) (fun _ _ => rfl)) (@pa_nil _) star_sub) star_name) (by rfl) (by decide) (by rfl) (by rfl))) (by rfl) (by first | exact .inl rfl | exact .inr rfl | assumption)) (@pss_cons _ _ _ _ _ (@ps_if _ _ _ _ _ _ _ _ (@pt_cmpR _ _ _ _ _ _ _ _ op_eq (pv 4) (pv 3) (nomark _)) (@pss_one _ _ _ (@ps_set _ _ 5 _ _ _ _ sc_l_drawn.nd rfl (Or.inl rfl) (@pe_op _ _ _ _ _ _ _ _ op_add (@pe_int _ _ _ _) (@pe_fn _ _ _ _ _ _ _ _ _ _ _ _ _ _ T.l_draw (ok_l_draw T) hr (by decide) (@pa_cons _ _ _ _ _ (pv 0) (@pa_cons _ _ _ _ _ (@pe_int _ _ _ _) (@pa_nil _) star_con) star_name) (by rfl) (by decide) (by rfl) (by rfl))) (by rfl) (by first | exact .inl rfl | exact .inr rfl | assumption))) (@pss_nil _)) (@pss_cons _ _ _ _ _ (@ps_setC _ 6 _ _ _ _ _ _ _ _ _ sc_l_drawn.nd rfl rfl (@cr_lcompC _ "_law_j" "_law_hand_here" _ _ _ _ _ _ _ _ 0 rfl (@pi_range1 _ _ _ _ _ _ rfl T.b_range (@pa_cons _ _ _ _ _ (@pe_op _ _ _ _ _ _ _ _ op_add (@pe_int _ _ _ _) (@pe_fn _ _ _ _ _ _ _ _ _ _ _ _ _ _ T.l_draw (ok_l_draw T) hr (by decide) (@pa_cons _ _ _ _ _ (pv 0) (@pa_cons _ _ _ _ _ (@pe_int _ _ _ _) (@pa_nil _) star_con) star_name) (by rfl) (by decide) (by rfl) (by rfl))) (@pa_nil _) star_bin) (by rfl)) (fun _ _ _ _ => pg_name (i := 0) (show (["_law_j", "_law_hand_here"] : List Str).Nodup from by decide +kernel) rfl (Or.inl rfl) (.inr rfl)) (fun _ _ _ _ => (@pe_fn _ _ _ _ _ _ _ _ _ _ _ _ _ _ T.l_fraction (ok_l_fraction T) hr (by decide) (@pa_cons _ _ _ _ _ (pv 1) (@pa_nil _) star_name) (by rfl) (by decide) (by rfl) (by rfl))) rfl rfl (by decide +kernel) (by decide +kernel) rfl rfl rfl rfl rfl (by intro _; rfl)) (by rfl)) (@pss_cons _ _ _ _ _ (@ps_set _ _ 7 _ _ _ _ sc_l_drawn.nd rfl (Or.inl rfl) (@pe_lst _ _ _ _ (@pa_nil _)) (by rfl) (by first | exact .inl rfl | exact .inr rfl | assumption)) (@pss_cons _ _ _ _ _ (@ps_set _ _ 8 _ _ _ _ sc_l_drawn.nd rfl (Or.inl rfl) (@pe_lst _ _ _ _ (@pa_nil _)) (by rfl) (by first | exact .inl rfl | exact .inr rfl | assumption)) (@pss_cons _ _ _ _ _ (@ps_for _ _ _ _ _ _ _ _ PassesOwn.never rfl (@pi_range1 _ _ _ _ _ _ rfl T.b_range (@pa_cons _ _ _ _ _ (pv 5) (@pa_nil _) star_name) (by rfl)) (@pg_name _ _ 9 _ sc_l_drawn.nd rfl (Or.inl rfl) (by first | exact .inl rfl | exact .inr rfl | assumption)) (@pss_cons _ _ _ _ _ (@ps_set _ _ 10 _ _ _ _ sc_l_drawn.nd rfl (Or.inl rfl) (@pe_ix _ _ _ _ _ _ _ ix_list (pv 6) (@pe_fn _ _ _ _ _ _ _ _ _ _ _ _ _ _ T.l_draw (ok_l_draw T) hr (by decide) (@pa_cons _ _ _ _ _ (pv 0) (@pa_cons _ _ _ _ _ (@pe_callB _ _ _ _ _ _ _ _ _ call_len_seq (by rfl) T.b_len PySem.boot_len (@pa_cons _ _ _ _ _ (pv 6) (@pa_nil _) star_name) (by decide) (by decide) (by rfl) (by rfl)) (@pa_nil _) star_call) star_name) (by rfl) (by decide) (by rfl) (by rfl)) (fun _ _ => rfl)) (by rfl) (by first | exact .inl rfl | exact .inr rfl | assumption)) (@pss_cons _ _ _ _ _ (@ps_set _ _ 11 _ _ _ _ sc_l_drawn.nd rfl (Or.inl rfl) (@pe_ix _ _ _ _ _ _ _ ix_list (pv 6) (@pe_fn _ _ _ _ _ _ _ _ _ _ _ _ _ _ T.l_draw (ok_l_draw T) hr (by decide) (@pa_cons _ _ _ _ _ (pv 0) (@pa_cons _ _ _ _ _ (@pe_callB _ _ _ _ _ _ _ _ _ call_len_seq (by rfl) T.b_len PySem.boot_len (@pa_cons _ _ _ _ _ (pv 6) (@pa_nil _) star_name) (by decide) (by decide) (by rfl) (by rfl)) (@pa_nil _) star_call) star_name) (by rfl) (by decide) (by rfl) (by rfl)) (fun _ _ => rfl)) (by rfl) (by first | exact .inl rfl | exact .inr rfl | assumption)) (@pss_cons _ _ _ _ _ (@ps_expr _ _ _ _ (@pe_bm _ _ _ _ _ _ _ _ _ _ _ _ PySem.F.plainAttrs_list PySem.F.slot_list_append PySem.F.type_list_append mt_append (pv 7) (@pa_cons _ _ _ _ _ (@pe_fn _ _ _ _ _ _ _ _ _ _ _ _ _ _ T.l_point_by (ok_l_point_by T) hr (by decide) (@pa_cons _ _ _ _ _ (pv 10) (@pa_cons _ _ _ _ _ (pv 11) (@pa_nil _) star_name) star_name) (by rfl) (by decide) (by rfl) (by rfl)) (@pa_nil _) star_call) (by rfl) (by rfl) (by rfl) (by rfl) (by rfl)) (by rfl)) (@pss_one _ _ _ (@ps_expr _ _ _ _ (@pe_bm _ _ _ _ _ _ _ _ _ _ _ _ PySem.F.plainAttrs_list PySem.F.slot_list_append PySem.F.type_list_append mt_append (pv 8) (@pa_cons _ _ _ _ _ (@pe_op _ _ _ _ _ _ _ _ op_add_str (@pe_op _ _ _ _ _ _ _ _ op_add_str (@pe_fn _ _ _ _ _ _ _ _ _ _ _ _ _ _ T.l_text (ok_l_text T) hr (by decide) (@pa_cons _ _ _ _ _ (pv 10) (@pa_nil _) star_name) (by rfl) (by decide) (by rfl) (by rfl)) (@pe_str _ _ _ _)) (@pe_fn _ _ _ _ _ _ _ _ _ _ _ _ _ _ T.l_text (ok_l_text T) hr (by decide) (@pa_cons _ _ _ _ _ (pv 11) (@pa_nil _) star_name) (by rfl) (by decide) (by rfl) (by rfl))) (@pa_nil _) star_bin) (by rfl) (by rfl) (by rfl) (by rfl) (by rfl)) (by rfl)))))) (by intro _; rfl)) (@pss_one _ _ _ (@ps_for _ _ _ _ _ _ _ _ PassesOwn.never rfl (@pi_range1 _ _ _ _ _ _ rfl T.b_range (@pa_cons _ _ _ _ _ (@pe_op _ _ _ _ _ _ _ _ op_add (@pe_int _ _ _ _) (@pe_op _ _ _ _ _ _ _ _ op_fdivB (@pe_fn _ _ _ _ _ _ _ _ _ _ _ _ _ _ T.l_draw (ok_l_draw T) hr (by decide) (@pa_cons _ _ _ _ _ (pv 0) (@pa_cons _ _ _ _ _ (@pe_int _ _ _ _) (@pa_nil _) star_con) star_name) (by rfl) (by decide) (by rfl) (by rfl)) (@pe_int _ _ _ _))) (@pa_nil _) star_bin) (by rfl)) (@pg_name _ _ 9 _ sc_l_drawn.nd rfl (Or.inl rfl) (by first | exact .inl rfl | exact .inr rfl | assumption)) (@pss_cons _ _ _ _ _ (@ps_expr _ _ _ _ (@pe_bm _ _ _ _ _ _ _ _ _ _ _ _ PySem.F.plainAttrs_list PySem.F.slot_list_append PySem.F.type_list_append mt_append (pv 1) (@pa_cons _ _ _ _ _ (@pe_callTy _ _ _ _ _ _ _ _ _ call_list_of (by rfl) T.b_list PyProof.Rows.boot_list (@pa_cons _ _ _ _ _ (pv 7) (@pa_nil _) star_name) (by decide) (by decide) (by rfl) (by rfl)) (@pa_nil _) star_call) (by rfl) (by rfl) (by rfl) (by rfl) (by rfl)) (by rfl)) (@pss_one _ _ _ (@ps_expr _ _ _ _ (@pe_bm _ _ _ _ _ _ _ _ _ _ _ _ PySem.F.plainAttrs_list PySem.F.slot_list_append PySem.F.type_list_append mt_append (pv 2) (@pa_cons _ _ _ _ _ (@pe_bm _ _ _ _ _ _ _ _ _ _ _ _ PySem.F.plainAttrs_str PySem.F.slot_str_join PySem.F.type_str_join mt_join (@pe_str _ _ _ _) (@pa_cons _ _ _ _ _ (pv 8) (@pa_nil _) star_name) (by rfl) (by rfl) (by rfl) (by rfl) (by rfl)) (@pa_nil _) star_call) (by rfl) (by rfl) (by rfl) (by rfl) (by rfl)) (by rfl)))) (by intro _; rfl))))))))) (by intro _; rfl)) (@pss_one _ _ _ (@ps_ret _ _ _ _ (@pe_tup _ _ _ _ _ (@pa_cons _ _ _ _ _ (pv 1) (@pa_cons _ _ _ _ _ (@pe_bm _ _ _ _ _ _ _ _ _ _ _ _ PySem.F.plainAttrs_str PySem.F.slot_str_join PySem.F.type_str_join mt_join (@pe_str _ _ _ _) (@pa_cons _ _ _ _ _ (pv 2) (@pa_nil _) star_name) (by rfl) (by rfl) (by rfl) (by rfl) (by rfl)) (@pa_nil _) star_call) star_name)))))))), ?_⟩
    refine st_setG (gv_lst pa_n (Nat.zero_le _)) ?_
    rintro _ _ ⟨lr, hlr, rfl, rfl⟩
    have nr := hh.fresh hlr
    refine st_setG (gv_lst pa_n (Nat.zero_le _)) ?_
    rintro _ _ ⟨lt, hlt, rfl, rfl⟩
    have hh1 := hh.same (Same.upd (o := .lst []) hlr)
    have nt := hh1.fresh hlt
    have nrt : lr ≠ lt := ne_of_none upd_same hlt
    have hh2 := hh1.same (Same.upd (o := .lst []) hlt)
    have s2 : SameB hd H (upd (upd H lr (.lst [])) lt (.lst [])) := ((Same.upd hlr).trans (Same.upd hlt)).b
    have bk2 : Bk (upd (upd H lr (.lst [])) lt (.lst [])) lr lt hd [] := ⟨[], by rw [upd_ne nrt, upd_same]; rfl, .nil, fun a ha => (nomatch ha), by rw [upd_same]; rfl⟩
    revert hh2 s2 bk2
    generalize upd (upd H lr (.lst [])) lt (.lst []) = H2
    intro hh2 s2 bk2
    refine st_setG (gv_draw hh2 (pa_c (pu_v rfl) (pa_c pu_c pa_n)) (by decide) Bd.small) ?_
    rintro _ H3 ⟨⟨lg0, rfl, _, _⟩, hh3, s3⟩
    have bk3 := bk2.hand hh2 s3 nr.1 nt.1
    have s03 := s2.trans s3
    refine st_rangeG (ga_cons (gv_draw1 (m := 5) hh3 (pa_c (pu_v rfl) (pa_c pu_c pa_n)) (by decide) Bd.small) fun _ _ _ => ga_nil) ?_
    rintro vs H4 ⟨_, _, r, rfl, ⟨⟨n, rfl, n0, n1⟩, hh4, s4⟩, rfl, rfl⟩
    have bk4 := bk3.hand hh3 s4 nr.1 nt.1
    refine ⟨n, rfl, by omega, by omega, fun i σ H' => HandAt H' hd sc ∧ SameB hd H H' ∧ (∃ rs : List (List Fp), rs.length ≤ 2 * i ∧ (0 < i → rs ≠ []) ∧ (∀ r ∈ rs, GoodR r) ∧ Bk H' lr lt hd rs) ∧ ∃ a b c d e f x y : Option V, σ = [some (.ref hd), some (.ref lr), some (.ref lt), some (.int lg0), a, b, c, d, e, f, x, y], ⟨hh4, s03.trans s4, ⟨[], Nat.zero_le _, fun z => absurd z (by omega), fun r hr => (nomatch hr), bk4⟩, _, _, _, _, _, _, _, _, rfl⟩, ?_, ?_⟩
    · rintro i σ H5 hi ⟨hh5, s5, ⟨rs, hrs, hne, hgood, bk5⟩, a, b, c, d, e, f, x, y, rfl⟩
      refine st_setG (R := fun v H' => ∃ m : Int, v = .int m ∧ 1 ≤ m ∧ m ≤ 60 ∧ HandAt H' hd sc ∧ SameB hd H5 H') (fun Q q => ?_) ?_
      · refine pu_c (v := .int 1) _ (gv_callA (sp := sp_l_draw) (E := E0) (R := fun v H' => ∃ m : Int, v = .int m ∧ 0 ≤ m ∧ m < 14 ∧ HandAt H' hd sc ∧ SameB hd H5 H') (RA := fun vs H' => ∃ m : Int, vs = [.ref hd, .int m] ∧ 0 < m ∧ m ≤ 14 ∧ HandAt H' hd sc ∧ SameB hd H5 H') (fun Q g => pu_v (v := .ref hd) rfl _ (gv_pick (ys := [4, 4, 4, 14]) (m := 14) hh5 (pa_c pu_c (pa_c pu_c (pa_c pu_c (pa_c pu_c pa_n)))) (by decide) (by decide) (by decide) (fun _ => pa_c (pu_v rfl) (pa_c pu_c pa_n)) _ fun v H' ⟨⟨m, e, m0, m1⟩, a, s⟩ => by subst e; exact g _ _ ⟨m, rfl, m0, m1, a, s⟩)) ?_ _ ?_)
        · rintro _ H6 ⟨m, rfl, m0, m1, hh6, s6⟩ Q g
          exact ⟨hd, sc, m, rfl, hh6, m0, Bd.small (by omega), fun n H' z0 z1 a s => g _ _ ⟨n, rfl, z0, by omega, a, s6.trans s⟩⟩
        · rintro _ H6 ⟨m, rfl, m0, m1, hh6, s6⟩
          exact ⟨1, m, rfl, rfl, q _ _ ⟨_, rfl, by omega, by omega, hh6, s6⟩⟩
      rintro _ H6 ⟨m, rfl, m0, m1, hh6, s6⟩
      refine st_ifSet (R := fun v H' => ∃ m : Int, v = .int m ∧ 1 ≤ m ∧ m ≤ 60 ∧ HandAt H' hd sc ∧ SameB hd H5 H') (v0 := .int m) (pt_t (pu_eqI (pu_v rfl) (pu_v rfl))) (fun _ => fun Q q => ?_) rfl (fun _ => ⟨m, rfl, m0, m1, hh6, s6⟩) ?_
      · refine pu_c (v := .int 15) _ (gv_draw hh6 (pa_c (pu_v rfl) (pa_c pu_c pa_n)) (by decide) Bd.small _ ?_)
        rintro _ H7 ⟨⟨z, rfl, z0, z1⟩, hh7, s7⟩
        exact ⟨15, z, rfl, rfl, q _ _ ⟨_, rfl, by omega, by omega, hh7, s6.trans s7⟩⟩
      rintro _ H7 ⟨mm, rfl, mm0, mm1, hh7, s7⟩
      refine st_setG (R := fun v H' => ∃ (lw : Addr) (fs : List (Int × Int)), v = .ref lw ∧ H7 lw = none ∧ FrsAt H' lw fs ∧ fs.length ≠ 0 ∧ fs.length ≤ 10 ∧ (∀ f ∈ fs, FrL f ∧ FrS f) ∧ HandAt H' hd sc ∧ SameB hd H7 H') (gv_compRG (ga_cons (gv_drawC (m := 4) 2 hh7 (pa_c (pu_v rfl) (pa_c pu_c pa_n)) (by decide) Bd.small) fun _ _ _ => ga_nil) ?_) ?_
      · rintro _ H8 ⟨_, _, r, rfl, ⟨⟨z, rfl, z0, z1⟩, hh8, s8⟩, rfl, rfl⟩
        obtain ⟨ys8, hys8⟩ := hh8.ls
        refine ⟨z, rfl, by omega, by omega, (gv_compR (fun D i ys H' => HandAt H' hd sc ∧ SameB hd H8 H' ∧ H' D = some (.lst ys) ∧ ∃ fs : List (Int × Int), fs.length = i ∧ TupsT H' ys (fs.map fun f => [f.1, f.2]) ∧ ∀ f ∈ fs, FrL f ∧ FrS f) (pa_c pu_c pa_n) (by omega) (by omega) (fun x => (KeepS.refl _).cons (some x)) (fun D hD => ⟨hh8.same (Same.upd hD), (Same.upd hD).b, upd_same, [], rfl, .nil, fun f hf => (nomatch hf)⟩) ?_).imp ?_⟩
        · rintro D i' ys H9 hD hi' ⟨hh9, s9, hD9, fs, hfl, tf, hfs⟩
          have hyl : ys.length = fs.length := by rw [tf.len, List.length_map]
          refine ⟨small1000 (by omega), gv_call (pa_c (pu_v rfl) pa_n) fun Q q => ⟨hd, sc, rfl, hh9, fun v f H' fl fs' tv hh' s' => q _ _ ?_⟩⟩
          have nD : D ≠ hd := fun z => by rw [z, hys8] at hD; cases hD
          have hD' := s' _ _ hD9 nD
          refine ⟨hD', hh'.upd ⟨nD, fun z => ?_⟩, ?_, upd_same, fs ++ [f], by rw [List.length_append, hfl]; rfl, ?_, ?_⟩
          · obtain ⟨ns, i, b, c, p, q, g1, g2, _⟩ := hh8
            rw [z, g2] at hD
            cases hD
          · intro b o e n
            rw [upd_ne (ne_of_none e hD)]
            exact (s9.trans s') b o e n
          · rw [List.map_append]
            obtain ⟨ys9, hys9⟩ := hh9.ls
            exact TupsT.snoc (tf.mono fun _ _ z => TupT.sameB (TupT.sameB z s' hys9) SameB.upd hD') (TupT.sameB tv SameB.upd hD')
          · intro g hg
            rcases List.mem_append.mp hg with hg | hg
            · exact hfs g hg
            · rw [List.mem_singleton.mp hg]
              exact ⟨fl, fs'⟩
        · rintro v H9 ⟨D, ys, hD, rfl, hh9, s9, hD9, fs, hfl, tf, hfs⟩
          refine ⟨D, fs, rfl, ?_, ⟨ys, hD9, tf⟩, by omega, by omega, hfs, hh9, s8.trans s9⟩
          cases e : H7 D with
          | none => rfl
          | some o =>
            obtain ⟨ys7, hys7⟩ := hh7.ls
            by_cases z : D = hd
            · rw [z, hys8] at hD
              cases hD
            · rw [s8 _ _ e z] at hD
              cases hD
      rintro _ H8 ⟨lw, fs, rfl, nlw, frs, fs0, fs10, hfs, hh8, s8⟩
      have s58 := s7.trans s8
      have bk8 := bk5.hand hh5 s58 nr.1 nt.1
      have nwh : lw ≠ hd := by
        obtain ⟨ys7, hys7⟩ := hh7.ls
        exact (ne_of_none hys7 nlw).symm
      obtain ⟨as8, br8, _, _, bt8⟩ := id bk8
      obtain ⟨ysw, hysw, _⟩ := id frs
      refine st_setG (gv_lst pa_n (Nat.zero_le _)) ?_
      rintro _ _ ⟨lg, hlg, rfl, rfl⟩
      have ng := hh8.fresh hlg
      have g1 : lr ≠ lg := ne_of_none br8 hlg
      have g2 : lt ≠ lg := ne_of_none bt8 hlg
      have g3 : lw ≠ lg := ne_of_none hysw hlg
      refine st_setG (gv_lst pa_n (Nat.zero_le _)) ?_
      rintro _ _ ⟨ld, hld, rfl, rfl⟩
      have sA : Same H8 (upd H8 lg (.lst [])) := Same.upd hlg
      have nd := (hh8.same sA).fresh hld
      have d1 : lr ≠ ld := ne_of_none (sA _ _ br8) hld
      have d2 : lt ≠ ld := ne_of_none (sA _ _ bt8) hld
      have d3 : lw ≠ ld := ne_of_none (sA _ _ hysw) hld
      have d4 : lg ≠ ld := ne_of_none upd_same hld
      have hld8 : H8 ld = none := sA.free hld
      have sB := sA.trans (Same.upd (o := .lst []) hld)
      have l1 : (upd (upd H8 lg (.lst [])) ld (.lst [])) lg = some (.lst []) := by rw [upd_ne d4, upd_same]
      have l2 : (upd (upd H8 lg (.lst [])) ld (.lst [])) ld = some (.lst []) := upd_same
      revert sB l1 l2
      generalize upd (upd H8 lg (.lst [])) ld (.lst []) = H9
      intro sB l1 l2
      refine st_range (n := mm) (pa_c (pu_v rfl) pa_n) (by omega) (by omega) (fun n σ H' => HandAt H' hd sc ∧ SameB hd H8 H' ∧ FrsAt H' lw fs ∧ (∃ r : List Fp, r.length = n ∧ (∀ f ∈ r, FrL f.1 ∧ FrL f.2) ∧ (∀ f ∈ r, FrS f.1 ∧ FrS f.2) ∧ LP H' lg (ptsOf r) ∧ H' ld = some (.lst ((r.map fun p => shP p.1 p.2).map V.str))) ∧ ∃ a x y : Option V, σ = [some (.ref hd), some (.ref lr), some (.ref lt), some (.int lg0), some (.int (0 + (i : Int))), some (.int mm), some (.ref lw), some (.ref lg), some (.ref ld), a, x, y]) ⟨hh8.same sB, sB.b, frs.same sB, ⟨[], rfl, fun f hf => (nomatch hf), fun f hf => (nomatch hf), ⟨[], l1, .nil⟩, l2⟩, _, _, _, rfl⟩ ?_ ?_
      · rintro n' σ HA hn' ⟨hhA, sA', frA, ⟨r, hrl, hfl, hfS, lpA, ldA⟩, a', x', y', rfl⟩
        have hn60 : n' < 60 := by omega
        refine st_setG (gv_rowpick hhA frA nwh fs0 fs10 rfl rfl) ?_
        rintro vx HB ⟨⟨fx, fxm, tx'⟩, hhB, sB'⟩
        obtain ⟨yA, hyA⟩ := hhA.ls
        have frB := frA.but nwh hyA sB'
        refine st_setG (gv_rowpick hhB frB nwh fs0 fs10 rfl rfl) ?_
        rintro vy HC ⟨⟨fy, fym, ty'⟩, hhC, sC'⟩
        obtain ⟨yB, hyB⟩ := hhB.ls
        have frC := frB.but nwh hyB sC'
        have txC := TupT.sameB tx' sC' hyB
        obtain ⟨flx, fsx⟩ := hfs fx fxm
        obtain ⟨fly, fsy⟩ := hfs fy fym
        have lpC := LP.but (LP.but lpA ng.1 hyA sB') ng.1 hyB sC'
        have ldC := sC' _ _ (sB' _ _ ldA nd.1) nd.1
        obtain ⟨zs, hzs, hzl⟩ := lpC.ls
        refine st_app (pu_v rfl) hzs (gv_pby (pa_c (pu_v rfl) (pa_c (pu_v rfl) pa_n)) txC ty' flx fly) ?_
        rintro vp HD ⟨sD, tp⟩
        obtain ⟨ys, hys, hyl, lpE⟩ := (lpC.same sD).snoc tp
        refine ⟨ys, hys, ?_, ?_⟩
        · rw [hyl]
          unfold ptsOf
          rw [List.length_map]
          exact small1000 (by omega)
        have hhE : HandAt (upd HD lg (.lst (ys ++ [vp]))) hd sc := (hhC.same sD).upd ng
        have txE := TupT.sameB (TupT.same txC sD) (SameB.upd (o := .lst (ys ++ [vp]))) hys
        have tyE := TupT.sameB (TupT.same ty' sD) (SameB.upd (o := .lst (ys ++ [vp]))) hys
        have ldE : (upd HD lg (.lst (ys ++ [vp]))) ld = some (.lst ((r.map fun p => shP p.1 p.2).map V.str)) := by
          rw [upd_ne d4.symm]
          exact sD _ _ ldC
        have frE := (frC.same sD).but g3 hys (SameB.upd (o := .lst (ys ++ [vp])))
        have s8E : SameB hd H8 (upd HD lg (.lst (ys ++ [vp]))) := fun b o e nb => by
          rw [upd_ne (ne_of_none e hlg)]
          exact sD _ _ (((sA'.trans sB').trans sC') b o e nb)
        revert hhE txE tyE ldE frE s8E lpE
        generalize upd HD lg (.lst (ys ++ [vp])) = HE
        intro lpE hhE txE tyE ldE frE s8E
        have lx := shF_len flx.b1 flx.b2
        have ly := shF_len fly.b1 fly.b2
        have lc : (Str.ofString ",").length = 1 := by decide +kernel
        have big : 10000 ≤ sizeLine := by decide
        refine st_app1 (R := fun v H' => v = .str (shP fx fy) ∧ HE = H') (pu_v rfl) ldE ((pu_addS (pu_addS (pu_ltext (pa_c (pu_v rfl) pa_n) txE flx) pu_c (by omega)) (pu_ltext (pa_c (pu_v rfl) pa_n) tyE fly) (by rw [app_len]; omega)).gv' ⟨rfl, rfl⟩) ?_
        rintro _ _ ⟨rfl, rfl⟩
        refine ⟨_, ldE, ?_, hhE.upd nd, ?_, frE.but d3 ldE SameB.upd, ⟨r ++ [(fx, fy)], ?_, ?_, ?_, ?_, ?_⟩, _, _, _, rfl⟩
        · rw [List.length_map, List.length_map]
          exact small1000 (by omega)
        · intro b o e nb
          rw [upd_ne (ne_of_none e hld8)]
          exact s8E b o e nb
        · rw [List.length_append, hrl]
          rfl
        · intro f hf
          rcases List.mem_append.mp hf with hf | hf
          · exact hfl f hf
          · rw [List.mem_singleton.mp hf]
            exact ⟨flx, fly⟩
        · intro f hf
          rcases List.mem_append.mp hf with hf | hf
          · exact hfS f hf
          · rw [List.mem_singleton.mp hf]
            exact ⟨fsx, fsy⟩
        · have e : ptsOf (r ++ [(fx, fy)]) = ptsOf r ++ [ptF fx fy] := by
            unfold ptsOf
            rw [List.map_append]
            rfl
          rw [e]
          exact LP.but lpE d4 ldE SameB.upd
        · rw [upd_same, List.map_append, List.map_append]
          rfl
      rintro σ HA ⟨hhA, sA', frA, ⟨r, hrl, hfl, hfS, lpA, ldA⟩, a', x', y', rfl⟩
      have good : GoodR r := ⟨fun z => by rw [z] at hrl; simp at hrl; omega, by omega, hfl, hfS⟩
      have bkA := bk8.hand hh8 sA' nr.1 nt.1
      have sHA : SameB hd H HA := (s5.trans s58).trans sA'
      refine st_rangeG1 (ga_cons (R1 := fun v H' => ∃ z : Int, v = .int z ∧ 1 ≤ z ∧ z ≤ 2 ∧ HandAt H' hd sc ∧ SameB hd HA H') (fun Q q => ?_) fun _ _ _ => ga_nil) ?_
      · refine pu_c (v := .int 1) _ (gv_draw (m := 6) hhA (pa_c (pu_v rfl) (pa_c pu_c pa_n)) (by decide) Bd.small _ ?_)
        rintro _ HB ⟨⟨z, rfl, z0, z1⟩, hhB, sB'⟩
        refine pu_c (v := .int 5) _ ⟨z, 5, rfl, rfl, ⟨by decide, Bd.small⟩, 1, z.fdiv 5, rfl, rfl, q _ _ ⟨_, rfl, ?_, ?_, hhB, sB'⟩⟩
        · rw [Int.fdiv_eq_ediv_of_nonneg _ (by decide)]
          omega
        · rw [Int.fdiv_eq_ediv_of_nonneg _ (by decide)]
          omega
      rintro _ HB ⟨_, _, q, rfl, ⟨z, rfl, z0, z1, hhB, sB'⟩, rfl, rfl⟩
      obtain ⟨yA, hyA⟩ := hhA.ls
      refine ⟨z, rfl, by omega, by omega, fun n σ H' => HandAt H' hd sc ∧ SameB hd H H' ∧ LP H' lg (ptsOf r) ∧ H' ld = some (.lst ((r.map fun p => shP p.1 p.2).map V.str)) ∧ (∃ rs' : List (List Fp), rs'.length = rs.length + n ∧ (∀ r ∈ rs', GoodR r) ∧ Bk H' lr lt hd rs') ∧ ∃ a x y : Option V, σ = [some (.ref hd), some (.ref lr), some (.ref lt), some (.int lg0), some (.int (0 + (i : Int))), some (.int mm), some (.ref lw), some (.ref lg), some (.ref ld), a, x, y], ⟨hhB, sHA.trans sB', LP.but lpA ng.1 hyA sB', sB' _ _ ldA nd.1, ⟨rs, rfl, hgood, bkA.hand hhA sB' nr.1 nt.1⟩, _, _, _, rfl⟩, ?_, ?_⟩
      · rintro n' σ HC hn' ⟨hhC, sC, lpC, ldC, ⟨rs', hrl', hg', bkC⟩, a', x', y', rfl⟩
        obtain ⟨zs, hzs, tz⟩ := id lpC
        obtain ⟨asC, brC, _, _, btC⟩ := id bkC
        obtain ⟨yC, hyC⟩ := hhC.ls
        refine st_app (R := fun v H' => ∃ a, HC a = none ∧ v = .ref a ∧ H' = upd HC a (.lst zs)) (pu_v rfl) brC (fun Q q => (pa_c (pu_v rfl) pa_n : PuA (tCons (tVar 7) tNil) _ _ [.ref lg]) _ ⟨lg, zs, rfl, .inl (SqL.of hzs), fun p hp => q _ _ ⟨p, hp, rfl, rfl⟩⟩) ?_
        rintro _ _ ⟨a, hna, rfl, rfl⟩
        have sU : Same HC (upd HC a (.lst zs)) := Same.upd hna
        have lpa : LP (upd HC a (.lst zs)) a (ptsOf r) := ⟨zs, upd_same, tz.mono fun _ _ t => TupT.same t sU⟩
        obtain ⟨xs, hxs, hxl, add⟩ := (bkC.same sU).add nrt lpa (ne_of_none brC hna).symm (ne_of_none btC hna).symm (ne_of_none hyC hna).symm
        refine ⟨xs, hxs, small1000 (by omega), ?_⟩
        obtain ⟨ts, hts, htl, bkD⟩ := add _ rfl
        have hhD : HandAt (upd (upd HC a (.lst zs)) lr (.lst (xs ++ [.ref a]))) hd sc := (hhC.same sU).upd nr
        have ldD : (upd (upd HC a (.lst zs)) lr (.lst (xs ++ [.ref a]))) ld = some (.lst ((r.map fun p => shP p.1 p.2).map V.str)) := by
          rw [upd_ne d1.symm]
          exact sU _ _ ldC
        have lpD := LP.but (lpC.same sU) g1.symm hxs (SameB.upd (o := .lst (xs ++ [.ref a])))
        have sD : SameB hd H (upd (upd HC a (.lst zs)) lr (.lst (xs ++ [.ref a]))) := fun b o e nb => by
          rw [upd_ne (ne_of_none e hlr)]
          exact sU _ _ (sC b o e nb)
        revert hts bkD hhD ldD lpD sD
        generalize upd (upd HC a (.lst zs)) lr (.lst (xs ++ [.ref a])) = HD
        intro hts bkD hhD ldD lpD sD
        refine st_app1 (R := fun v H' => v = .str (shR r) ∧ HD = H') (pu_v rfl) hts (gv_join (R := fun v H' => v = .ref ld ∧ HD = H') (fun _ => pu_c) ((pu_v rfl).gv' ⟨rfl, rfl⟩) ?_) ?_
        · rintro _ _ ⟨rfl, rfl⟩
          refine ⟨ld, _, rfl, ldD, joinOk_of (b := 1803) (m := 60) (fun t ht => ?_) (by rw [List.length_map]; omega) (by decide +kernel), rfl, rfl⟩
          obtain ⟨f, hf, rfl⟩ := List.mem_map.mp ht
          exact shP_len (hfl f hf).1 (hfl f hf).2
        · rintro _ _ ⟨rfl, rfl⟩
          refine ⟨ts, hts, small1000 (by omega), hhD.upd nt, fun b o e nb => ?_, LP.but lpD g2.symm hts SameB.upd, ?_, ⟨rs' ++ [r], by rw [List.length_append, hrl']; rfl, fun q hq => ?_, bkD⟩, _, _, _, rfl⟩
          · have : b ≠ lt := by
              intro z
              rw [z] at e
              rw [Same.upd hlr _ _ e] at hlt
              cases hlt
            rw [upd_ne this]
            exact sD b o e nb
          · rw [upd_ne d2.symm]
            exact ldD
          · rcases List.mem_append.mp hq with hq | hq
            · exact hg' q hq
            · rw [List.mem_singleton.mp hq]
              exact good
      · rintro σ HC ⟨hhC, sC, lpC, ldC, ⟨rs', hrl', hg', bkC⟩, a', x', y', rfl⟩
        exact ⟨hhC, sC, ⟨rs', by omega, fun _ z => by rw [z] at hrl'; simp at hrl'; omega, hg', bkC⟩, _, _, _, _, _, _, _, _, rfl⟩
    · rintro σ H5 ⟨hh5, s5, ⟨rs, hrs, hne, hgood, bk5⟩, a, b, c, d, e, f, x, y, rfl⟩
      obtain ⟨as5, br5, _, _, bt5⟩ := id bk5
      have rs0 : rs ≠ [] := hne (by omega)
      refine st_retG (gv_tupA (RA := fun vs H' => vs = [.ref lr, .str (shRs rs)] ∧ H5 = H') (R := fun v H' => ∃ a, v = .ref a ∧ H5 a = none ∧ H' = upd H5 a (.tup [.ref lr, .str (shRs rs)])) (fun Q q => ?_) ?_) ?_
      · refine pu_v (v := .ref lr) rfl _ (gv_join (K := K) (R := fun v H' => v = .ref lt ∧ H5 = H') (R' := fun v H' => v = .str (shRs rs) ∧ H5 = H') (fun _ => pu_c) ((pu_v rfl).gv' ⟨rfl, rfl⟩) ?_ _ ?_)
        · rintro _ _ ⟨rfl, rfl⟩
          refine ⟨lt, _, rfl, bt5, joinOk_of (b := 108240) (m := 20) (fun t ht => ?_) (by rw [List.length_map]; omega) (by decide +kernel), rfl, rfl⟩
          obtain ⟨r, hr', rfl⟩ := List.mem_map.mp ht
          exact shR_len (hgood r hr').2.2.1 (hgood r hr').2.1
        · rintro _ _ ⟨rfl, rfl⟩
          exact q _ _ ⟨rfl, rfl⟩
      · rintro _ _ ⟨rfl, rfl⟩
        exact ⟨by show 2 ≤ sizeLine; decide, fun p hp => ⟨p, rfl, hp, rfl⟩⟩
      · rintro _ _ ⟨p, rfl, hp, rfl⟩
        have sP : Same H5 (upd H5 p (.tup [.ref lr, .str (shRs rs)])) := Same.upd hp
        exact k p lr rs _ rs0 (by omega) hgood upd_same (bk5.rows.same sP) (hh5.same sP) nr (s5.trans sP.b)
def sp_l_told : Sp := fun vs H Q _ => ∃ l m pss, vs = [.ref l, .ref m] ∧ RgL H l pss ∧ RgL H m pss ∧ Q (.bl true) H
theorem sc_l_told : FnScope ["_law_found", "_law_due", "_law_ring", "_law_p"] ["_law_found", "_law_due"] (defScope s_l_told) := ⟨rfl, rfl, rfl, by decide +kernel, rfl, by decide +kernel, by decide +kernel⟩
theorem ok_l_told (T : Txt K mg t) : FnOk P w K mg base CX0 3 t.f_l_told t.d_l_told ["_law_found", "_law_due"] sp_l_told := by
  refine T.l_told.F.ok (k := 2) sc_l_told (fun vs H Q E h => ?_) (fun cdv A outer s H vs Q E hr h => ?_)
  · obtain ⟨l, m, pss, rfl, _⟩ := h
    rfl
  · obtain ⟨l, m, pss, rfl, hl, hm, k⟩ := h
    refine ⟨_, (@pss_cons _ _ _ _ _ (@ps_if _ _ _ _ _ _ _ _ (@pt_not _ _ _ _ (@pt_val _ _ _ (@pe_callB _ _ _ _ _ _ _ _ _ call_isinst (by rfl) T.b_isinstance PyProof.Rows.boot_isinstance (@pa_cons _ _ _ _ _ (pv 0) (@pa_cons _ _ _ _ _ (@pe_ty _ _ _ _ T.b_list PyProof.Rows.boot_list (by rfl) (by decide) (by decide)) (@pa_nil _) star_name) star_name) (by decide) (by decide) (by rfl) (by rfl)) (by intro _; rfl))) (@pss_one _ _ _ (@ps_ret _ _ _ _ (@pe_bl _ _ _ _))) (@pss_nil _)) (@pss_cons _ _ _ _ _ (@ps_for _ _ _ _ _ _ _ _ PassesOwn.never rfl (@pi_list _ _ _ _ (pv 0)) (@pg_name _ _ 2 _ sc_l_told.nd rfl (Or.inl rfl) (by first | exact .inl rfl | exact .inr rfl | assumption)) (@pss_cons _ _ _ _ _ (@ps_if _ _ _ _ _ _ _ _ (@pt_not _ _ _ _ (@pt_val _ _ _ (@pe_callB _ _ _ _ _ _ _ _ _ call_isinst (by rfl) T.b_isinstance PyProof.Rows.boot_isinstance (@pa_cons _ _ _ _ _ (pv 2) (@pa_cons _ _ _ _ _ (@pe_ty _ _ _ _ T.b_list PyProof.Rows.boot_list (by rfl) (by decide) (by decide)) (@pa_nil _) star_name) star_name) (by decide) (by decide) (by rfl) (by rfl)) (by intro _; rfl))) (@pss_one _ _ _ (@ps_ret _ _ _ _ (@pe_bl _ _ _ _))) (@pss_nil _)) (@pss_one _ _ _ (@ps_for _ _ _ _ _ _ _ _ PassesOwn.never rfl (@pi_list _ _ _ _ (pv 2)) (@pg_name _ _ 3 _ sc_l_told.nd rfl (Or.inl rfl) (by first | exact .inl rfl | exact .inr rfl | assumption)) (@pss_one _ _ _ (@ps_if _ _ _ _ _ _ _ _ (@pt_not _ _ _ _ (@pt_val _ _ _ (@pe_fn _ _ _ _ _ _ _ _ _ _ _ _ _ _ T.l_all_whole (ok_l_all_whole T) hr (by decide) (@pa_cons _ _ _ _ _ (pv 3) (@pa_cons _ _ _ _ _ (@pe_int _ _ _ _) (@pa_nil _) star_con) star_name) (by rfl) (by decide) (by rfl) (by rfl)) (by intro _; rfl))) (@pss_one _ _ _ (@ps_ret _ _ _ _ (@pe_bl _ _ _ _))) (@pss_nil _))) (by intro _; rfl)))) (by intro _; rfl)) (@pss_one _ _ _ (@ps_ret _ _ _ _ (@pe_cmpR _ _ _ _ _ _ _ _ (op_eqS hr.units) (pv 0) (pv 1) (nomark _)))))), ?_⟩
    obtain ⟨as, h1, h2⟩ := id hl
    refine st_ifN (pt_n (b := true) (pt_b (pu_isi (pa_c (pu_v rfl) (pa_c pu_c pa_n)) (.lst h1) kit_same))) (fun e => by cases e) fun _ => ?_
    refine st_list (K := K) (pu_v rfl) (fun _ σ H' => H = H' ∧ ∃ c d : Option V, σ = [some (.ref l), some (.ref m), c, d]) ⟨rfl, none, none, rfl⟩ (fun i σ H' _ ⟨e, _⟩ => by subst e; exact SqL.of h1) ?_ ?_
    · rintro i x σ _ hx ⟨rfl, c, d, rfl⟩
      rw [List.getElem?_map] at hx
      cases ha : as[i]? with
      | none => rw [ha] at hx; cases hx
      | some a =>
        rw [ha] at hx
        have ex : V.ref a = x := Option.some.inj hx
        subst ex
        obtain ⟨ps, _, ys, hy, ty⟩ := paired_get h2 ha
        refine st_ifN (pt_n (b := true) (pt_b (pu_isi (pa_c (pu_v rfl) (pa_c pu_c pa_n)) (.lst hy) kit_same))) (fun e => by cases e) fun _ => ?_
        refine st_list1 (K := K) (pu_v rfl) (fun _ σ H' => H = H' ∧ ∃ d : Option V, σ = [some (.ref l), some (.ref m), some (.ref a), d]) ⟨rfl, _, rfl⟩ (fun i σ H' _ ⟨e, _⟩ => by subst e; exact SqL.of hy) ?_ ?_
        · rintro j z σ _ hz ⟨rfl, d, rfl⟩
          obtain ⟨ns, hns, tz⟩ := paired_get ty hz
          rw [List.getElem?_map] at hns
          cases hp : ps[j]? with
          | none => rw [hp] at hns; cases hns
          | some p =>
            rw [hp] at hns
            have en : L3 p = ns := Option.some.inj hns
            subst en
            exact st_ifN1 (pt_n (b := true) (pt_b (pu_call (pa_c (pu_v rfl) (pa_c pu_c pa_n)) fun Q f => ⟨z, L3 p, rfl, tz, f⟩))) (fun e => by simp at e) fun _ => ⟨rfl, _, rfl⟩
        · rintro σ _ ⟨rfl, d, rfl⟩
          exact ⟨rfl, _, _, rfl⟩
    · rintro σ _ ⟨rfl, c, d, rfl⟩
      exact st_ret (pu_eqS (pu_v rfl) (pu_v rfl) hl.dat hm.dat) k
def sp_law (K : PySem.W.Frag) : Sp := fun vs H Q _ => ∃ (a : Addr) (ns : List Int), vs = [.ref a] ∧ SqL K H a (ns.map V.int) ∧ ns.length ≤ 63 ∧ ∀ H', Q (.bl true) H'
theorem ptOf_all : ∀ {r : List Fp}, (∀ f ∈ r, FrL f.1 ∧ FrL f.2) → Paired PtOf (ptsOf r) r
  | [], _ => .nil
  | f :: r, h => .cons ⟨rfl, h f (by simp)⟩ (ptOf_all fun g hg => h g (List.mem_cons_of_mem _ hg))
theorem ptOf_rows : ∀ {rs : List (List Fp)}, (∀ r ∈ rs, ∀ f ∈ r, FrL f.1 ∧ FrL f.2) → Paired (Paired PtOf) (rs.map ptsOf) rs
  | [], _ => .nil
  | r :: rs, h => .cons (ptOf_all (h r (by simp))) (ptOf_rows fun g hg => h g (List.mem_cons_of_mem _ hg))
theorem sc_law : FnScope ["_law_script", "_law_hand_here", "_law_due", "_law_text_here", "_law_rings", "_law_shown", "_law_found", "_law_far"] ["_law_script"] (defScope s_law) := ⟨rfl, rfl, rfl, by decide +kernel, rfl, by decide +kernel, by decide +kernel⟩
theorem ok_law (T : Txt K mg t) : FnOk P w K mg base CX0 7 t.f_law t.d_law ["_law_script"] (sp_law K) := by
  refine T.law.F.ok (k := 6) sc_law (fun vs H Q E h => ?_) (fun cdv A outer s H vs Q E hr h => ?_)
  · obtain ⟨a, ns, rfl, _⟩ := h
    rfl
  · obtain ⟨sa, ns, rfl, hS, hlen, k⟩ := h
    refine ⟨_, (@pss_cons _ _ _ _ _ (@ps_set _ _ 1 _ _ _ _ sc_law.nd rfl (Or.inl rfl) (@pe_fn _ _ _ _ _ _ _ _ _ _ _ _ _ _ T.l_hand (ok_l_hand T) hr (by decide) (@pa_cons _ _ _ _ _ (pv 0) (@pa_nil _) star_name) (by rfl) (by decide) (by rfl) (by rfl)) (by rfl) (by first | exact .inl rfl | exact .inr rfl | assumption)) (@pss_cons _ _ _ _ _ (@ps_asg _ _ _ _ _ _ (@pe_fn _ _ _ _ _ _ _ _ _ _ _ _ _ _ T.l_drawn (ok_l_drawn T) hr (by decide) (@pa_cons _ _ _ _ _ (pv 1) (@pa_nil _) star_name) (by rfl) (by decide) (by rfl) (by rfl)) (@pg_tup _ _ _ _ _ _ rfl (@pgs_cons _ _ _ _ _ (@pg_name _ _ 2 _ sc_law.nd rfl (Or.inl rfl) (by first | exact .inl rfl | exact .inr rfl | assumption)) (@pgs_cons _ _ _ _ _ (@pg_name _ _ 3 _ sc_law.nd rfl (Or.inl rfl) (by first | exact .inl rfl | exact .inr rfl | assumption)) (@pgs_nil _) (by rfl)) (by rfl)) (by rfl) (by rfl)) (by rfl) (by rfl) (by rfl)) (@pss_cons _ _ _ _ _ (@ps_setC _ 4 _ _ _ _ _ _ _ _ _ sc_law.nd rfl rfl (@cr_lcomp _ _ _ _ _ [] _ ["_law_ring"] _ (fun _ => [none]) _ _ rfl (@pi_list _ _ _ _ (pv 2)) (fun _ _ _ _ => pg_name (i := 0) (List.nodup_cons.mpr ⟨fun h => (nomatch h), List.nodup_nil⟩) rfl (Or.inl rfl) (.inr rfl)) (fun _ _ _ _ => (@pe_callTy _ _ _ _ _ _ _ _ _ (call_list_ofK (K := K) rfl) (by rfl) T.b_list PyProof.Rows.boot_list (@pa_cons _ _ _ _ _ (pv 0) (@pa_nil _) star_name) (by decide) (by decide) (by rfl) (by rfl))) (closureFor_none (by decide +kernel)) rfl (by decide +kernel) (by decide +kernel) (fun _ _ h => by cases h) (noCells (by rfl)) (fun _ _ => rfl) (fun _ i _ _ _ h => by cases i with | zero => cases h | succ i => simp at h) (by intro _; rfl)) (by rfl)) (@pss_cons _ _ _ _ _ (@ps_set _ _ 5 _ _ _ _ sc_law.nd rfl (Or.inl rfl) (@pe_fn _ _ _ _ _ _ _ _ _ _ _ _ _ _ T.show_rings (ok_show_rings T) hr (by decide) (@pa_cons _ _ _ _ _ (pv 4) (@pa_nil _) star_name) (by rfl) (by decide) (by rfl) (by rfl)) (by rfl) (by first | exact .inl rfl | exact .inr rfl | assumption)) (@pss_cons _ _ _ _ _ (@ps_if _ _ _ _ _ _ _ _ (PW.pt (@pw_or _ _ _ _ _ _ _ (@pt_not _ _ _ _ (@pt_val _ _ _ (@pe_callB _ _ _ _ _ _ _ _ _ call_isinst (by rfl) T.b_isinstance PyProof.Rows.boot_isinstance (@pa_cons _ _ _ _ _ (pv 5) (@pa_cons _ _ _ _ _ (@pe_ty _ _ _ _ T.b_str PyProof.Rows.boot_str (by rfl) (by decide) (by decide)) (@pa_nil _) star_name) star_name) (by decide) (by decide) (by rfl) (by rfl)) (by intro _; rfl))) (@pw_or _ _ _ _ _ _ _ (@pt_cmpR _ _ _ _ _ _ _ _ op_ne (pv 5) (pv 3) (nomark _)) (@pw_or1 _ _ _ _ (@pt_cmpR _ _ _ _ _ _ _ _ (op_neS hr.units) (pv 4) (pv 2) (nomark _)))))) (@pss_one _ _ _ (@ps_ret _ _ _ _ (@pe_bl _ _ _ _))) (@pss_nil _)) (@pss_cons _ _ _ _ _ (@ps_set _ _ 6 _ _ _ _ sc_law.nd rfl (Or.inl rfl) (@pe_fn _ _ _ _ _ _ _ _ _ _ _ _ _ _ T.read_rings (ok_read_rings T) hr (by decide) (@pa_cons _ _ _ _ _ (pv 3) (@pa_nil _) star_name) (by rfl) (by decide) (by rfl) (by rfl)) (by rfl) (by first | exact .inl rfl | exact .inr rfl | assumption)) (@pss_cons _ _ _ _ _ (@ps_if _ _ _ _ _ _ _ _ (@pt_not _ _ _ _ (@pt_val _ _ _ (@pe_fn _ _ _ _ _ _ _ _ _ _ _ _ _ _ T.l_told (ok_l_told T) hr (by decide) (@pa_cons _ _ _ _ _ (pv 6) (@pa_cons _ _ _ _ _ (pv 2) (@pa_nil _) star_name) star_name) (by rfl) (by decide) (by rfl) (by rfl)) (by intro _; rfl))) (@pss_one _ _ _ (@ps_ret _ _ _ _ (@pe_bl _ _ _ _))) (@pss_nil _)) (@pss_cons _ _ _ _ _ (@ps_expr _ _ _ _ (@pe_bm _ _ _ _ _ _ _ _ _ _ _ _ PySem.F.plainAttrs_list PySem.F.slot_list_append PySem.F.type_list_append mt_append (@pe_ix _ _ _ _ _ _ _ ix_list (pv 6) (@pe_un _ _ _ _ _ _ un_neg (@pe_int _ _ _ _)) (fun _ _ => rfl)) (@pa_cons _ _ _ _ _ (@pe_tup _ _ _ _ _ (@pa_cons _ _ _ _ _ (@pe_int _ _ _ _) (@pa_cons _ _ _ _ _ (@pe_int _ _ _ _) (@pa_cons _ _ _ _ _ (@pe_int _ _ _ _) (@pa_nil _) star_con) star_con) star_con)) (@pa_nil _) star_tup) (by rfl) (by rfl) (by rfl) (by rfl) (by rfl)) (by rfl)) (@pss_cons _ _ _ _ _ (@ps_if _ _ _ _ _ _ _ _ (@pt_cmpR _ _ _ _ _ _ _ _ (op_neS hr.units) (@pe_slice _ _ _ _ _ _ _ _ _ _ sl_list (pv 6) (@po_none _) (@po_some _ _ _ (@pe_un _ _ _ _ _ _ un_neg (@pe_int _ _ _ _)))) (@pe_slice _ _ _ _ _ _ _ _ _ _ sl_list (pv 2) (@po_none _) (@po_some _ _ _ (@pe_un _ _ _ _ _ _ un_neg (@pe_int _ _ _ _)))) (nomark _)) (@pss_one _ _ _ (@ps_ret _ _ _ _ (@pe_bl _ _ _ _))) (@pss_nil _)) (@pss_cons _ _ _ _ _ (@ps_expr _ _ _ _ (@pe_bm _ _ _ _ _ _ _ _ _ _ _ _ PySem.F.plainAttrs_list PySem.F.slot_list_append PySem.F.type_list_append mt_append (pv 6) (@pa_cons _ _ _ _ _ (@pe_lst _ _ _ _ (@pa_nil _)) (@pa_nil _) star_lst) (by rfl) (by rfl) (by rfl) (by rfl) (by rfl)) (by rfl)) (@pss_cons _ _ _ _ _ (@ps_set _ _ 7 _ _ _ _ sc_law.nd rfl (Or.inl rfl) (@pe_fn _ _ _ _ _ _ _ _ _ _ _ _ _ _ T.l_point_by (ok_l_point_by T) hr (by decide) (@pa_cons _ _ _ _ _ (@pe_tup _ _ _ _ _ (@pa_cons _ _ _ _ _ (@pe_op _ _ _ _ _ _ _ _ op_add (@pe_op _ _ _ _ _ _ _ _ op_pow (@pe_int _ _ _ _) (@pe_int _ _ _ _)) (@pe_fn _ _ _ _ _ _ _ _ _ _ _ _ _ _ T.l_draw (ok_l_draw T) hr (by decide) (@pa_cons _ _ _ _ _ (pv 1) (@pa_cons _ _ _ _ _ (@pe_op _ _ _ _ _ _ _ _ op_pow (@pe_int _ _ _ _) (@pe_int _ _ _ _)) (@pa_nil _) star_bin) star_name) (by rfl) (by decide) (by rfl) (by rfl))) (@pa_cons _ _ _ _ _ (@pe_int _ _ _ _) (@pa_nil _) star_con) star_bin)) (@pa_cons _ _ _ _ _ (@pe_tup _ _ _ _ _ (@pa_cons _ _ _ _ _ (@pe_un _ _ _ _ _ _ un_neg (@pe_int _ _ _ _)) (@pa_cons _ _ _ _ _ (@pe_int _ _ _ _) (@pa_nil _) star_con) star_un)) (@pa_nil _) star_tup) star_tup) (by rfl) (by decide) (by rfl) (by rfl)) (by rfl) (by first | exact .inl rfl | exact .inr rfl | assumption)) (@pss_cons _ _ _ _ _ (@ps_if _ _ _ _ _ _ _ _ (@pt_cmpR _ _ _ _ _ _ _ _ op_ne (@pe_fn _ _ _ _ _ _ _ _ _ _ _ _ _ _ T.show_rings (ok_show_rings T) hr (by decide) (@pa_cons _ _ _ _ _ (@pe_lst _ _ _ _ (@pa_cons _ _ _ _ _ (@pe_lst _ _ _ _ (@pa_cons _ _ _ _ _ (pv 7) (@pa_nil _) star_name)) (@pa_cons _ _ _ _ _ (@pe_ix _ _ _ _ _ _ _ ix_list (pv 4) (@pe_int _ _ _ _) (fun _ _ => rfl)) (@pa_nil _) star_sub) star_lst)) (@pa_nil _) star_lst) (by rfl) (by decide) (by rfl) (by rfl)) (@pe_op _ _ _ _ _ _ _ _ op_add_str (@pe_op _ _ _ _ _ _ _ _ op_add_str (@pe_callTy _ _ _ _ _ _ _ _ _ call_str_int (by rfl) T.b_str PyProof.Rows.boot_str (@pa_cons _ _ _ _ _ (@pe_op _ _ _ _ _ _ _ _ op_fdivB (@pe_ix _ _ _ _ _ _ _ ix_tup (pv 7) (@pe_int _ _ _ _) (fun _ _ => rfl)) (@pe_int _ _ _ _)) (@pa_nil _) star_bin) (by decide) (by decide) (by rfl) (by rfl)) (@pe_str _ _ _ _)) (@pe_ix _ _ _ _ _ _ _ ix_list (@pe_bm _ _ _ _ _ _ _ _ _ _ _ _ PySem.F.plainAttrs_str PySem.F.slot_str_split PySem.F.type_str_split mt_split (pv 3) (@pa_cons _ _ _ _ _ (@pe_str _ _ _ _) (@pa_nil _) star_con) (by rfl) (by rfl) (by rfl) (by rfl) (by rfl)) (@pe_int _ _ _ _) (fun _ _ => rfl))) (nomark _)) (@pss_one _ _ _ (@ps_ret _ _ _ _ (@pe_bl _ _ _ _))) (@pss_nil _)) (@pss_one _ _ _ (@ps_ret _ _ _ _ (@pe_and _ _ _ _ _ _ _ (@pe_fn _ _ _ _ _ _ _ _ _ _ _ _ _ _ T.l_told (ok_l_told T) hr (by decide) (@pa_cons _ _ _ _ _ (@pe_fn _ _ _ _ _ _ _ _ _ _ _ _ _ _ T.read_rings (ok_read_rings T) hr (by decide) (@pa_cons _ _ _ _ _ (pv 3) (@pa_nil _) star_name) (by rfl) (by decide) (by rfl) (by rfl)) (@pa_cons _ _ _ _ _ (pv 2) (@pa_nil _) star_name) star_call) (by rfl) (by decide) (by rfl) (by rfl)) (@pe_one _ _ _ _ _ (@pe_cmpR _ _ _ _ _ _ _ _ op_eq (@pe_fn _ _ _ _ _ _ _ _ _ _ _ _ _ _ T.show_rings (ok_show_rings T) hr (by decide) (@pa_cons _ _ _ _ _ (pv 4) (@pa_nil _) star_name) (by rfl) (by decide) (by rfl) (by rfl)) (pv 3) (nomark _)))))))))))))))))), ?_⟩
    refine st_setG (gv_call (R := fun v H' => ∃ hd sc, v = .ref hd ∧ HandAt H' hd sc) (pa_c (pu_v rfl) pa_n) fun Q f => ⟨sa, ns, rfl, hS, fun hd sc H' s n hh => f _ _ ⟨hd, sc, rfl, hh⟩⟩) ?_
    rintro _ H1 ⟨hd, sc, rfl, hh1⟩
    refine gv_call (sp := sp_l_drawn) (E := E0) (R := fun v H' => ∃ (a lr : Addr) (rs : List (List Fp)), v = .ref a ∧ rs ≠ [] ∧ rs.length ≤ 10 ∧ (∀ r ∈ rs, GoodR r) ∧ H' a = some (.tup [.ref lr, .str (shRs rs)]) ∧ RgL H' lr (rs.map ptsOf) ∧ HandAt H' hd sc) (pa_c (pu_v rfl) pa_n) (fun Q f => ⟨hd, sc, rfl, hh1, fun a lr rs H' h1 h2 h3 h4 h5 h6 _ _ => f _ _ ⟨a, lr, rs, rfl, h1, h2, h3, h4, h5, h6⟩⟩) _ ?_
    rintro _ H2 ⟨pa, lr, rs, rfl, rs0, rs10, good, hpa, rg2, hh2⟩
    refine ⟨pa, _, rfl, SqT.of hpa, rfl, _, _, rfl, _, _, rfl, rfl, ?_⟩
    have fr : ∀ r ∈ rs, ∀ f ∈ r, FrL f.1 ∧ FrL f.2 := fun r hr' => (good r hr').2.2.1
    have r60 : ∀ r ∈ rs, r.length ≤ 60 := fun r hr' => (good r hr').2.1
    refine st_setG (gv_lists (pu_v rfl) rg2 (by rw [List.length_map]; omega)) ?_
    rintro _ H3 ⟨s3, lq, rfl, hlq, rg3⟩
    have hh3 := hh2.same s3
    have due3 := rg2.same s3
    have SH : ∀ {σ : L2.St} {Hx : Hp} {i : Nat} {l : Addr}, σ[i]? = some (some (.ref l)) → RgL Hx l (rs.map ptsOf) → Gv (tCall sp_show_rings [] E0 (tCons (tVar i) tNil)) σ Hx (fun v H' => v = .str (shRs rs) ∧ Same Hx H') := fun h1 h2 => gv_call (pa_c (pu_v h1) pa_n) fun Q f => ⟨_, _, rs, rfl, h2, ptOf_rows fr, by omega, r60, fun H' s => f _ _ ⟨rfl, s⟩⟩
    refine st_setG (SH rfl rg3) ?_
    rintro _ H4 ⟨rfl, s4⟩
    have rg4 := rg3.same s4
    have due4 := due3.same s4
    have hh4 := hh3.same s4
    refine st_ifN (b := false) (fun Q q => ?_) (fun e => by cases e) fun _ => ?_
    · refine pt_or (b := false) (c := false) (pt_n (b := true) (pt_b (pu_isi (pa_c (pu_v rfl) (pa_c pu_c pa_n)) (.str _) kit_same))) (fun _ => pt_or (b := false) (c := false) ?_ fun _ => pt_t (pu_neS (pu_v rfl) (pu_v rfl) rg4.dat due4.dat)) _ q
      refine pt_t (pu_cast (pu_neStr (pu_v rfl) (pu_v rfl)) ?_)
      simp
    have RD : ∀ {σ : L2.St} {Hx : Hp}, σ[3]? = some (some (.str (shRs rs))) → Gv (tCall sp_read_rings [] E0 (tCons (tVar 3) tNil)) σ Hx (fun v H' => Same Hx H' ∧ ∃ (D : Addr) (as : List Addr), v = .ref D ∧ Hx D = none ∧ H' D = some (.lst (as.map V.ref)) ∧ Paired (LP H') as (rs.map ptsOf) ∧ as.Nodup ∧ ∀ b ∈ as, b ≠ D ∧ Hx b = none) := fun h1 => gv_call (pa_c (pu_v h1) pa_n) fun Q f => ⟨rs, rfl, rs0, by omega, good, fun D as H' s a1 a2 a3 a4 a5 => f _ _ ⟨s, D, as, rfl, a1, a2, a3, a4, a5⟩⟩
    refine st_setG (RD rfl) ?_
    rintro _ H5 ⟨s5, D, as, rfl, hD4, hD5, pr5, nod, hfr⟩
    have rg5 := rg4.same s5
    have due5 := due4.same s5
    have hh5 := hh4.same s5
    refine st_notTru (R := fun H' => H5 = H') (gv_call (pa_c (pu_v rfl) (pa_c (pu_v rfl) pa_n)) fun Q f => ⟨D, lr, _, rfl, ⟨as, hD5, pr5⟩, due5, f _ _ ⟨rfl, rfl⟩⟩) ?_
    rintro _ rfl
    obtain ⟨bs, al, rfl⟩ : ∃ bs al, as = bs ++ [al] := by
      rcases List.eq_nil_or_concat as with z | ⟨bs, al, z⟩
      · have := paired_len pr5
        rw [z, List.length_map] at this
        exact absurd (List.length_eq_zero_iff.mp this.symm) rs0
      · exact ⟨bs, al, by rw [z, List.concat_eq_append]⟩
    obtain ⟨qs, ql, eq, prb, lal⟩ := paired_unsnoc pr5
    obtain ⟨nal, al4⟩ := hfr al (by simp)
    have hbs : ∀ b ∈ bs, b ≠ al := fun b hb z => by
      rw [List.nodup_append] at nod
      exact nod.2.2 b hb al (by simp) z
    obtain ⟨ysl, hal5, _⟩ := id lal
    have eat : atI ((bs ++ [al]).map V.ref) (-1) = some (.ref al) := by rw [List.map_append]; exact L2.atI_last _ _
    refine st_app (pu_ixL (pu_v rfl) (pu_neg pu_c) (SqL.of hD5) eat) hal5 (gv_tup (pa_c pu_c (pa_c pu_c (pa_c pu_c pa_n))) (by show 3 ≤ sizeLine; decide)) ?_
    rintro _ _ ⟨pt, hpt, rfl, rfl⟩
    have sT : Same H5 (upd H5 pt (.tup [.int 0, .int 0, .int 1])) := Same.upd hpt
    refine ⟨ysl, sT _ _ hal5, ?_, ?_⟩
    · have h1 : ysl.length = ql.length := by
        obtain ⟨zs, hz, hzl⟩ := lal.ls
        rw [hal5] at hz
        cases hz
        exact hzl
      have h2 : ql ∈ rs.map ptsOf := by rw [eq]; simp
      obtain ⟨r, hr', rfl⟩ := List.mem_map.mp h2
      have := r60 r hr'
      unfold ptsOf at h1
      rw [List.length_map] at h1
      exact small1000 (by omega)
    have s46 : Same H4 (upd (upd H5 pt (.tup [.int 0, .int 0, .int 1])) al (.lst (ysl ++ [.ref pt]))) := fun b o e => by
      rw [upd_ne (ne_of_none e al4)]
      exact sT _ _ (s5 _ _ e)
    have hD6 : (upd (upd H5 pt (.tup [.int 0, .int 0, .int 1])) al (.lst (ysl ++ [.ref pt]))) D = some (.lst (bs.map V.ref ++ [.ref al])) := by
      rw [upd_ne nal.symm, sT _ _ hD5, List.map_append]
      rfl
    have prb6 : Paired (LP (upd (upd H5 pt (.tup [.int 0, .int 0, .int 1])) al (.lst (ysl ++ [.ref pt])))) bs qs := paired_keep prb fun b hb q z => LP.but (z.same sT) (hbs b hb) (sT _ _ hal5) SameB.upd
    revert s46 hD6 prb6
    generalize upd (upd H5 pt (.tup [.int 0, .int 0, .int 1])) al (.lst (ysl ++ [.ref pt])) = H6
    intro s46 hD6 prb6
    obtain ⟨asd, hlr6, prd6⟩ := due4.same s46
    rw [eq] at prd6
    obtain ⟨cs, cl, rfl, prc6, _⟩ := paired_unsnoc' prd6
    have hlr6' : H6 lr = some (.lst (cs.map V.ref ++ [.ref cl])) := by rw [hlr6, List.map_append]; rfl
    refine st_ifNG (R := fun b H' => b = false ∧ Same H6 H') (fun Q q => gv_init (K := K) (pu_v rfl) hD6 _ ?_) (fun _ e => by cases e.1) ?_
    · rintro _ _ ⟨p1, hp1, rfl, rfl⟩
      have t1 : Same H6 (upd H6 p1 (.lst (bs.map V.ref))) := Same.upd hp1
      refine gv_init (K := K) (pu_v rfl) (t1 _ _ hlr6') _ ?_
      rintro _ _ ⟨p2, hp2, rfl, rfl⟩
      have t2 := t1.trans (Same.upd (o := .lst (cs.map V.ref)) hp2)
      have ra : RgL (upd (upd H6 p1 (.lst (bs.map V.ref))) p2 (.lst (cs.map V.ref))) p1 qs := ⟨bs, Same.upd hp2 _ _ upd_same, paired_mono prb6 fun _ _ x => x.same t2⟩
      have rb : RgL (upd (upd H6 p1 (.lst (bs.map V.ref))) p2 (.lst (cs.map V.ref))) p2 qs := ⟨cs, upd_same, paired_mono prc6 fun _ _ x => x.same t2⟩
      exact ⟨dR qs, ra.dat, rb.dat, ⟨false, rfl, q _ _ ⟨rfl, t2⟩⟩⟩
    rintro H7 ⟨_, s67⟩
    have s47 := s46.trans s67
    refine st_app (pu_v rfl) (s67 _ _ hD6) (gv_lst pa_n (Nat.zero_le _)) ?_
    rintro _ _ ⟨pe, hpe, rfl, rfl⟩
    have sE : Same H7 (upd H7 pe (.lst [])) := Same.upd hpe
    refine ⟨_, sE _ _ (s67 _ _ hD6), ?_, ?_⟩
    · have := paired_len prb6
      have h2 : (rs.map ptsOf).length = qs.length + 1 := by rw [eq, List.length_append]; rfl
      rw [List.length_map] at h2
      rw [List.length_append, List.length_map]
      exact small1000 (by simp only [List.length_cons, List.length_nil]; omega)
    have s48 : Same H4 (upd (upd H7 pe (.lst [])) D (.lst (bs.map V.ref ++ [.ref al] ++ [.ref pe]))) := fun b o e => by
      rw [upd_ne (ne_of_none e hD4)]
      exact sE _ _ (s47 _ _ e)
    revert s48
    generalize upd (upd H7 pe (.lst [])) D (.lst (bs.map V.ref ++ [.ref al] ++ [.ref pe])) = H8
    intro s48
    have hh8 := hh4.same s48
    have P60 : ∀ {σ : L2.St} {H' : Hp}, Pu (tOp (rI CPow fun i j => .int (i ^ j.toNat)) (tC (.int 10)) (tC (.int 60))) σ H' (.int (10 ^ 60)) := pu_pow pu_c pu_c ⟨by decide, by decide, by decide⟩
    have P40 : ∀ {σ : L2.St} {H' : Hp}, Pu (tOp (rI CPow fun i j => .int (i ^ j.toNat)) (tC (.int 10)) (tC (.int 40))) σ H' (.int (10 ^ 40)) := pu_pow pu_c pu_c ⟨by decide, by decide, by decide⟩
    have B40 : Bd 9000 (10 ^ 40 : Int) := by unfold Bd; decide +kernel
    have two : ([] : List V).length + 2 ≤ sizeLine := by decide
    refine st_setG (R := fun v H' => ∃ N : Int, FrL (N, 1) ∧ AtP H' v (ptF (N, 1) (-1, 7)) ∧ HandAt H' hd sc ∧ SameB hd H8 H') (gv_callA (sp := sp_l_point_by) (E := E0) (RA := fun vs H' => ∃ v w N, vs = [v, w] ∧ FrL (N, 1) ∧ TupT H' v [N, 1] ∧ TupT H' w [-1, 7] ∧ HandAt H' hd sc ∧ SameB hd H8 H') (fun Q q => ?_) ?_) ?_
    · refine gv_tupA (R := fun v H' => ∃ N : Int, FrL (N, 1) ∧ TupT H' v [N, 1] ∧ HandAt H' hd sc ∧ SameB hd H8 H') (RA := fun vs H' => ∃ N : Int, vs = [.int N, .int 1] ∧ FrL (N, 1) ∧ HandAt H' hd sc ∧ SameB hd H8 H') (fun Q g => ?_) ?_ _ ?_
      · refine P60 _ (gv_draw hh8 (pa_c (pu_v rfl) (pa_c P40 pa_n)) (by decide) B40 _ ?_)
        rintro _ H9 ⟨⟨z, rfl, z0, z1⟩, hh9, s9⟩
        refine ⟨10 ^ 60, z, rfl, rfl, g _ _ ⟨_, rfl, ⟨show (0 : Int) < 1 by decide, Int.gcd_one_right .., ?_, show (1 : Int).natAbs < 2 ^ 400 by decide +kernel⟩, hh9, s9⟩⟩
        unfold Bd
        have h1 : (10 : Int) ^ 60 + 10 ^ 40 < 2 ^ 300 := by decide +kernel
        have h2 : (2 : Nat) ^ 300 < 2 ^ 400 := by decide +kernel
        show (10 ^ 60 + z : Int).natAbs < 2 ^ 400
        omega
      · rintro _ H9 ⟨N, rfl, fl, hh9, s9⟩
        exact ⟨two, fun p hp => ⟨N, fl, TupT.of (ns := [N, 1]) upd_same, hh9.same (Same.upd hp), s9.trans (Same.upd hp).b⟩⟩
      · rintro v H9 ⟨N, fl, tv, hh9, s9⟩
        refine gv_tup (pa_c (pu_neg pu_c) (pa_c pu_c pa_n)) two _ ?_
        rintro _ _ ⟨p, hp, rfl, rfl⟩
        exact q _ _ ⟨v, .ref p, N, rfl, fl, tv.same (Same.upd hp), TupT.of (ns := [-1, 7]) upd_same, hh9.same (Same.upd hp), s9.trans (Same.upd hp).b⟩
    · rintro _ H9 ⟨v, w, N, rfl, fl, tv, tw, hh9, s9⟩ Q q
      exact ⟨v, w, (N, 1), (-1, 7), rfl, tv, tw, fl, ⟨by decide, by decide, by unfold Bd; decide +kernel, by unfold Bd; decide +kernel⟩, fun r H' s t => q _ _ ⟨N, fl, t, hh9.same s, s9.trans s.b⟩⟩
    rintro vf H9 ⟨N, flN, tf, hh9, s9⟩
    have fl7 : FrL ((-1, 7) : Int × Int) := ⟨by decide, by decide, by unfold Bd; decide +kernel, by unfold Bd; decide +kernel⟩
    have due9 := (due4.same s48).hand hh8 s9
    have rg9 := (rg4.same s48).hand hh8 s9
    obtain ⟨r0, rt, ers⟩ : ∃ r0 rt, rs = r0 :: rt := by
      cases rs with
      | nil => exact absurd rfl rs0
      | cons r0 rt => exact ⟨r0, rt, rfl⟩
    have hr0 : r0 ∈ rs := by rw [ers]; simp
    have fr0 := fr r0 hr0
    have rr0 := r60 r0 hr0
    obtain ⟨asq, hq9, prq9⟩ := id rg9
    rw [ers] at prq9
    obtain ⟨a0, ar, rfl, lp0⟩ : ∃ a0 ar, asq = a0 :: ar ∧ LP H9 a0 (ptsOf r0) := by
      cases prq9 with
      | cons h t => exact ⟨_, _, rfl, h⟩
    have bigS : 10000000 ≤ sizeLine := by decide
    have spl : Txt.split (shRs rs) (Str.ofString " | ") = rs.map shR := split_shRs rs0
    have slen := shRs_len (fun r hr' => ⟨fr r hr', r60 r hr'⟩) (show rs.length ≤ 20 by omega)
    have ext : shRs [[((N, 1), (-1, 7))], r0] = tx N ++ Str.ofString ",-1/7 | " ++ shR r0 := far_text N (shR r0)
    refine st_ifNG (R := fun b H' => b = false ∧ Same H9 H') (fun Q q => ?_) (fun _ e => by cases e.1) ?_
    · refine gv_callA (sp := sp_show_rings) (E := E0) (R := fun v H' => v = .str (shRs [[((N, 1), (-1, 7))], r0]) ∧ Same H9 H') (RA := fun vs H' => Same H9 H' ∧ ∃ l, vs = [.ref l] ∧ RgL H' l [[ptF (N, 1) (-1, 7)], ptsOf r0]) (fun Q q => ?_) ?_ _ ?_
      · refine gv_lstA (R := fun v H' => Same H9 H' ∧ ∃ l, v = .ref l ∧ RgL H' l [[ptF (N, 1) (-1, 7)], ptsOf r0]) (RA := fun vs H' => Same H9 H' ∧ ∃ lf, vs = [.ref lf, .ref a0] ∧ LP H' lf [ptF (N, 1) (-1, 7)]) (fun Q g => ?_) ?_ _ ?_
        · refine gv_lst (pa_c (pu_v rfl) pa_n) (by show 1 ≤ sizeLine; decide) _ ?_
          rintro _ _ ⟨lf, hlf, rfl, rfl⟩
          have sL : Same H9 (upd H9 lf (.lst [vf])) := Same.upd hlf
          refine pu_ixL (pu_v rfl) pu_c (SqL.of (sL _ _ hq9)) (atI_nat (j := 0) rfl) _ (g _ _ ⟨sL, lf, rfl, [vf], upd_same, .cons (TupT.same tf sL) .nil⟩)
        · rintro _ HA ⟨sA, lf, rfl, lpf⟩
          refine ⟨two, fun p hp => ⟨sA.trans (Same.upd hp), p, rfl, [lf, a0], upd_same, .cons (lpf.same (Same.upd hp)) (.cons (lp0.same (sA.trans (Same.upd hp))) .nil)⟩⟩
        · rintro _ HA ⟨sA, l, rfl, rgA⟩
          exact q _ _ ⟨sA, l, rfl, rgA⟩
      · rintro _ HA ⟨sA, l, rfl, rgA⟩ Q g
        refine ⟨l, _, _, rfl, rgA, .cons (.cons ⟨rfl, flN, fl7⟩ .nil) (.cons (ptOf_all fr0) .nil), by show 2 ≤ 20; decide, fun r hr' => ?_, fun H' s => g _ _ ⟨rfl, sA.trans s⟩⟩
        rcases List.mem_cons.mp hr' with rfl | hr'
        · show 1 ≤ 60
          decide
        · rw [List.mem_singleton.mp hr']
          exact rr0
      · rintro _ HA ⟨rfl, sA⟩
        obtain ⟨pf, rfl, hpf⟩ := TupT.same tf sA
        have lN : (tx N).length ≤ 450 := tx_len4 flN.b1
        have lr0 := shR_len fr0 rr0
        have lk : (Str.ofString ",-1/7 | ").length = 8 := by decide +kernel
        have e7 : (ptF (N, 1) (-1, 7)).x.fdiv 7 = N := by
          rw [far_pt]
          show (N * 7).fdiv 7 = N
          exact Int.mul_fdiv_cancel N (by decide)
        have B7 : CDivB (ptF (N, 1) (-1, 7)).x 7 := ⟨by decide, by unfold Bd; decide +kernel⟩
        have e0 : atI ((rs.map shR).map V.str) 0 = some (.str (shR r0)) := by
          rw [ers]
          exact atI_nat (j := 0) rfl
        refine gv_addS (R := fun v H' => v = .str (shR r0) ∧ Same HA H') (R' := fun v H' => v = .str (tx N ++ Str.ofString ",-1/7 | " ++ shR r0) ∧ Same HA H') (pu_addS (x := tx N) (y := Str.ofString ",-1/7 | ") (pu_strI (i := N) (pa_c (pu_cast (v := .int ((ptF (N, 1) (-1, 7)).x.fdiv 7)) (pu_fdiv (pu_ixT (i := 0) (pu_v rfl) pu_c (SqT.of hpf) rfl) pu_c B7) (by rw [e7])) pa_n) (flN.b1.mono (by decide))) pu_c (by omega)) (gv_ixG (gv_split (pu_v rfl) pu_c (by decide +kernel) (by omega) spl (by rw [List.length_map]; omega)) ?_) ?_ _ ?_
        · rintro _ _ ⟨ps, hps, rfl, rfl⟩
          exact ⟨ps, _, _, rfl, upd_same, e0, rfl, Same.upd hps⟩
        · rintro _ HC ⟨rfl, sC⟩
          exact ⟨_, rfl, by rw [app_len]; omega, rfl, sC⟩
        · rintro _ HC ⟨rfl, sC⟩
          refine ⟨rfl, ?_⟩
          rw [ext]
          have : (!decide (V.str (tx N ++ Str.ofString ",-1/7 | " ++ shR r0) = V.str (tx N ++ Str.ofString ",-1/7 | " ++ shR r0))) = false := by simp
          rw [this]
          exact ⟨false, rfl, q _ _ ⟨rfl, sA.trans sC⟩⟩
    rintro HB ⟨_, sB⟩
    have dueB := due9.same sB
    have rgB := rg9.same sB
    refine st_retG (R := fun v _ => v = .bl true) (gv_andG (R := fun v H' => v = .bl true ∧ Same HB H') (gv_callA (sp := sp_l_told) (E := E0) (RA := fun vs H' => Same HB H' ∧ ∃ D', vs = [.ref D', .ref lr] ∧ RgL H' D' (rs.map ptsOf)) (fun Q q => ?_) ?_) ?_) ?_
    · refine RD rfl _ ?_
      rintro _ HC ⟨sC, D', as', rfl, _, h1, h2, _, _⟩
      exact pu_v (v := .ref lr) rfl _ (q _ _ ⟨sC, D', rfl, as', h1, h2⟩)
    · rintro _ HC ⟨sC, D', rfl, rgD⟩ Q q
      exact ⟨D', lr, _, rfl, rgD, dueB.same sC, q _ _ ⟨rfl, sC⟩⟩
    · rintro _ HC ⟨rfl, sC⟩
      refine ⟨true, rfl, fun _ => fun Q q => SH rfl (rgB.same sC) _ ?_, fun e => by cases e⟩
      rintro _ HD ⟨rfl, sD⟩
      refine pu_v (v := .str (shRs rs)) rfl _ ⟨rfl, ?_⟩
      have : decide (V.str (shRs rs) = V.str (shRs rs)) = true := by simp
      rw [this]
      exact q _ _ rfl
    · rintro _ HC rfl
      exact k _
end
theorem all_mk {l : PySem.W.OpenLaw} {w : World} {K : PySem.W.Frag} {h : Heap} {mg : Str → Option Value} {fa : Addr} (X : K.In h) (G : h.Ns mainGlobals mg) (hfa : mg "law" = some (.ref fa))
    {f0 : Addr} {od0 an0 : Option Addr} {sl0 : Array (Option Value)} {oc0 kV0 dc0 pm0 cd0 ct0 : Value}
    (a0 : PySem.W.nsIn K mainGlobals "is_whole" = some (some (.ref f0))) (l0 : K.lookup f0 = some ⟨oc0, od0, .func (PySem.W.fnOf "is_whole" "is_whole" (defArgs s_is_whole) (defBody s_is_whole) (defScope s_is_whole) .none kV0 dc0 pm0 an0 cd0 ct0), sl0⟩) (c0 : PySem.W.codeIn K cd0 "is_whole" = true) (k0 : PySem.W.keepIn K (.ref f0) = true)
    {f1 : Addr} {od1 an1 : Option Addr} {sl1 : Array (Option Value)} {oc1 kV1 dc1 pm1 cd1 ct1 : Value}
    (a1 : PySem.W.nsIn K mainGlobals "divisor_of" = some (some (.ref f1))) (l1 : K.lookup f1 = some ⟨oc1, od1, .func (PySem.W.fnOf "divisor_of" "divisor_of" (defArgs s_divisor_of) (defBody s_divisor_of) (defScope s_divisor_of) .none kV1 dc1 pm1 an1 cd1 ct1), sl1⟩) (c1 : PySem.W.codeIn K cd1 "divisor_of" = true) (k1 : PySem.W.keepIn K (.ref f1) = true)
    {f2 : Addr} {od2 an2 : Option Addr} {sl2 : Array (Option Value)} {oc2 kV2 dc2 pm2 cd2 ct2 : Value}
    (a2 : PySem.W.nsIn K mainGlobals "fraction" = some (some (.ref f2))) (l2 : K.lookup f2 = some ⟨oc2, od2, .func (PySem.W.fnOf "fraction" "fraction" (defArgs s_fraction) (defBody s_fraction) (defScope s_fraction) .none kV2 dc2 pm2 an2 cd2 ct2), sl2⟩) (c2 : PySem.W.codeIn K cd2 "fraction" = true) (k2 : PySem.W.keepIn K (.ref f2) = true)
    {f3 : Addr} {od3 an3 : Option Addr} {sl3 : Array (Option Value)} {oc3 kV3 dc3 pm3 cd3 ct3 : Value}
    (a3 : PySem.W.nsIn K mainGlobals "is_fraction" = some (some (.ref f3))) (l3 : K.lookup f3 = some ⟨oc3, od3, .func (PySem.W.fnOf "is_fraction" "is_fraction" (defArgs s_is_fraction) (defBody s_is_fraction) (defScope s_is_fraction) .none kV3 dc3 pm3 an3 cd3 ct3), sl3⟩) (c3 : PySem.W.codeIn K cd3 "is_fraction" = true) (k3 : PySem.W.keepIn K (.ref f3) = true)
    {f4 : Addr} {od4 an4 : Option Addr} {sl4 : Array (Option Value)} {oc4 kV4 dc4 pm4 cd4 ct4 : Value}
    (a4 : PySem.W.nsIn K mainGlobals "point_by" = some (some (.ref f4))) (l4 : K.lookup f4 = some ⟨oc4, od4, .func (PySem.W.fnOf "point_by" "point_by" (defArgs s_point_by) (defBody s_point_by) (defScope s_point_by) .none kV4 dc4 pm4 an4 cd4 ct4), sl4⟩) (c4 : PySem.W.codeIn K cd4 "point_by" = true) (k4 : PySem.W.keepIn K (.ref f4) = true)
    {f5 : Addr} {od5 an5 : Option Addr} {sl5 : Array (Option Value)} {oc5 kV5 dc5 pm5 cd5 ct5 : Value}
    (a5 : PySem.W.nsIn K mainGlobals "point_of" = some (some (.ref f5))) (l5 : K.lookup f5 = some ⟨oc5, od5, .func (PySem.W.fnOf "point_of" "point_of" (defArgs s_point_of) (defBody s_point_of) (defScope s_point_of) .none kV5 dc5 pm5 an5 cd5 ct5), sl5⟩) (c5 : PySem.W.codeIn K cd5 "point_of" = true) (k5 : PySem.W.keepIn K (.ref f5) = true)
    {f6 : Addr} {od6 an6 : Option Addr} {sl6 : Array (Option Value)} {oc6 kV6 dc6 pm6 cd6 ct6 : Value}
    (a6 : PySem.W.nsIn K mainGlobals "x_of" = some (some (.ref f6))) (l6 : K.lookup f6 = some ⟨oc6, od6, .func (PySem.W.fnOf "x_of" "x_of" (defArgs s_x_of) (defBody s_x_of) (defScope s_x_of) .none kV6 dc6 pm6 an6 cd6 ct6), sl6⟩) (c6 : PySem.W.codeIn K cd6 "x_of" = true) (k6 : PySem.W.keepIn K (.ref f6) = true)
    {f7 : Addr} {od7 an7 : Option Addr} {sl7 : Array (Option Value)} {oc7 kV7 dc7 pm7 cd7 ct7 : Value}
    (a7 : PySem.W.nsIn K mainGlobals "y_of" = some (some (.ref f7))) (l7 : K.lookup f7 = some ⟨oc7, od7, .func (PySem.W.fnOf "y_of" "y_of" (defArgs s_y_of) (defBody s_y_of) (defScope s_y_of) .none kV7 dc7 pm7 an7 cd7 ct7), sl7⟩) (c7 : PySem.W.codeIn K cd7 "y_of" = true) (k7 : PySem.W.keepIn K (.ref f7) = true)
    {f8 : Addr} {od8 an8 : Option Addr} {sl8 : Array (Option Value)} {oc8 kV8 dc8 pm8 cd8 ct8 : Value}
    (a8 : PySem.W.nsIn K mainGlobals "show_fraction" = some (some (.ref f8))) (l8 : K.lookup f8 = some ⟨oc8, od8, .func (PySem.W.fnOf "show_fraction" "show_fraction" (defArgs s_show_fraction) (defBody s_show_fraction) (defScope s_show_fraction) .none kV8 dc8 pm8 an8 cd8 ct8), sl8⟩) (c8 : PySem.W.codeIn K cd8 "show_fraction" = true) (k8 : PySem.W.keepIn K (.ref f8) = true)
    {f9 : Addr} {od9 an9 : Option Addr} {sl9 : Array (Option Value)} {oc9 kV9 dc9 pm9 cd9 ct9 : Value}
    (a9 : PySem.W.nsIn K mainGlobals "show_point" = some (some (.ref f9))) (l9 : K.lookup f9 = some ⟨oc9, od9, .func (PySem.W.fnOf "show_point" "show_point" (defArgs s_show_point) (defBody s_show_point) (defScope s_show_point) .none kV9 dc9 pm9 an9 cd9 ct9), sl9⟩) (c9 : PySem.W.codeIn K cd9 "show_point" = true) (k9 : PySem.W.keepIn K (.ref f9) = true)
    {f10 : Addr} {od10 an10 : Option Addr} {sl10 : Array (Option Value)} {oc10 kV10 dc10 pm10 cd10 ct10 : Value}
    (a10 : PySem.W.nsIn K mainGlobals "show_ring" = some (some (.ref f10))) (l10 : K.lookup f10 = some ⟨oc10, od10, .func (PySem.W.fnOf "show_ring" "show_ring" (defArgs s_show_ring) (defBody s_show_ring) (defScope s_show_ring) .none kV10 dc10 pm10 an10 cd10 ct10), sl10⟩) (c10 : PySem.W.codeIn K cd10 "show_ring" = true) (k10 : PySem.W.keepIn K (.ref f10) = true)
    {f11 : Addr} {od11 an11 : Option Addr} {sl11 : Array (Option Value)} {oc11 kV11 dc11 pm11 cd11 ct11 : Value}
    (a11 : PySem.W.nsIn K mainGlobals "show_rings" = some (some (.ref f11))) (l11 : K.lookup f11 = some ⟨oc11, od11, .func (PySem.W.fnOf "show_rings" "show_rings" (defArgs s_show_rings) (defBody s_show_rings) (defScope s_show_rings) .none kV11 dc11 pm11 an11 cd11 ct11), sl11⟩) (c11 : PySem.W.codeIn K cd11 "show_rings" = true) (k11 : PySem.W.keepIn K (.ref f11) = true)
    {f12 : Addr} {od12 an12 : Option Addr} {sl12 : Array (Option Value)} {oc12 kV12 dc12 pm12 cd12 ct12 : Value}
    (a12 : PySem.W.nsIn K mainGlobals "check_text" = some (some (.ref f12))) (l12 : K.lookup f12 = some ⟨oc12, od12, .func (PySem.W.fnOf "check_text" "check_text" (defArgs s_check_text) (defBody s_check_text) (defScope s_check_text) .none kV12 dc12 pm12 an12 cd12 ct12), sl12⟩) (c12 : PySem.W.codeIn K cd12 "check_text" = true) (k12 : PySem.W.keepIn K (.ref f12) = true)
    {f13 : Addr} {od13 an13 : Option Addr} {sl13 : Array (Option Value)} {oc13 kV13 dc13 pm13 cd13 ct13 : Value}
    (a13 : PySem.W.nsIn K mainGlobals "read_whole" = some (some (.ref f13))) (l13 : K.lookup f13 = some ⟨oc13, od13, .func (PySem.W.fnOf "read_whole" "read_whole" (defArgs s_read_whole) (defBody s_read_whole) (defScope s_read_whole) .none kV13 dc13 pm13 an13 cd13 ct13), sl13⟩) (c13 : PySem.W.codeIn K cd13 "read_whole" = true) (k13 : PySem.W.keepIn K (.ref f13) = true)
    {f14 : Addr} {od14 an14 : Option Addr} {sl14 : Array (Option Value)} {oc14 kV14 dc14 pm14 cd14 ct14 : Value}
    (a14 : PySem.W.nsIn K mainGlobals "read_fraction" = some (some (.ref f14))) (l14 : K.lookup f14 = some ⟨oc14, od14, .func (PySem.W.fnOf "read_fraction" "read_fraction" (defArgs s_read_fraction) (defBody s_read_fraction) (defScope s_read_fraction) .none kV14 dc14 pm14 an14 cd14 ct14), sl14⟩) (c14 : PySem.W.codeIn K cd14 "read_fraction" = true) (k14 : PySem.W.keepIn K (.ref f14) = true)
    {f15 : Addr} {od15 an15 : Option Addr} {sl15 : Array (Option Value)} {oc15 kV15 dc15 pm15 cd15 ct15 : Value}
    (a15 : PySem.W.nsIn K mainGlobals "read_point" = some (some (.ref f15))) (l15 : K.lookup f15 = some ⟨oc15, od15, .func (PySem.W.fnOf "read_point" "read_point" (defArgs s_read_point) (defBody s_read_point) (defScope s_read_point) .none kV15 dc15 pm15 an15 cd15 ct15), sl15⟩) (c15 : PySem.W.codeIn K cd15 "read_point" = true) (k15 : PySem.W.keepIn K (.ref f15) = true)
    {f16 : Addr} {od16 an16 : Option Addr} {sl16 : Array (Option Value)} {oc16 kV16 dc16 pm16 cd16 ct16 : Value}
    (a16 : PySem.W.nsIn K mainGlobals "read_ring" = some (some (.ref f16))) (l16 : K.lookup f16 = some ⟨oc16, od16, .func (PySem.W.fnOf "read_ring" "read_ring" (defArgs s_read_ring) (defBody s_read_ring) (defScope s_read_ring) .none kV16 dc16 pm16 an16 cd16 ct16), sl16⟩) (c16 : PySem.W.codeIn K cd16 "read_ring" = true) (k16 : PySem.W.keepIn K (.ref f16) = true)
    {f17 : Addr} {od17 an17 : Option Addr} {sl17 : Array (Option Value)} {oc17 kV17 dc17 pm17 cd17 ct17 : Value}
    (a17 : PySem.W.nsIn K mainGlobals "read_rings" = some (some (.ref f17))) (l17 : K.lookup f17 = some ⟨oc17, od17, .func (PySem.W.fnOf "read_rings" "read_rings" (defArgs s_read_rings) (defBody s_read_rings) (defScope s_read_rings) .none kV17 dc17 pm17 an17 cd17 ct17), sl17⟩) (c17 : PySem.W.codeIn K cd17 "read_rings" = true) (k17 : PySem.W.keepIn K (.ref f17) = true)
    {f18 : Addr} {od18 an18 : Option Addr} {sl18 : Array (Option Value)} {oc18 kV18 dc18 pm18 cd18 ct18 : Value}
    (a18 : PySem.W.nsIn K mainGlobals "_law_hand" = some (some (.ref f18))) (l18 : K.lookup f18 = some ⟨oc18, od18, .func (PySem.W.fnOf "_law_hand" "_law_hand" (defArgs s_l_hand) (defBody s_l_hand) (defScope s_l_hand) .none kV18 dc18 pm18 an18 cd18 ct18), sl18⟩) (c18 : PySem.W.codeIn K cd18 "_law_hand" = true) (k18 : PySem.W.keepIn K (.ref f18) = true)
    {f19 : Addr} {od19 an19 : Option Addr} {sl19 : Array (Option Value)} {oc19 kV19 dc19 pm19 cd19 ct19 : Value}
    (a19 : PySem.W.nsIn K mainGlobals "_law_next" = some (some (.ref f19))) (l19 : K.lookup f19 = some ⟨oc19, od19, .func (PySem.W.fnOf "_law_next" "_law_next" (defArgs s_l_next) (defBody s_l_next) (defScope s_l_next) .none kV19 dc19 pm19 an19 cd19 ct19), sl19⟩) (c19 : PySem.W.codeIn K cd19 "_law_next" = true) (k19 : PySem.W.keepIn K (.ref f19) = true)
    {f20 : Addr} {od20 an20 : Option Addr} {sl20 : Array (Option Value)} {oc20 kV20 dc20 pm20 cd20 ct20 : Value}
    (a20 : PySem.W.nsIn K mainGlobals "_law_take" = some (some (.ref f20))) (l20 : K.lookup f20 = some ⟨oc20, od20, .func (PySem.W.fnOf "_law_take" "_law_take" (defArgs s_l_take) (defBody s_l_take) (defScope s_l_take) .none kV20 dc20 pm20 an20 cd20 ct20), sl20⟩) (c20 : PySem.W.codeIn K cd20 "_law_take" = true) (k20 : PySem.W.keepIn K (.ref f20) = true)
    {f21 : Addr} {od21 an21 : Option Addr} {sl21 : Array (Option Value)} {oc21 kV21 dc21 pm21 cd21 ct21 : Value}
    (a21 : PySem.W.nsIn K mainGlobals "_law_draw" = some (some (.ref f21))) (l21 : K.lookup f21 = some ⟨oc21, od21, .func (PySem.W.fnOf "_law_draw" "_law_draw" (defArgs s_l_draw) (defBody s_l_draw) (defScope s_l_draw) .none kV21 dc21 pm21 an21 cd21 ct21), sl21⟩) (c21 : PySem.W.codeIn K cd21 "_law_draw" = true) (k21 : PySem.W.keepIn K (.ref f21) = true)
    {f22 : Addr} {od22 an22 : Option Addr} {sl22 : Array (Option Value)} {oc22 kV22 dc22 pm22 cd22 ct22 : Value}
    (a22 : PySem.W.nsIn K mainGlobals "_law_divisor" = some (some (.ref f22))) (l22 : K.lookup f22 = some ⟨oc22, od22, .func (PySem.W.fnOf "_law_divisor" "_law_divisor" (defArgs s_l_divisor) (defBody s_l_divisor) (defScope s_l_divisor) .none kV22 dc22 pm22 an22 cd22 ct22), sl22⟩) (c22 : PySem.W.codeIn K cd22 "_law_divisor" = true) (k22 : PySem.W.keepIn K (.ref f22) = true)
    {f23 : Addr} {od23 an23 : Option Addr} {sl23 : Array (Option Value)} {oc23 kV23 dc23 pm23 cd23 ct23 : Value}
    (a23 : PySem.W.nsIn K mainGlobals "_law_point" = some (some (.ref f23))) (l23 : K.lookup f23 = some ⟨oc23, od23, .func (PySem.W.fnOf "_law_point" "_law_point" (defArgs s_l_point) (defBody s_l_point) (defScope s_l_point) .none kV23 dc23 pm23 an23 cd23 ct23), sl23⟩) (c23 : PySem.W.codeIn K cd23 "_law_point" = true) (k23 : PySem.W.keepIn K (.ref f23) = true)
    {f24 : Addr} {od24 an24 : Option Addr} {sl24 : Array (Option Value)} {oc24 kV24 dc24 pm24 cd24 ct24 : Value}
    (a24 : PySem.W.nsIn K mainGlobals "_law_whole" = some (some (.ref f24))) (l24 : K.lookup f24 = some ⟨oc24, od24, .func (PySem.W.fnOf "_law_whole" "_law_whole" (defArgs s_l_whole) (defBody s_l_whole) (defScope s_l_whole) .none kV24 dc24 pm24 an24 cd24 ct24), sl24⟩) (c24 : PySem.W.codeIn K cd24 "_law_whole" = true) (k24 : PySem.W.keepIn K (.ref f24) = true)
    {f25 : Addr} {od25 an25 : Option Addr} {sl25 : Array (Option Value)} {oc25 kV25 dc25 pm25 cd25 ct25 : Value}
    (a25 : PySem.W.nsIn K mainGlobals "_law_number" = some (some (.ref f25))) (l25 : K.lookup f25 = some ⟨oc25, od25, .func (PySem.W.fnOf "_law_number" "_law_number" (defArgs s_l_number) (defBody s_l_number) (defScope s_l_number) .none kV25 dc25 pm25 an25 cd25 ct25), sl25⟩) (c25 : PySem.W.codeIn K cd25 "_law_number" = true) (k25 : PySem.W.keepIn K (.ref f25) = true)
    {f26 : Addr} {od26 an26 : Option Addr} {sl26 : Array (Option Value)} {oc26 kV26 dc26 pm26 cd26 ct26 : Value}
    (a26 : PySem.W.nsIn K mainGlobals "_law_fraction" = some (some (.ref f26))) (l26 : K.lookup f26 = some ⟨oc26, od26, .func (PySem.W.fnOf "_law_fraction" "_law_fraction" (defArgs s_l_fraction) (defBody s_l_fraction) (defScope s_l_fraction) .none kV26 dc26 pm26 an26 cd26 ct26), sl26⟩) (c26 : PySem.W.codeIn K cd26 "_law_fraction" = true) (k26 : PySem.W.keepIn K (.ref f26) = true)
    {f27 : Addr} {od27 an27 : Option Addr} {sl27 : Array (Option Value)} {oc27 kV27 dc27 pm27 cd27 ct27 : Value}
    (a27 : PySem.W.nsIn K mainGlobals "_law_text" = some (some (.ref f27))) (l27 : K.lookup f27 = some ⟨oc27, od27, .func (PySem.W.fnOf "_law_text" "_law_text" (defArgs s_l_text) (defBody s_l_text) (defScope s_l_text) .none kV27 dc27 pm27 an27 cd27 ct27), sl27⟩) (c27 : PySem.W.codeIn K cd27 "_law_text" = true) (k27 : PySem.W.keepIn K (.ref f27) = true)
    {f28 : Addr} {od28 an28 : Option Addr} {sl28 : Array (Option Value)} {oc28 kV28 dc28 pm28 cd28 ct28 : Value}
    (a28 : PySem.W.nsIn K mainGlobals "_law_point_by" = some (some (.ref f28))) (l28 : K.lookup f28 = some ⟨oc28, od28, .func (PySem.W.fnOf "_law_point_by" "_law_point_by" (defArgs s_l_point_by) (defBody s_l_point_by) (defScope s_l_point_by) .none kV28 dc28 pm28 an28 cd28 ct28), sl28⟩) (c28 : PySem.W.codeIn K cd28 "_law_point_by" = true) (k28 : PySem.W.keepIn K (.ref f28) = true)
    {f29 : Addr} {od29 an29 : Option Addr} {sl29 : Array (Option Value)} {oc29 kV29 dc29 pm29 cd29 ct29 : Value}
    (a29 : PySem.W.nsIn K mainGlobals "_law_all_whole" = some (some (.ref f29))) (l29 : K.lookup f29 = some ⟨oc29, od29, .func (PySem.W.fnOf "_law_all_whole" "_law_all_whole" (defArgs s_l_all_whole) (defBody s_l_all_whole) (defScope s_l_all_whole) .none kV29 dc29 pm29 an29 cd29 ct29), sl29⟩) (c29 : PySem.W.codeIn K cd29 "_law_all_whole" = true) (k29 : PySem.W.keepIn K (.ref f29) = true)
    {f30 : Addr} {od30 an30 : Option Addr} {sl30 : Array (Option Value)} {oc30 kV30 dc30 pm30 cd30 ct30 : Value}
    (a30 : PySem.W.nsIn K mainGlobals "_law_drawn" = some (some (.ref f30))) (l30 : K.lookup f30 = some ⟨oc30, od30, .func (PySem.W.fnOf "_law_drawn" "_law_drawn" (defArgs s_l_drawn) (defBody s_l_drawn) (defScope s_l_drawn) .none kV30 dc30 pm30 an30 cd30 ct30), sl30⟩) (c30 : PySem.W.codeIn K cd30 "_law_drawn" = true) (k30 : PySem.W.keepIn K (.ref f30) = true)
    {f31 : Addr} {od31 an31 : Option Addr} {sl31 : Array (Option Value)} {oc31 kV31 dc31 pm31 cd31 ct31 : Value}
    (a31 : PySem.W.nsIn K mainGlobals "_law_told" = some (some (.ref f31))) (l31 : K.lookup f31 = some ⟨oc31, od31, .func (PySem.W.fnOf "_law_told" "_law_told" (defArgs s_l_told) (defBody s_l_told) (defScope s_l_told) .none kV31 dc31 pm31 an31 cd31 ct31), sl31⟩) (c31 : PySem.W.codeIn K cd31 "_law_told" = true) (k31 : PySem.W.keepIn K (.ref f31) = true)
    {f32 : Addr} {od32 an32 : Option Addr} {sl32 : Array (Option Value)} {oc32 kV32 dc32 pm32 cd32 ct32 : Value}
    (a32 : PySem.W.nsIn K mainGlobals "law" = some (some (.ref f32))) (l32 : K.lookup f32 = some ⟨oc32, od32, .func (PySem.W.fnOf "law" "law" (defArgs s_law) (defBody s_law) (defScope s_law) .none kV32 dc32 pm32 an32 cd32 ct32), sl32⟩) (c32 : PySem.W.codeIn K cd32 "law" = true) (k32 : PySem.W.keepIn K (.ref f32) = true)
    (z0 : PySem.W.nsIn K mainGlobals "abs" = some none)
    (z1 : PySem.W.nsIn K mainGlobals "all" = some none)
    (z2 : PySem.W.nsIn K mainGlobals "bool" = some none)
    (z3 : PySem.W.nsIn K mainGlobals "int" = some none)
    (z4 : PySem.W.nsIn K mainGlobals "isinstance" = some none)
    (z5 : PySem.W.nsIn K mainGlobals "len" = some none)
    (z6 : PySem.W.nsIn K mainGlobals "list" = some none)
    (z7 : PySem.W.nsIn K mainGlobals "max" = some none)
    (z8 : PySem.W.nsIn K mainGlobals "range" = some none)
    (z9 : PySem.W.nsIn K mainGlobals "str" = some none)
    (z10 : PySem.W.nsIn K mainGlobals "tuple" = some none)
    {tq0 : Tok} (q0 : PySem.W.nsIn K mainGlobals "FIGURES" = some (some (.str "0123456789" tq0)))
    {tq1 : Tok} (q1 : PySem.W.nsIn K mainGlobals "MOST_FIGURES" = some (some (.int 60 tq1)))
    : ∃ fd : FuncData, (∀ (s : Shared) (v : Value), BindsTo s fd ⟨[v], []⟩ [("_law_script", v)]) ∧ ∀ base : Heap, K.In base → base.Ns mainGlobals mg → FnOk l.prog w K mg base CX0 7 fa fd ["_law_script"] (sp_law K) := by
  have e := hfa.symm.trans (PySem.W.mg_of X G a32)
  cases e
  have F0 := fun_mk (st := s_is_whole) l0 c0 k0
  have b0 := F0.binds (ps := ["thing"]) fun _ _ _ _ _ _ us hl => match us, hl with | [_], _ => rfl
  have F1 := fun_mk (st := s_divisor_of) l1 c1 k1
  have b1 := F1.binds (ps := ["one", "other"]) fun _ _ _ _ _ _ us hl => match us, hl with | [_, _], _ => rfl
  have F2 := fun_mk (st := s_fraction) l2 c2 k2
  have b2 := F2.binds (ps := ["top", "bottom"]) fun _ _ _ _ _ _ us hl => match us, hl with | [_, _], _ => rfl
  have F3 := fun_mk (st := s_is_fraction) l3 c3 k3
  have b3 := F3.binds (ps := ["thing"]) fun _ _ _ _ _ _ us hl => match us, hl with | [_], _ => rfl
  have F4 := fun_mk (st := s_point_by) l4 c4 k4
  have b4 := F4.binds (ps := ["a", "b", "c"]) fun _ _ _ _ _ _ us hl => match us, hl with | [_, _, _], _ => rfl
  have F5 := fun_mk (st := s_point_of) l5 c5 k5
  have b5 := F5.binds (ps := ["x", "y"]) fun _ _ _ _ _ _ us hl => match us, hl with | [_, _], _ => rfl
  have F6 := fun_mk (st := s_x_of) l6 c6 k6
  have b6 := F6.binds (ps := ["p"]) fun _ _ _ _ _ _ us hl => match us, hl with | [_], _ => rfl
  have F7 := fun_mk (st := s_y_of) l7 c7 k7
  have b7 := F7.binds (ps := ["p"]) fun _ _ _ _ _ _ us hl => match us, hl with | [_], _ => rfl
  have F8 := fun_mk (st := s_show_fraction) l8 c8 k8
  have b8 := F8.binds (ps := ["one"]) fun _ _ _ _ _ _ us hl => match us, hl with | [_], _ => rfl
  have F9 := fun_mk (st := s_show_point) l9 c9 k9
  have b9 := F9.binds (ps := ["p"]) fun _ _ _ _ _ _ us hl => match us, hl with | [_], _ => rfl
  have F10 := fun_mk (st := s_show_ring) l10 c10 k10
  have b10 := F10.binds (ps := ["ring"]) fun _ _ _ _ _ _ us hl => match us, hl with | [_], _ => rfl
  have F11 := fun_mk (st := s_show_rings) l11 c11 k11
  have b11 := F11.binds (ps := ["rings"]) fun _ _ _ _ _ _ us hl => match us, hl with | [_], _ => rfl
  have F12 := fun_mk (st := s_check_text) l12 c12 k12
  have b12 := F12.binds (ps := ["text"]) fun _ _ _ _ _ _ us hl => match us, hl with | [_], _ => rfl
  have F13 := fun_mk (st := s_read_whole) l13 c13 k13
  have b13 := F13.binds (ps := ["text"]) fun _ _ _ _ _ _ us hl => match us, hl with | [_], _ => rfl
  have F14 := fun_mk (st := s_read_fraction) l14 c14 k14
  have b14 := F14.binds (ps := ["text"]) fun _ _ _ _ _ _ us hl => match us, hl with | [_], _ => rfl
  have F15 := fun_mk (st := s_read_point) l15 c15 k15
  have b15 := F15.binds (ps := ["text"]) fun _ _ _ _ _ _ us hl => match us, hl with | [_], _ => rfl
  have F16 := fun_mk (st := s_read_ring) l16 c16 k16
  have b16 := F16.binds (ps := ["text"]) fun _ _ _ _ _ _ us hl => match us, hl with | [_], _ => rfl
  have F17 := fun_mk (st := s_read_rings) l17 c17 k17
  have b17 := F17.binds (ps := ["text"]) fun _ _ _ _ _ _ us hl => match us, hl with | [_], _ => rfl
  have F18 := fun_mk (st := s_l_hand) l18 c18 k18
  have b18 := F18.binds (ps := ["_law_script"]) fun _ _ _ _ _ _ us hl => match us, hl with | [_], _ => rfl
  have F19 := fun_mk (st := s_l_next) l19 c19 k19
  have b19 := F19.binds (ps := ["_law_hand_here"]) fun _ _ _ _ _ _ us hl => match us, hl with | [_], _ => rfl
  have F20 := fun_mk (st := s_l_take) l20 c20 k20
  have b20 := F20.binds (ps := ["_law_hand_here"]) fun _ _ _ _ _ _ us hl => match us, hl with | [_], _ => rfl
  have F21 := fun_mk (st := s_l_draw) l21 c21 k21
  have b21 := F21.binds (ps := ["_law_hand_here", "_law_many"]) fun _ _ _ _ _ _ us hl => match us, hl with | [_, _], _ => rfl
  have F22 := fun_mk (st := s_l_divisor) l22 c22 k22
  have b22 := F22.binds (ps := ["_law_one", "_law_other"]) fun _ _ _ _ _ _ us hl => match us, hl with | [_, _], _ => rfl
  have F23 := fun_mk (st := s_l_point) l23 c23 k23
  have b23 := F23.binds (ps := ["_law_a", "_law_b", "_law_c"]) fun _ _ _ _ _ _ us hl => match us, hl with | [_, _, _], _ => rfl
  have F24 := fun_mk (st := s_l_whole) l24 c24 k24
  have b24 := F24.binds (ps := ["_law_thing"]) fun _ _ _ _ _ _ us hl => match us, hl with | [_], _ => rfl
  have F25 := fun_mk (st := s_l_number) l25 c25 k25
  have b25 := F25.binds (ps := ["_law_hand_here"]) fun _ _ _ _ _ _ us hl => match us, hl with | [_], _ => rfl
  have F26 := fun_mk (st := s_l_fraction) l26 c26 k26
  have b26 := F26.binds (ps := ["_law_hand_here"]) fun _ _ _ _ _ _ us hl => match us, hl with | [_], _ => rfl
  have F27 := fun_mk (st := s_l_text) l27 c27 k27
  have b27 := F27.binds (ps := ["_law_one"]) fun _ _ _ _ _ _ us hl => match us, hl with | [_], _ => rfl
  have F28 := fun_mk (st := s_l_point_by) l28 c28 k28
  have b28 := F28.binds (ps := ["_law_x", "_law_y"]) fun _ _ _ _ _ _ us hl => match us, hl with | [_, _], _ => rfl
  have F29 := fun_mk (st := s_l_all_whole) l29 c29 k29
  have b29 := F29.binds (ps := ["_law_found", "_law_many"]) fun _ _ _ _ _ _ us hl => match us, hl with | [_, _], _ => rfl
  have F30 := fun_mk (st := s_l_drawn) l30 c30 k30
  have b30 := F30.binds (ps := ["_law_hand_here"]) fun _ _ _ _ _ _ us hl => match us, hl with | [_], _ => rfl
  have F31 := fun_mk (st := s_l_told) l31 c31 k31
  have b31 := F31.binds (ps := ["_law_found", "_law_due"]) fun _ _ _ _ _ _ us hl => match us, hl with | [_, _], _ => rfl
  have F32 := fun_mk (st := s_law) l32 c32 k32
  have b32 := F32.binds (ps := ["_law_script"]) fun _ _ _ _ _ _ us hl => match us, hl with | [_], _ => rfl
  have T : Txt K mg { f_is_whole := f0, d_is_whole := _, f_divisor_of := f1, d_divisor_of := _, f_fraction := f2, d_fraction := _, f_is_fraction := f3, d_is_fraction := _, f_point_by := f4, d_point_by := _, f_point_of := f5, d_point_of := _, f_x_of := f6, d_x_of := _, f_y_of := f7, d_y_of := _, f_show_fraction := f8, d_show_fraction := _, f_show_point := f9, d_show_point := _, f_show_ring := f10, d_show_ring := _, f_show_rings := f11, d_show_rings := _, f_check_text := f12, d_check_text := _, f_read_whole := f13, d_read_whole := _, f_read_fraction := f14, d_read_fraction := _, f_read_point := f15, d_read_point := _, f_read_ring := f16, d_read_ring := _, f_read_rings := f17, d_read_rings := _, f_l_hand := f18, d_l_hand := _, f_l_next := f19, d_l_next := _, f_l_take := f20, d_l_take := _, f_l_draw := f21, d_l_draw := _, f_l_divisor := f22, d_l_divisor := _, f_l_point := f23, d_l_point := _, f_l_whole := f24, d_l_whole := _, f_l_number := f25, d_l_number := _, f_l_fraction := f26, d_l_fraction := _, f_l_text := f27, d_l_text := _, f_l_point_by := f28, d_l_point_by := _, f_l_all_whole := f29, d_l_all_whole := _, f_l_drawn := f30, d_l_drawn := _, f_l_told := f31, d_l_told := _, f_law := fa, d_law := _ } := { is_whole := ⟨F0, b0, PySem.W.mg_of X G a0⟩, divisor_of := ⟨F1, b1, PySem.W.mg_of X G a1⟩, fraction := ⟨F2, b2, PySem.W.mg_of X G a2⟩, is_fraction := ⟨F3, b3, PySem.W.mg_of X G a3⟩, point_by := ⟨F4, b4, PySem.W.mg_of X G a4⟩, point_of := ⟨F5, b5, PySem.W.mg_of X G a5⟩, x_of := ⟨F6, b6, PySem.W.mg_of X G a6⟩, y_of := ⟨F7, b7, PySem.W.mg_of X G a7⟩, show_fraction := ⟨F8, b8, PySem.W.mg_of X G a8⟩, show_point := ⟨F9, b9, PySem.W.mg_of X G a9⟩, show_ring := ⟨F10, b10, PySem.W.mg_of X G a10⟩, show_rings := ⟨F11, b11, PySem.W.mg_of X G a11⟩, check_text := ⟨F12, b12, PySem.W.mg_of X G a12⟩, read_whole := ⟨F13, b13, PySem.W.mg_of X G a13⟩, read_fraction := ⟨F14, b14, PySem.W.mg_of X G a14⟩, read_point := ⟨F15, b15, PySem.W.mg_of X G a15⟩, read_ring := ⟨F16, b16, PySem.W.mg_of X G a16⟩, read_rings := ⟨F17, b17, PySem.W.mg_of X G a17⟩, l_hand := ⟨F18, b18, PySem.W.mg_of X G a18⟩, l_next := ⟨F19, b19, PySem.W.mg_of X G a19⟩, l_take := ⟨F20, b20, PySem.W.mg_of X G a20⟩, l_draw := ⟨F21, b21, PySem.W.mg_of X G a21⟩, l_divisor := ⟨F22, b22, PySem.W.mg_of X G a22⟩, l_point := ⟨F23, b23, PySem.W.mg_of X G a23⟩, l_whole := ⟨F24, b24, PySem.W.mg_of X G a24⟩, l_number := ⟨F25, b25, PySem.W.mg_of X G a25⟩, l_fraction := ⟨F26, b26, PySem.W.mg_of X G a26⟩, l_text := ⟨F27, b27, PySem.W.mg_of X G a27⟩, l_point_by := ⟨F28, b28, PySem.W.mg_of X G a28⟩, l_all_whole := ⟨F29, b29, PySem.W.mg_of X G a29⟩, l_drawn := ⟨F30, b30, PySem.W.mg_of X G a30⟩, l_told := ⟨F31, b31, PySem.W.mg_of X G a31⟩, law := ⟨F32, b32, PySem.W.mg_of X G a32⟩, b_abs := PySem.W.mg_none_of X G z0, b_all := PySem.W.mg_none_of X G z1, b_bool := PySem.W.mg_none_of X G z2, b_int := PySem.W.mg_none_of X G z3, b_isinstance := PySem.W.mg_none_of X G z4, b_len := PySem.W.mg_none_of X G z5, b_list := PySem.W.mg_none_of X G z6, b_max := PySem.W.mg_none_of X G z7, b_range := PySem.W.mg_none_of X G z8, b_str := PySem.W.mg_none_of X G z9, b_tuple := PySem.W.mg_none_of X G z10, k_FIGURES := ⟨tq0, PySem.W.mg_of X G q0⟩, k_MOST_FIGURES := ⟨tq1, PySem.W.mg_of X G q1⟩ }
  exact ⟨PySem.W.fnOf "law" "law" (defArgs s_law) (defBody s_law) (defScope s_law) .none kV32 dc32 pm32 an32 cd32 ct32, fun s v => .of_eq rfl, fun base _ _ => ok_law T⟩
theorem walk {l : PySem.W.OpenLaw} {q : Program} {loose : List Str} {XP : (Str → Option Value) → Heap → Prop} {YP : World → Heap → Prop} {d : DefRec} {K : Params → PySem.W.Frag} (hn : l.most = some 63) (hdf : d.params.defaults = [])
    (hY : ∀ (w : World) (h : Heap), YP w h → (K w.params).In h)
    (F : ∀ (w : World) (mg : Str → Option Value) (fa : Addr) (h : Heap), (K w.params).In h → h.Ns mainGlobals mg → mg d.name = some (.ref fa) →
      ∃ fd : FuncData, (∀ (s : Shared) (u : Value), BindsTo s fd ⟨[u], []⟩ [("_law_script", u)]) ∧ ∀ base : Heap, (K w.params).In base → base.Ns mainGlobals mg → FnOk l.prog w (K w.params) mg base CX0 7 fa fd ["_law_script"] (sp_law (K w.params))) :
    PySem.W.WalkO q loose XP YP l.row.toRowW d [] (fun f vs => PySem.call f vs) :=
  L2.walk_of (n := 63) (k := 7) (x := "_law_script") (CX := fun _ => CX0) (sp := fun w => sp_law (K w.params)) hn (by decide) hdf ⟨rfl, by decide, by decide⟩ hY F (fun _ _ a ns hl _ hS => ⟨a, ns, rfl, hS, hl, fun _ => rfl⟩) fun _ _ _ _ _ z => z
end My
open PySem PySem.W PyProof.Rows
set_option maxRecDepth 100000 in
set_option maxHeartbeats 0 in
theorem PySem.Challenge.cw_plymap_k92_rings_holds : PySem.Challenge.rw_plymap_k92_rings.Holds := by
  w_on; o_law; k_head; (case hw => w_witness2)
  k_fill
  refine My.walk (l := PySem.Challenge.rw_plymap_k92_rings) rfl rfl (fun w h Y => PySem.W.kIn_of Y) ?F
  case F =>
    intro w mg fa h KX G hmg
    refine' My.all_mk KX G hmg ?a0 ?l0 ?c0 ?k0 ?a1 ?l1 ?c1 ?k1 ?a2 ?l2 ?c2 ?k2 ?a3 ?l3 ?c3 ?k3 ?a4 ?l4 ?c4 ?k4 ?a5 ?l5 ?c5 ?k5 ?a6 ?l6 ?c6 ?k6 ?a7 ?l7 ?c7 ?k7 ?a8 ?l8 ?c8 ?k8 ?a9 ?l9 ?c9 ?k9 ?a10 ?l10 ?c10 ?k10 ?a11 ?l11 ?c11 ?k11 ?a12 ?l12 ?c12 ?k12 ?a13 ?l13 ?c13 ?k13 ?a14 ?l14 ?c14 ?k14 ?a15 ?l15 ?c15 ?k15 ?a16 ?l16 ?c16 ?k16 ?a17 ?l17 ?c17 ?k17 ?a18 ?l18 ?c18 ?k18 ?a19 ?l19 ?c19 ?k19 ?a20 ?l20 ?c20 ?k20 ?a21 ?l21 ?c21 ?k21 ?a22 ?l22 ?c22 ?k22 ?a23 ?l23 ?c23 ?k23 ?a24 ?l24 ?c24 ?k24 ?a25 ?l25 ?c25 ?k25 ?a26 ?l26 ?c26 ?k26 ?a27 ?l27 ?c27 ?k27 ?a28 ?l28 ?c28 ?k28 ?a29 ?l29 ?c29 ?k29 ?a30 ?l30 ?c30 ?k30 ?a31 ?l31 ?c31 ?k31 ?a32 ?l32 ?c32 ?k32 ?z0 ?z1 ?z2 ?z3 ?z4 ?z5 ?z6 ?z7 ?z8 ?z9 ?z10 ?q0 ?q1
    (case a0 => k_is)
    (case l0 => k_is)
    (case c0 => k_is)
    (case k0 => k_is)
    (case a1 => k_is)
    (case l1 => k_is)
    (case c1 => k_is)
    (case k1 => k_is)
    (case a2 => k_is)
    (case l2 => k_is)
    (case c2 => k_is)
    (case k2 => k_is)
    (case a3 => k_is)
    (case l3 => k_is)
    (case c3 => k_is)
    (case k3 => k_is)
    (case a4 => k_is)
    (case l4 => k_is)
    (case c4 => k_is)
    (case k4 => k_is)
    (case a5 => k_is)
    (case l5 => k_is)
    (case c5 => k_is)
    (case k5 => k_is)
    (case a6 => k_is)
    (case l6 => k_is)
    (case c6 => k_is)
    (case k6 => k_is)
    (case a7 => k_is)
    (case l7 => k_is)
    (case c7 => k_is)
    (case k7 => k_is)
    (case a8 => k_is)
    (case l8 => k_is)
    (case c8 => k_is)
    (case k8 => k_is)
    (case a9 => k_is)
    (case l9 => k_is)
    (case c9 => k_is)
    (case k9 => k_is)
    (case a10 => k_is)
    (case l10 => k_is)
    (case c10 => k_is)
    (case k10 => k_is)
    (case a11 => k_is)
    (case l11 => k_is)
    (case c11 => k_is)
    (case k11 => k_is)
    (case a12 => k_is)
    (case l12 => k_is)
    (case c12 => k_is)
    (case k12 => k_is)
    (case a13 => k_is)
    (case l13 => k_is)
    (case c13 => k_is)
    (case k13 => k_is)
    (case a14 => k_is)
    (case l14 => k_is)
    (case c14 => k_is)
    (case k14 => k_is)
    (case a15 => k_is)
    (case l15 => k_is)
    (case c15 => k_is)
    (case k15 => k_is)
    (case a16 => k_is)
    (case l16 => k_is)
    (case c16 => k_is)
    (case k16 => k_is)
    (case a17 => k_is)
    (case l17 => k_is)
    (case c17 => k_is)
    (case k17 => k_is)
    (case a18 => k_is)
    (case l18 => k_is)
    (case c18 => k_is)
    (case k18 => k_is)
    (case a19 => k_is)
    (case l19 => k_is)
    (case c19 => k_is)
    (case k19 => k_is)
    (case a20 => k_is)
    (case l20 => k_is)
    (case c20 => k_is)
    (case k20 => k_is)
    (case a21 => k_is)
    (case l21 => k_is)
    (case c21 => k_is)
    (case k21 => k_is)
    (case a22 => k_is)
    (case l22 => k_is)
    (case c22 => k_is)
    (case k22 => k_is)
    (case a23 => k_is)
    (case l23 => k_is)
    (case c23 => k_is)
    (case k23 => k_is)
    (case a24 => k_is)
    (case l24 => k_is)
    (case c24 => k_is)
    (case k24 => k_is)
    (case a25 => k_is)
    (case l25 => k_is)
    (case c25 => k_is)
    (case k25 => k_is)
    (case a26 => k_is)
    (case l26 => k_is)
    (case c26 => k_is)
    (case k26 => k_is)
    (case a27 => k_is)
    (case l27 => k_is)
    (case c27 => k_is)
    (case k27 => k_is)
    (case a28 => k_is)
    (case l28 => k_is)
    (case c28 => k_is)
    (case k28 => k_is)
    (case a29 => k_is)
    (case l29 => k_is)
    (case c29 => k_is)
    (case k29 => k_is)
    (case a30 => k_is)
    (case l30 => k_is)
    (case c30 => k_is)
    (case k30 => k_is)
    (case a31 => k_is)
    (case l31 => k_is)
    (case c31 => k_is)
    (case k31 => k_is)
    (case a32 => k_is)
    (case l32 => k_is)
    (case c32 => k_is)
    (case k32 => k_is)
    (case z0 => k_is)
    (case z1 => k_is)
    (case z2 => k_is)
    (case z3 => k_is)
    (case z4 => k_is)
    (case z5 => k_is)
    (case z6 => k_is)
    (case z7 => k_is)
    (case z8 => k_is)
    (case z9 => k_is)
    (case z10 => k_is)
    (case q0 => k_is)
    (case q1 => k_is)
